/-
  Layer 10: ScanCut.
-/
import Derived.Test.YtefnkjajjidfaaaDoorM5
namespace Go.Proofs.YtefnkjajjidfaaaDoor
open Go.RowKit


theorem lused1 {W : World} {L : Nat} {dp : Option Addr} {c : Sup} {g : Lg} {ws : List Wr} {al : List R.Rec} {s : Sc} (hl : GAt W L dp g) (h : Sty c g ws al s) : Calls Tryd.prog 13 #[.pointer (some ⟨L, 0, none⟩)] W fun e w' => e = .returned (.int .i64 (al.length : Int)) ∧ W = w' := by
  refine (lused_at hl h.ok).mono ?_
  rintro e w' ⟨rfl, rfl⟩
  refine ⟨?_, rfl⟩
  rw [h.gt, h.fin_is.1]
  simp
theorem wrap_np {k lc y np : Nat} (hk : k ≤ 13) (hM : lc * (1 + y) ≤ 13 * 9) (h : np = k + lc * (1 + y)) : IntKind.u64.wrap ((k : Int) + IntKind.u64.wrap ((lc : Int) * (1 + (y : Int)))) = (np : Int) := by
  have e : (lc : Int) * (1 + (y : Int)) = ((lc * (1 + y) : Nat) : Int) := by rw [Int.natCast_mul, Int.natCast_add]; rfl
  rw [e]
  obtain ⟨M, hMe⟩ : ∃ M, M = lc * (1 + y) := ⟨_, rfl⟩
  rw [← hMe] at hM h ⊢
  rw [show IntKind.u64.wrap (M : Int) = M from G.wrap_u (by omega) (by omega), G.wrap_u (by omega) (by omega)]; omega
theorem slot_in {k lc : Nat} (h : k < lc) (h2 : 2 ≤ lc) (hl : lc ≤ 64) : G.slotS (k : Int) (lc : Int) = ((k : Int), 0) := by
  unfold G.slotS
  simp only [G.Cap]
  rw [if_pos (by omega)]
  first | (rw [if_neg (by omega), Int.emod_eq_of_lt (by omega) (by omega)]) | (rw [Int.emod_eq_of_lt (by omega) (by omega)])
set_option maxHeartbeats 4000000 in
set_option maxRecDepth 100000 in
theorem scanCut_any (s0 : Sup) (ps : Option Addr) (n cs : Nat) (sets : List Int) (sd : Int) (op : Bool) (pl : Option Addr) (m cl : Nat) (A H : Int) (x : Int) (hH : i64 H) (hx : 0 ≤ x ∧ x < 4294967296) (w : World) (ht : Tab w) (hS : UIn w ps n sets) (hn : n ≤ 140737488355328) :
    Calls Tryd.prog 4 #[.agg (stc s0 ps n cs sd op pl m cl).toArray, .int .i64 A, .int .i64 H, .int .u32 x] w fun e w' => e = .returned (.bool true) ∧ Below w.heap.size w w' := by
  have HT : Hid (Tab w) := ht
  have HU : Hid (UIn w ps n sets) := hS
  obtain ⟨wa, hwa⟩ : ∃ y, y = w.alloc (.cells (stc s0 ps n cs sd op pl m cl).toArray 43) := ⟨_, rfl⟩
  have ewa := hwa.symm
  have B0 : Hid (Below w.heap.size w wa) := by rw [hwa]; exact below_alloc w _
  have S0 : Hid (LAt 43 wa w.heap.size (stc s0 ps n cs sd op pl m cl)) := by rw [hwa]; exact LAt.new 43 w _
  clear hwa ht hS
  go_enter Tryd.func4, Tryd.ntmps4
  go_wp2_with fail
  refine (awake_any wa (HT.out.later B0.out)).mono ?_
  rintro e w1 ⟨rfl, b1⟩
  have B1 : Hid (Below w.heap.size w w1) := below_then B0.out b1
  have S1 : Hid (LAt 43 w1 w.heap.size (stc s0 ps n cs sd op pl m cl)) := LAt.later S0.out b1
  have L1 : Hid (_) := LAt.loadSt S1.out
  clear b1 B0 S0 ewa
  go_wp2_with ((with_reducible refine at_ops ?_); (refine wpList_load_is (by rfl) 43 rfl rfl L1.out ?_); simp only [Act.put, List.setIfInBounds_toArray, List.set_cons_zero, List.set_cons_succ])
  refine (told_any s0 ps n cs sets sd op pl m cl w1 (HT.out.later B1.out) (HU.out.later B1.out) hn).mono ?_
  rintro e w2 ⟨p, L, q, d, vs, B, g, ws, al, s, rfl, lb, st, wl, xo, hB, b2⟩
  have hfin := st.fin_is
  generalize hN : s.txs.length = N at *
  have A2 : Hid (_) := allocR w2
  have T2 : Hid (_) := store_newR w2 0 1 s.fin (v := .slice q N d) rfl
  obtain ⟨w3, hw3⟩ : ∃ y, y = w2.alloc (.cells (gcells 0 1 s.fin (.slice q N d)).toArray 48) := ⟨_, rfl⟩
  rw [← hw3] at T2
  have b3 : Below w2.heap.size w2 w3 := by rw [hw3]; exact below_alloc w2 _
  have W3 : LAt 48 w3 w2.heap.size (gcells 0 1 s.fin (.slice q N d)) := by rw [hw3]; exact LAt.new 48 w2 _
  have b13 : Below w1.heap.size w1 w3 := below_then b2 b3
  have B3 : Below w.heap.size w w3 := below_then B1.out b13
  have S3 : Hid (LAt 43 w3 w.heap.size (stc s0 ps n cs sd op pl m cl)) := LAt.later S1.out b13
  have L4 : Hid (_) := stc_range S3.out
  have X3 : XOwn 28 w3 w1.heap.size (.slice q N d) s.txs vs := xo.later b3
  have G3 : LB w3 B L p (newS (cfgS s0)) ws g := lb.later b3
  have HY : Hid (Sty (cfgS s0) g ws al s) := st
  have hsz : g.sz = cntS (cfgS s0) := by unfold Lg.sz cntS; rw [st.gc]
  have hwB : w.heap.size ≤ B := Nat.le_trans B1.out.size hB
  clear hw3 b3 b13 b2 lb st xo L1 S1 B1 hB S3
  go_wp2_with ((with_reducible refine at_ops ?_); (first | (refine wpList_alloc_is (by rfl) 48 rfl A2.out ?_) | (refine wpList_store_is (by rfl) 48 rfl rfl rfl T2.out ?_) | (refine wpList_load_is (by rfl) 39 rfl rfl L4.out ?_)); simp only [Act.put, List.setIfInBounds_toArray, List.set_cons_zero, List.set_cons_succ])
  refine (config10_any s0 w3).mono ?_
  rintro e w6 ⟨rfl, b6⟩
  have A6 : Hid (_) := alloc23 w6
  have T6 : Hid (_) := store_new23 w6 (cfgS s0)
  obtain ⟨w7, hw7⟩ : ∃ y, y = w6.alloc (.cells (ccells (cfgS s0)).toArray 39) := ⟨_, rfl⟩
  rw [← hw7] at T6
  have b7 : Below w6.heap.size w6 w7 := by rw [hw7]; exact below_alloc w6 _
  have C7 : CAt w7 w6.heap.size (cfgS s0) := by rw [hw7]; exact LAt.new 39 w6 _
  have b37 : Below w3.heap.size w3 w7 := below_then b6 b7
  have R7 : Hid (RS w w7 w1.heap.size w2.heap.size w6.heap.size B L p (cfgS s0) g ws s.fin q N d s.txs vs) := ⟨G3.later b37, LAt.later W3 b37, C7, X3.later b37, below_then B3 b37, hwB⟩
  clear hw7 b6 b7 L4 A2 T2 C7 b37 G3 W3 X3 B3 hwB
  obtain ⟨bl, hbl⟩ : ∃ bl : Nat, (cfgS s0).bl = bl := ⟨(cfgS s0).bl.toNat, by have := (cfgS_may s0).1; omega⟩
  obtain ⟨lc, hlc⟩ : ∃ lc : Nat, (cfgS s0).lc = lc := ⟨(cfgS s0).lc.toNat, by have := (cfgS_may s0).2.1; omega⟩
  have hbl6 : bl ≤ 6 := by have := (cfgS_small s0).2; omega
  have hlc13 : lc ≤ 13 := by have := (cfgS_small s0).1; omega
  obtain ⟨f, hf⟩ : ∃ f : Nat, al.length = f := ⟨_, rfl⟩
  rw [hf] at hfin wl
  obtain ⟨hgf, hfl⟩ := hfin
  have hflc : f ≤ lc := by omega
  have hwl : ws.length ≤ 13 := by omega
  clear hfl
  go_wp2_with ((with_reducible refine at_ops ?_); (first | (refine wpList_alloc_is (by rfl) 39 rfl A6.out ?_) | (refine wpList_store_is (by rfl) 39 rfl rfl rfl T6.out ?_)); simp only [Act.put, List.setIfInBounds_toArray, List.set_cons_zero, List.set_cons_succ])
  refine (lused1 R7.out.lb.log HY.out).mono ?_
  rintro e wn ⟨rfl, rfl⟩
  rw [hf]
  by_cases f0 : f = 0
  · subst f0
    have FF : Hid (Below w.heap.size w w7) := R7.out.low
    go_wp2_with fail
    go_ret
    exact ⟨rfl, FF.out⟩
  obtain ⟨r, k, hr1, hr2, hr3, hr4, hr5, hkf⟩ := R.place A f (by omega)
  have hf0 : ¬ ((f : Int) = 0) := by omega
  have c0 : w7.cell? ⟨w6.heap.size, 0, none⟩ = some (.int .i64 (bl : Int)) := by rw [← hbl]; exact CAt.c0 R7.out.cf
  have c1 : w7.cell? ⟨w6.heap.size, 1, none⟩ = some (.int .i64 (lc : Int)) := by rw [← hlc]; exact CAt.c1 R7.out.cf
  go_wp2_with fail
  refine (G.slot_any (k : Int) (lc : Int) (by omega) w7).mono ?_
  rintro e wn ⟨rfl, rfl⟩
  have hlc2 : 2 ≤ lc := by have := (cfgS_may s0).2.1; omega
  rw [slot_in (show k < lc by omega) hlc2 (by omega)]
  clear hr1 hr2 hr3 hr4 hr5 hf0
  obtain ⟨r3, k3, hr1, hr2, hr3, hr4, hr5, hk3⟩ : ∃ (r3 : Int) (k3 : Nat), H.tmod 3 = r3 ∧ -3 < r3 ∧ r3 < 3 ∧ (r3 + 3).tmod 3 = (k3 : Int) ∧ (r3 + 3) % 3 = (k3 : Int) ∧ k3 < 3 := R.place H 3 (by omega)
  go_wp2_with (go_at_call 15; refine (num_any _ _).mono ?_; rintro e wn ⟨rfl, rfl⟩)
  rw [show (1 + (bl : Int) + (k : Int)) = ((1 + bl + k : Nat) : Int) by omega]
  have G7 : Hid (Dsk w7 (fun k => B ≤ k ∧ k ≠ L) p (cntS (cfgS s0)) (newS (cfgS s0)) ws) := by rw [← hsz]; exact R7.out.lb.dsk
  refine (read_good G7.out (1 + bl + k) (by unfold cntS; omega)).mono ?_
  rintro e w8 ⟨v8, rfl, own8, b8⟩
  obtain ⟨rk, hrk⟩ : ∃ rk, al[k]? = some rk := ⟨_, List.getElem?_eq_getElem (by omega)⟩
  have HK : Hid (_) := HY.out.rec_at hrk
  have ek : newest ws (newS (cfgS s0)) (1 + bl + k) = R.encS rk := by
    have := HK.out.1
    rw [hbl, show (1 + (bl : Int) + (k : Int)).toNat = 1 + bl + k by omega] at this
    exact this
  rw [ek] at own8
  have hby : Bytes (R.encS rk) := by rw [← ek]; exact newest_bytes G7.out _
  obtain ⟨q8, c8, rfl, in8, hc8, -, -⟩ := own_in own8 hby
  have O8 : Hid (w8.ownsRow w7.heap.size 5 1 (.slice q8 64 c8) 64 (U8 (R.encS rk))) := own8
  have I8 : Hid (BIn w8 q8 64 (R.encS rk)) := in8
  have R8 : Hid (RS w w8 w1.heap.size w2.heap.size w6.heap.size B L p (cfgS s0) g ws s.fin q N d s.txs vs) := R7.out.later b8
  have B78 : Hid (Below w7.heap.size w7 w8) := b8
  clear own8 in8 b8 ek c0 c1
  have HOff : Hid (∀ (rd : Nat → List Int) (b9 : List Int), ((R.decS b9).2 ≠ 0 ∨ ∃ r : R.Rec, b9 = R.encS r ∧ r.Wf ∧ R.may r = true ∧ r.pos ≠ (k : Int)) → rd (1 + bl + k) = b9 → (stS (cfgS s0) rd (k : Int)).2 = false) := by
    intro rd b9 hb9 hrd
    have e1 : (1 + (cfgS s0).bl + (k : Int) % (cfgS s0).lc).toNat = 1 + bl + k := by
      rw [hbl, hlc, lg_eq (by omega) (by omega)]; omega
    rcases hb9 with h9 | ⟨r9, rfl, h2, h3, h4⟩
    · exact st_bad (by rw [e1]; exact hrd) h9
    · exact st_pos (by rw [e1]; exact hrd) h2 h3 h4
  have hfin : ∀ x ∈ s.txs, 0 ≤ x.p ∧ x.p < 1000 := by
    have := (HY.out.found (fun _ _ => rfl) (newest_bytes G7.out)).2
    intro y hy
    have := this.ps y hy
    omega
  have HFin : Hid (∀ x ∈ s.txs, 0 ≤ x.p ∧ x.p < 1000) := hfin
  have hN64 : N ≤ 64 := by have := (HY.out.found (fun _ _ => rfl) (newest_bytes G7.out)).2.tl; omega
  clear hfin G7
  have h3 : k3 = 0 ∨ k3 = 1 ∨ k3 = 2 := by omega
  rcases h3 with rfl | rfl | rfl
  · have hr4' : (r3 + 3).tmod 3 = 0 := hr4
    have hr5' : (r3 + 3) % 3 = 0 := hr5
    clear hr4 hr5
    obtain ⟨r6, k6, g1, g2, g3, g4, g5, hk6⟩ : ∃ (r6 : Int) (k6 : Nat), (H.tdiv 3).tmod 61 = r6 ∧ -61 < r6 ∧ r6 < 61 ∧ (r6 + 61).tmod 61 = (k6 : Int) ∧ (r6 + 61) % 61 = (k6 : Int) ∧ k6 < 61 := R.place (H.tdiv 3) 61 (by omega)
    obtain ⟨g9, cap9, hq8⟩ := ownsRow_succ (k := 63) O8.out
    simp only [Value.slice.injEq] at hq8
    obtain ⟨rfl, -, rfl⟩ := hq8
    by_cases hx0 : x = 0
    · subst hx0
      obtain ⟨t, ht1⟩ : ∃ t : Nat, t = 1 := ⟨_, rfl⟩
      have hTn : t < 4294967296 := by omega
      have hT0 : t ≠ 0 := by omega
      go_wp2_with (go_at_call 15; refine (num_any _ _).mono ?_; rintro e wn ⟨rfl, rfl⟩)
      rw [show Value.int IntKind.u32 1 = Value.int .u32 (t : Int) by rw [ht1]; rfl]
      clear ht1
      clear g1 g2 g3 g4 g5
      go_loopw [20] (fun c wr => ∃ (j : Nat) (Y : List Int), j ≤ 4 ∧ c = .int .i64 j ∧ Hid (Bytes Y ∧ Y.length = 64 ∧ crc Y = 558161692 ^^^ R.acc t (64 - k6) j ∧ wr.ownsRow w7.heap.size 5 1 (.slice (some ⟨g9, 0, none⟩) 64 c8) 64 (U8 Y) ∧ Below w7.heap.size w7 wr)) (fun c _ => 4 - (intOf c).toNat)
      case atStart => exact ⟨0, R.encS rk, by omega, rfl, hby, I8.out.len, by rw [R.acc_zero, Nat.xor_zero]; exact R.encS_sum rk HK.out.2.1 HK.out.2.2.1, O8.out, B78.out⟩
      case round =>
        obtain ⟨j, Y, hj, rfl, HR⟩ := hrel
        clear O8 I8 B78 R8
        obtain ⟨wy, hwy⟩ : ∃ wy, wy = wr := ⟨_, rfl⟩
        subst hwy
        by_cases hlt : j < 4
        · have hiY : k6 + j < Y.length := by rw [HR.out.2.1]; omega
          have hxx : (t : Int) / 2 ^ (8 * j) % 256 = ((t / 2 ^ (8 * j) % 256 : Nat) : Int) := by simp
          have TT : Hid (_) := R.turn_text Y HR.out.1 (k6 + j) hiY ((t : Int) / 2 ^ (8 * j) % 256) (by omega) (by omega)
          have hcY : wy.cell? ⟨g9, k6 + j, none⟩ = some (.int .u8 Y[k6 + j]) := by
            rw [HR.out.2.2.2.1.cellAt (k6 + j) (by omega)]
            simp [U8, List.getElem?_eq_getElem hiY]
          have hfz := HR.out.2.2.2.1.frozenAt (k6 + j)
          have hgB : w7.heap.size ≤ g9 := by have := HR.out.2.2.2.1.lt g9 rfl; omega
          have hst := HR.out.2.2.2.1.stored (k6 + j) (.int .u8 (bits .xor .u8 Y[k6 + j] ((t : Int) / 2 ^ (8 * j) % 256)))
          have hset : (U8 Y).set (k6 + j) (.int .u8 (bits .xor .u8 Y[k6 + j] ((t : Int) / 2 ^ (8 * j) % 256))) = U8 (Y.set (k6 + j) (bits .xor .u8 Y[k6 + j] ((t : Int) / 2 ^ (8 * j) % 256))) := by simp [U8, List.map_set]
          rw [hset] at hst
          obtain ⟨Z, hZ⟩ : ∃ Z, Z = Y.set (k6 + j) (bits .xor .u8 Y[k6 + j] ((t : Int) / 2 ^ (8 * j) % 256)) := ⟨_, rfl⟩
          have HZ : Hid (Bytes Z ∧ Z.length = 64 ∧ crc Z = 558161692 ^^^ R.acc t (64 - k6) (j + 1) ∧ (wy.setCell ⟨g9, k6 + j, none⟩ (.int .u8 (bits .xor .u8 Y[k6 + j] ((t : Int) / 2 ^ (8 * j) % 256)))).drew.ownsRow w7.heap.size 5 1 (.slice (some ⟨g9, 0, none⟩) 64 c8) 64 (U8 Z) ∧ Below w7.heap.size w7 (wy.setCell ⟨g9, k6 + j, none⟩ (.int .u8 (bits .xor .u8 Y[k6 + j] ((t : Int) / 2 ^ (8 * j) % 256)))).drew) := by
            rw [hZ]
            refine ⟨TT.out.1, by rw [List.length_set]; exact HR.out.2.1, ?_, hst.1.drew, (HR.out.2.2.2.2.setCell hgB _).drew⟩
            rw [TT.out.2, HR.out.2.2.1, R.acc_step _ _ _ (by omega), Nat.xor_assoc, hxx, Int.toNat_natCast, HR.out.2.1]
            rw [show 64 - 1 - (k6 + j) = 64 - k6 - 1 - j by omega]
          clear hst hset hZ TT HR hxx
          generalize Y[k6 + j] = y at *
          have i1 : (k6 : Int) + (j : Int) < 64 := by omega
          have i0 : (0 : Int) ≤ (k6 : Int) + (j : Int) := by omega
          go_wp2_with fail
          go_region
          generalize (wy.setCell ⟨g9, k6 + j, none⟩ (.int .u8 (bits .xor .u8 y ((t : Int) / 2 ^ (8 * j) % 256)))).drew = w9 at *
          clear hcY hfz
          go_wp2_with fail
          go_roundw
          case rel => exact ⟨j + 1, Z, by omega, by go_num, HZ.out⟩
          case measure => simp [intOf]; omega
        · have hj4 : j = 4 := by omega
          have RZ : Hid (RS w wy w1.heap.size w2.heap.size w6.heap.size B L p (cfgS s0) g ws s.fin q N d s.txs vs) := R7.out.later HR.out.2.2.2.2
          have IZ : Hid (BIn wy (some ⟨g9, 0, none⟩) 64 Y) := by
            obtain ⟨a1, a2, a3, a4, -, -, -⟩ := own_in HR.out.2.2.2.1 HR.out.1
            cases a3
            exact a4
          have OFF : Hid (∀ rd : Nat → List Int, rd (1 + bl + k) = Y → (stS (cfgS s0) rd (k : Int)).2 = false) := fun rd h => HOff.out rd _ (.inl (burst_bad HR.out.1 hTn hT0 (by rw [← hj4]; exact HR.out.2.2.1))) h
          clear HR hj4 R7
          have c0z : wy.cell? ⟨w6.heap.size, 0, none⟩ = some (.int .i64 (bl : Int)) := by rw [← hbl]; exact CAt.c0 RZ.out.cf
          go_wp2_with (go_at_call 15; refine (num_any _ _).mono ?_; rintro e wn ⟨rfl, rfl⟩)
          clear c0z
          refine (write_B RZ.out.lb (1 + (bl : Int) + (k : Int)) (by omega) (by rw [hsz]; unfold cntS; omega) (some ⟨g9, 0, none⟩) c8 Y IZ.out (by omega)).mono ?_
          rintro e wt ⟨rfl, lbt, ktt⟩
          obtain ⟨ws', hws'⟩ : ∃ ws', ws' = ws ++ [⟨(1 + (bl : Int) + (k : Int)).toNat, Y⟩] := ⟨_, rfl⟩
          rw [← hws'] at lbt
          have RT : Hid (RS w wt w1.heap.size w2.heap.size w6.heap.size B L p (cfgS s0) g ws' s.fin q N d s.txs vs) := RZ.out.kt ktt lbt
          have GT : Hid (Dsk wt (fun k => B ≤ k ∧ k ≠ L) p (cntS (cfgS s0)) (newS (cfgS s0)) ws') := by rw [← hsz]; exact lbt.dsk
          have hcut := HY.out.cut (rd := newest ws' (newS (cfgS s0))) (k := k) (by omega) (by rw [hws', newest_snoc, if_neg (by omega)]) (fun i hi => by rw [hws', hbl, newest_snoc, if_neg (by omega)]) (OFF.out _ (by rw [hws', newest_snoc, if_pos (by omega)])) (newest_bytes GT.out)
          obtain ⟨s', y1, y2, y3, y4⟩ := hcut
          have Y1 : Hid (_) := y1
          rw [y2] at Y1
          obtain ⟨fe, hfe⟩ : ∃ fe, fe = endT (aheadT s.txs k) 0 := ⟨_, rfl⟩
          rw [y3, ← hfe] at Y1
          have HFe : Hid (fe = endT (aheadT s.txs k) 0) := hfe
          clear hfe
          have hwf : TxsWf (aheadT s.txs k) := by rw [← y2]; exact y4.tw
          have hms : ∀ x ∈ aheadT s.txs k, x.ims.length ≤ 100000 := fun x hx => by have := y4.cm x (by rw [y2]; exact hx); have := (cfgS_may s0).2.2.1; omega
          have hal : (aheadT s.txs k).length ≤ 64 := by rw [← y2]; have := y4.tl; omega
          have L7 : Hid (_) := CAt.load23 RT.out.cf
          clear y1 y2 y3 y4 hws' lbt ktt RZ IZ OFF
          go_wp2_with (first | (go_at_call 15; refine (num_any _ _).mono ?_; rintro e wn ⟨rfl, rfl⟩) | ((with_reducible refine at_ops ?_); (refine wpList_load_is (by rfl) 39 rfl rfl L7.out ?_); simp only [Act.put, List.setIfInBounds_toArray, List.set_cons_zero, List.set_cons_succ]))
          refine (read_any10 GT.out (HT.out.later RT.out.low) (cfgS s0)).mono ?_
          rintro e wb8 ⟨qb, cb, vsb, rfl, x8, -, b8⟩
          rw [Y1.out] at x8 ⊢
          have X8' : XIn wb8 qb (aheadT s.txs k).length (aheadT s.txs k) := by
            obtain ⟨a1, a2, a3, a4, -, -⟩ := XOwn.in x8
            cases a3
            exact a4
          have A8 : Hid (_) := allocLg wb8
          have T8 : Hid (_) := storeLg wb8 0 1 fe (v := .slice qb (aheadT s.txs k).length cb) rfl
          obtain ⟨w9t, hw9⟩ : ∃ y, y = wb8.alloc (.cells (gcells 0 1 fe (.slice qb (aheadT s.txs k).length cb)).toArray 66) := ⟨_, rfl⟩
          rw [← hw9] at T8
          have b9t : Below wb8.heap.size wb8 w9t := by rw [hw9]; exact below_alloc wb8 _
          have M9 : Hid (LAt 66 w9t wb8.heap.size (gcells 0 1 fe (.slice qb (aheadT s.txs k).length cb))) := by rw [hw9]; exact LAt.new 66 wb8 _
          have R9 : Hid (RS w w9t w1.heap.size w2.heap.size w6.heap.size B L p (cfgS s0) g ws' s.fin q N d s.txs vs) := RT.out.later (below_then b8 b9t)
          have X8 : Hid (XIn w9t qb (aheadT s.txs k).length (aheadT s.txs k)) := X8'.later b9t
          clear hw9 b8 b9t L7 x8 X8' Y1 GT RT
          rw [show ((⟨0, 1, fe, aheadT s.txs k⟩ : LogS), (0 : Int)).1.txs.length = (aheadT s.txs k).length from rfl]
          go_wp2_with ((with_reducible refine at_ops ?_); (first | (refine wpList_alloc_is (by rfl) 66 rfl A8.out ?_) | (refine wpList_store_is (by rfl) 66 rfl rfl rfl T8.out ?_)); simp only [Act.put, List.setIfInBounds_toArray, List.set_cons_zero, List.set_cons_succ])
          clear A8 T8
          refine wp_region_noPanic ?_
          refine wp_region_held_drew (S := fun w' => Below w9t.heap.size w9t w') (by kernel_rfl) (below_drawn 1) (fun hHeld => ?_)
          have D2 : Hid (Below w9t.heap.size w9t w9t.drew) := hHeld
          generalize w9t.drew = wd at *
          refine wpAnyH_take (i := 0) (v := ?vab1) (by simp; rfl) (by kernel_rfl) (by kernel_rfl) (by kernel_rfl) (fun _ _ _ h => h) (Or.inl ⟨by rfl, ?yab1⟩) hHeld ?rab1
          case yab1 => intro w hSw; clear hSw; go_simp; with_reducible rfl
          simp only [Act.put, List.setIfInBounds_toArray, List.set_cons_zero, List.set_cons_succ]
          refine wpAnyH_ready (rs := [1]) (by kernel_rfl) (by simp) ?_
          refine AllReadyH.cons (by simp; rfl) (fun Kc hKc => ?_) AllReadyH.nil
          go_simp
          refine (num_any _ _).mono ?_
          rintro e wn ⟨rfl, rfl⟩
          refine hKc.out _ _ D2.out (fun hHeld => ?_)
          clear hKc Kc
          refine wpAnyH_take (i := 2) (v := ?vab2) (by simp; rfl) (by kernel_rfl) (by kernel_rfl) (by kernel_rfl) (fun _ _ _ h => h) (Or.inl ⟨by rfl, ?yab2⟩) hHeld ?rab2
          case yab2 => intro w hSw; clear hSw; go_simp; with_reducible rfl
          simp only [Act.put, List.setIfInBounds_toArray, List.set_cons_zero, List.set_cons_succ]
          refine wpAnyH_take (i := 3) (v := ?vab3) (by simp; rfl) (by kernel_rfl) (by kernel_rfl) (by kernel_rfl) (fun _ _ _ h => h) (Or.inl ⟨by rfl, ?yab3⟩) hHeld ?rab3
          case yab3 => intro w hSw; clear hSw; go_simp; with_reducible rfl
          simp only [Act.put, List.setIfInBounds_toArray, List.set_cons_zero, List.set_cons_succ]
          refine wpAnyH_take (i := 4) (v := _) (by simp; rfl) (by kernel_rfl) (by kernel_rfl) (by kernel_rfl) (fun _ _ _ h => h) (yieldsIf_load_mid (by rfl) 66 (.tmp 23) rfl wb8.heap.size 0 rfl (gcells 0 1 fe (.slice qb (aheadT s.txs k).length cb)) _ (fun _ h => LAt.range (LAt.later M9.out h)) Tryd.underlying66 rfl sizeLg) hHeld ?_
          simp only [Act.put, List.setIfInBounds_toArray, List.set_cons_zero, List.set_cons_succ]
          refine wpAnyH_take (i := 6) (v := _) (by simp; rfl) (by kernel_rfl) (by kernel_rfl) (by kernel_rfl) (fun _ _ _ h => h) (yieldsIf_load_mid (by rfl) 48 (.tmp 11) rfl w2.heap.size 0 rfl (gcells 0 1 s.fin (.slice q N d)) _ (fun _ h => LAt.range (LAt.later R9.out.wt h)) Tryd.underlying48 rfl sizeR) hHeld ?_
          simp only [Act.put, List.setIfInBounds_toArray, List.set_cons_zero, List.set_cons_succ]
          refine wpAnyH_take (i := 7) (v := ?vab4) (by simp; rfl) (by kernel_rfl) (by kernel_rfl) (by kernel_rfl) (fun _ _ _ h => h) (Or.inl ⟨by rfl, ?yab4⟩) hHeld ?rab4
          case yab4 => intro w hSw; clear hSw; go_simp; with_reducible rfl
          simp only [Act.put, List.setIfInBounds_toArray, List.set_cons_zero, List.set_cons_succ]
          refine wpAnyH_ready (rs := [5]) (by kernel_rfl) (by simp) ?_
          refine AllReadyH.cons (by simp; rfl) (fun Kc hKc => ?_) AllReadyH.nil
          go_simp
          refine (plain_any 0 1 fe qb (aheadT s.txs k).length cb (aheadT s.txs k) _ (X8.out.later D2.out) hwf (by omega) hms).mono ?_
          rintro e wp ⟨qp, dp, vp, rfl, xp, bp⟩
          have D3 : Hid (Below w9t.heap.size w9t wp) := below_then D2.out bp
          have XP : Hid (XIn wp qp (aheadT s.txs k).length (aheadT s.txs k)) := by
            obtain ⟨a1, a2, a3, a4, -, -⟩ := XOwn.in xp
            cases a3
            exact a4
          refine hKc.out _ _ D3.out (fun hHeld => ?_)
          clear hKc Kc xp bp
          refine wpAnyH_ready (rs := [8]) (by kernel_rfl) (by simp) ?_
          refine AllReadyH.cons (by simp; rfl) (fun Kc hKc => ?_) AllReadyH.nil
          go_simp
          refine (ahead_any 0 1 s.fin q N d s.txs (k : Int) wp ((R9.out.xin hN).later D3.out) (by omega) HFin.out).mono ?_
          rintro e wh ⟨qh, dh, rfl, xh, bh⟩
          have D5 : Hid (Below w9t.heap.size w9t wh) := below_then D3.out bh
          have XH : Hid (XIn wh qh (aheadT s.txs k).length (aheadT s.txs k)) := xh
          have XP2 : Hid (XIn wh qp (aheadT s.txs k).length (aheadT s.txs k)) := XP.out.later bh
          refine hKc.out _ _ D5.out (fun hHeld => ?_)
          clear hKc Kc xh bh
          refine wpAnyH_ready (rs := [9]) (by kernel_rfl) (by simp) ?_
          refine AllReadyH.cons (by simp; rfl) (fun Kc hKc => ?_) AllReadyH.nil
          rw [← HFe.out]
          go_simp
          refine (same_eq 0 1 fe qp qh (aheadT s.txs k).length dp dh (aheadT s.txs k) wh XP2.out XH.out (by omega) hms).mono ?_
          rintro e wq ⟨rfl, bq⟩
          have D4 : Hid (Below w9t.heap.size w9t wq) := below_then D5.out bq
          refine hKc.out _ _ D4.out (fun hHeld => ?_)
          clear hKc Kc bq
          refine wpAnyH_take (i := 10) (v := ?vab5) (by simp; rfl) (by kernel_rfl) (by kernel_rfl) (by kernel_rfl) (fun _ _ _ h => h) (Or.inl ⟨by rfl, ?yab5⟩) hHeld ?rab5
          case yab5 => intro w hSw; clear hSw; go_simp; with_reducible rfl
          simp only [Act.put, List.setIfInBounds_toArray, List.set_cons_zero, List.set_cons_succ]
          refine wpAnyH_take (i := 11) (v := ?vab6) (by simp; rfl) (by kernel_rfl) (by kernel_rfl) (by kernel_rfl) (fun _ _ _ h => h) (Or.inl ⟨by rfl, ?yab6⟩) hHeld ?rab6
          case yab6 => intro w hSw; clear hSw; go_simp; with_reducible rfl
          simp only [Act.put, List.setIfInBounds_toArray, List.set_cons_zero, List.set_cons_succ]
          clear hHeld
          refine wpAnyH_done (by kernel_rfl) (NoPanic.normal ?_) _
          have FF : Hid (Below w.heap.size w wq) := below_then R9.out.low D4.out
          clear D2 D3 D4
          go_wp2_with fail
          go_ret
          exact ⟨rfl, FF.out⟩
    · obtain ⟨t, rfl⟩ := Int.eq_ofNat_of_zero_le hx.1
      have hTn : t < 4294967296 := by omega
      have hT0 : t ≠ 0 := by omega
      go_wp2_with (go_at_call 15; refine (num_any _ _).mono ?_; rintro e wn ⟨rfl, rfl⟩)
      clear g1 g2 g3 g4 g5
      go_loopw [20] (fun c wr => ∃ (j : Nat) (Y : List Int), j ≤ 4 ∧ c = .int .i64 j ∧ Hid (Bytes Y ∧ Y.length = 64 ∧ crc Y = 558161692 ^^^ R.acc t (64 - k6) j ∧ wr.ownsRow w7.heap.size 5 1 (.slice (some ⟨g9, 0, none⟩) 64 c8) 64 (U8 Y) ∧ Below w7.heap.size w7 wr)) (fun c _ => 4 - (intOf c).toNat)
      case atStart => exact ⟨0, R.encS rk, by omega, rfl, hby, I8.out.len, by rw [R.acc_zero, Nat.xor_zero]; exact R.encS_sum rk HK.out.2.1 HK.out.2.2.1, O8.out, B78.out⟩
      case round =>
        obtain ⟨j, Y, hj, rfl, HR⟩ := hrel
        clear O8 I8 B78 R8
        obtain ⟨wy, hwy⟩ : ∃ wy, wy = wr := ⟨_, rfl⟩
        subst hwy
        by_cases hlt : j < 4
        · have hiY : k6 + j < Y.length := by rw [HR.out.2.1]; omega
          have hxx : (t : Int) / 2 ^ (8 * j) % 256 = ((t / 2 ^ (8 * j) % 256 : Nat) : Int) := by simp
          have TT : Hid (_) := R.turn_text Y HR.out.1 (k6 + j) hiY ((t : Int) / 2 ^ (8 * j) % 256) (by omega) (by omega)
          have hcY : wy.cell? ⟨g9, k6 + j, none⟩ = some (.int .u8 Y[k6 + j]) := by
            rw [HR.out.2.2.2.1.cellAt (k6 + j) (by omega)]
            simp [U8, List.getElem?_eq_getElem hiY]
          have hfz := HR.out.2.2.2.1.frozenAt (k6 + j)
          have hgB : w7.heap.size ≤ g9 := by have := HR.out.2.2.2.1.lt g9 rfl; omega
          have hst := HR.out.2.2.2.1.stored (k6 + j) (.int .u8 (bits .xor .u8 Y[k6 + j] ((t : Int) / 2 ^ (8 * j) % 256)))
          have hset : (U8 Y).set (k6 + j) (.int .u8 (bits .xor .u8 Y[k6 + j] ((t : Int) / 2 ^ (8 * j) % 256))) = U8 (Y.set (k6 + j) (bits .xor .u8 Y[k6 + j] ((t : Int) / 2 ^ (8 * j) % 256))) := by simp [U8, List.map_set]
          rw [hset] at hst
          obtain ⟨Z, hZ⟩ : ∃ Z, Z = Y.set (k6 + j) (bits .xor .u8 Y[k6 + j] ((t : Int) / 2 ^ (8 * j) % 256)) := ⟨_, rfl⟩
          have HZ : Hid (Bytes Z ∧ Z.length = 64 ∧ crc Z = 558161692 ^^^ R.acc t (64 - k6) (j + 1) ∧ (wy.setCell ⟨g9, k6 + j, none⟩ (.int .u8 (bits .xor .u8 Y[k6 + j] ((t : Int) / 2 ^ (8 * j) % 256)))).drew.ownsRow w7.heap.size 5 1 (.slice (some ⟨g9, 0, none⟩) 64 c8) 64 (U8 Z) ∧ Below w7.heap.size w7 (wy.setCell ⟨g9, k6 + j, none⟩ (.int .u8 (bits .xor .u8 Y[k6 + j] ((t : Int) / 2 ^ (8 * j) % 256)))).drew) := by
            rw [hZ]
            refine ⟨TT.out.1, by rw [List.length_set]; exact HR.out.2.1, ?_, hst.1.drew, (HR.out.2.2.2.2.setCell hgB _).drew⟩
            rw [TT.out.2, HR.out.2.2.1, R.acc_step _ _ _ (by omega), Nat.xor_assoc, hxx, Int.toNat_natCast, HR.out.2.1]
            rw [show 64 - 1 - (k6 + j) = 64 - k6 - 1 - j by omega]
          clear hst hset hZ TT HR hxx
          generalize Y[k6 + j] = y at *
          have i1 : (k6 : Int) + (j : Int) < 64 := by omega
          have i0 : (0 : Int) ≤ (k6 : Int) + (j : Int) := by omega
          go_wp2_with fail
          go_region
          generalize (wy.setCell ⟨g9, k6 + j, none⟩ (.int .u8 (bits .xor .u8 y ((t : Int) / 2 ^ (8 * j) % 256)))).drew = w9 at *
          clear hcY hfz
          go_wp2_with fail
          go_roundw
          case rel => exact ⟨j + 1, Z, by omega, by go_num, HZ.out⟩
          case measure => simp [intOf]; omega
        · have hj4 : j = 4 := by omega
          have RZ : Hid (RS w wy w1.heap.size w2.heap.size w6.heap.size B L p (cfgS s0) g ws s.fin q N d s.txs vs) := R7.out.later HR.out.2.2.2.2
          have IZ : Hid (BIn wy (some ⟨g9, 0, none⟩) 64 Y) := by
            obtain ⟨a1, a2, a3, a4, -, -, -⟩ := own_in HR.out.2.2.2.1 HR.out.1
            cases a3
            exact a4
          have OFF : Hid (∀ rd : Nat → List Int, rd (1 + bl + k) = Y → (stS (cfgS s0) rd (k : Int)).2 = false) := fun rd h => HOff.out rd _ (.inl (burst_bad HR.out.1 hTn hT0 (by rw [← hj4]; exact HR.out.2.2.1))) h
          clear HR hj4 R7
          have c0z : wy.cell? ⟨w6.heap.size, 0, none⟩ = some (.int .i64 (bl : Int)) := by rw [← hbl]; exact CAt.c0 RZ.out.cf
          go_wp2_with (go_at_call 15; refine (num_any _ _).mono ?_; rintro e wn ⟨rfl, rfl⟩)
          clear c0z
          refine (write_B RZ.out.lb (1 + (bl : Int) + (k : Int)) (by omega) (by rw [hsz]; unfold cntS; omega) (some ⟨g9, 0, none⟩) c8 Y IZ.out (by omega)).mono ?_
          rintro e wt ⟨rfl, lbt, ktt⟩
          obtain ⟨ws', hws'⟩ : ∃ ws', ws' = ws ++ [⟨(1 + (bl : Int) + (k : Int)).toNat, Y⟩] := ⟨_, rfl⟩
          rw [← hws'] at lbt
          have RT : Hid (RS w wt w1.heap.size w2.heap.size w6.heap.size B L p (cfgS s0) g ws' s.fin q N d s.txs vs) := RZ.out.kt ktt lbt
          have GT : Hid (Dsk wt (fun k => B ≤ k ∧ k ≠ L) p (cntS (cfgS s0)) (newS (cfgS s0)) ws') := by rw [← hsz]; exact lbt.dsk
          have hcut := HY.out.cut (rd := newest ws' (newS (cfgS s0))) (k := k) (by omega) (by rw [hws', newest_snoc, if_neg (by omega)]) (fun i hi => by rw [hws', hbl, newest_snoc, if_neg (by omega)]) (OFF.out _ (by rw [hws', newest_snoc, if_pos (by omega)])) (newest_bytes GT.out)
          obtain ⟨s', y1, y2, y3, y4⟩ := hcut
          have Y1 : Hid (_) := y1
          rw [y2] at Y1
          obtain ⟨fe, hfe⟩ : ∃ fe, fe = endT (aheadT s.txs k) 0 := ⟨_, rfl⟩
          rw [y3, ← hfe] at Y1
          have HFe : Hid (fe = endT (aheadT s.txs k) 0) := hfe
          clear hfe
          have hwf : TxsWf (aheadT s.txs k) := by rw [← y2]; exact y4.tw
          have hms : ∀ x ∈ aheadT s.txs k, x.ims.length ≤ 100000 := fun x hx => by have := y4.cm x (by rw [y2]; exact hx); have := (cfgS_may s0).2.2.1; omega
          have hal : (aheadT s.txs k).length ≤ 64 := by rw [← y2]; have := y4.tl; omega
          have L7 : Hid (_) := CAt.load23 RT.out.cf
          clear y1 y2 y3 y4 hws' lbt ktt RZ IZ OFF
          go_wp2_with (first | (go_at_call 15; refine (num_any _ _).mono ?_; rintro e wn ⟨rfl, rfl⟩) | ((with_reducible refine at_ops ?_); (refine wpList_load_is (by rfl) 39 rfl rfl L7.out ?_); simp only [Act.put, List.setIfInBounds_toArray, List.set_cons_zero, List.set_cons_succ]))
          refine (read_any10 GT.out (HT.out.later RT.out.low) (cfgS s0)).mono ?_
          rintro e wb8 ⟨qb, cb, vsb, rfl, x8, -, b8⟩
          rw [Y1.out] at x8 ⊢
          have X8' : XIn wb8 qb (aheadT s.txs k).length (aheadT s.txs k) := by
            obtain ⟨a1, a2, a3, a4, -, -⟩ := XOwn.in x8
            cases a3
            exact a4
          have A8 : Hid (_) := allocLg wb8
          have T8 : Hid (_) := storeLg wb8 0 1 fe (v := .slice qb (aheadT s.txs k).length cb) rfl
          obtain ⟨w9t, hw9⟩ : ∃ y, y = wb8.alloc (.cells (gcells 0 1 fe (.slice qb (aheadT s.txs k).length cb)).toArray 66) := ⟨_, rfl⟩
          rw [← hw9] at T8
          have b9t : Below wb8.heap.size wb8 w9t := by rw [hw9]; exact below_alloc wb8 _
          have M9 : Hid (LAt 66 w9t wb8.heap.size (gcells 0 1 fe (.slice qb (aheadT s.txs k).length cb))) := by rw [hw9]; exact LAt.new 66 wb8 _
          have R9 : Hid (RS w w9t w1.heap.size w2.heap.size w6.heap.size B L p (cfgS s0) g ws' s.fin q N d s.txs vs) := RT.out.later (below_then b8 b9t)
          have X8 : Hid (XIn w9t qb (aheadT s.txs k).length (aheadT s.txs k)) := X8'.later b9t
          clear hw9 b8 b9t L7 x8 X8' Y1 GT RT
          rw [show ((⟨0, 1, fe, aheadT s.txs k⟩ : LogS), (0 : Int)).1.txs.length = (aheadT s.txs k).length from rfl]
          go_wp2_with ((with_reducible refine at_ops ?_); (first | (refine wpList_alloc_is (by rfl) 66 rfl A8.out ?_) | (refine wpList_store_is (by rfl) 66 rfl rfl rfl T8.out ?_)); simp only [Act.put, List.setIfInBounds_toArray, List.set_cons_zero, List.set_cons_succ])
          clear A8 T8
          refine wp_region_noPanic ?_
          refine wp_region_held_drew (S := fun w' => Below w9t.heap.size w9t w') (by kernel_rfl) (below_drawn 1) (fun hHeld => ?_)
          have D2 : Hid (Below w9t.heap.size w9t w9t.drew) := hHeld
          generalize w9t.drew = wd at *
          refine wpAnyH_take (i := 0) (v := ?vac1) (by simp; rfl) (by kernel_rfl) (by kernel_rfl) (by kernel_rfl) (fun _ _ _ h => h) (Or.inl ⟨by rfl, ?yac1⟩) hHeld ?rac1
          case yac1 => intro w hSw; clear hSw; go_simp; with_reducible rfl
          simp only [Act.put, List.setIfInBounds_toArray, List.set_cons_zero, List.set_cons_succ]
          refine wpAnyH_ready (rs := [1]) (by kernel_rfl) (by simp) ?_
          refine AllReadyH.cons (by simp; rfl) (fun Kc hKc => ?_) AllReadyH.nil
          go_simp
          refine (num_any _ _).mono ?_
          rintro e wn ⟨rfl, rfl⟩
          refine hKc.out _ _ D2.out (fun hHeld => ?_)
          clear hKc Kc
          refine wpAnyH_take (i := 2) (v := ?vac2) (by simp; rfl) (by kernel_rfl) (by kernel_rfl) (by kernel_rfl) (fun _ _ _ h => h) (Or.inl ⟨by rfl, ?yac2⟩) hHeld ?rac2
          case yac2 => intro w hSw; clear hSw; go_simp; with_reducible rfl
          simp only [Act.put, List.setIfInBounds_toArray, List.set_cons_zero, List.set_cons_succ]
          refine wpAnyH_take (i := 3) (v := ?vac3) (by simp; rfl) (by kernel_rfl) (by kernel_rfl) (by kernel_rfl) (fun _ _ _ h => h) (Or.inl ⟨by rfl, ?yac3⟩) hHeld ?rac3
          case yac3 => intro w hSw; clear hSw; go_simp; with_reducible rfl
          simp only [Act.put, List.setIfInBounds_toArray, List.set_cons_zero, List.set_cons_succ]
          refine wpAnyH_take (i := 4) (v := _) (by simp; rfl) (by kernel_rfl) (by kernel_rfl) (by kernel_rfl) (fun _ _ _ h => h) (yieldsIf_load_mid (by rfl) 66 (.tmp 23) rfl wb8.heap.size 0 rfl (gcells 0 1 fe (.slice qb (aheadT s.txs k).length cb)) _ (fun _ h => LAt.range (LAt.later M9.out h)) Tryd.underlying66 rfl sizeLg) hHeld ?_
          simp only [Act.put, List.setIfInBounds_toArray, List.set_cons_zero, List.set_cons_succ]
          refine wpAnyH_take (i := 6) (v := _) (by simp; rfl) (by kernel_rfl) (by kernel_rfl) (by kernel_rfl) (fun _ _ _ h => h) (yieldsIf_load_mid (by rfl) 48 (.tmp 11) rfl w2.heap.size 0 rfl (gcells 0 1 s.fin (.slice q N d)) _ (fun _ h => LAt.range (LAt.later R9.out.wt h)) Tryd.underlying48 rfl sizeR) hHeld ?_
          simp only [Act.put, List.setIfInBounds_toArray, List.set_cons_zero, List.set_cons_succ]
          refine wpAnyH_take (i := 7) (v := ?vac4) (by simp; rfl) (by kernel_rfl) (by kernel_rfl) (by kernel_rfl) (fun _ _ _ h => h) (Or.inl ⟨by rfl, ?yac4⟩) hHeld ?rac4
          case yac4 => intro w hSw; clear hSw; go_simp; with_reducible rfl
          simp only [Act.put, List.setIfInBounds_toArray, List.set_cons_zero, List.set_cons_succ]
          refine wpAnyH_ready (rs := [5]) (by kernel_rfl) (by simp) ?_
          refine AllReadyH.cons (by simp; rfl) (fun Kc hKc => ?_) AllReadyH.nil
          go_simp
          refine (plain_any 0 1 fe qb (aheadT s.txs k).length cb (aheadT s.txs k) _ (X8.out.later D2.out) hwf (by omega) hms).mono ?_
          rintro e wp ⟨qp, dp, vp, rfl, xp, bp⟩
          have D3 : Hid (Below w9t.heap.size w9t wp) := below_then D2.out bp
          have XP : Hid (XIn wp qp (aheadT s.txs k).length (aheadT s.txs k)) := by
            obtain ⟨a1, a2, a3, a4, -, -⟩ := XOwn.in xp
            cases a3
            exact a4
          refine hKc.out _ _ D3.out (fun hHeld => ?_)
          clear hKc Kc xp bp
          refine wpAnyH_ready (rs := [8]) (by kernel_rfl) (by simp) ?_
          refine AllReadyH.cons (by simp; rfl) (fun Kc hKc => ?_) AllReadyH.nil
          go_simp
          refine (ahead_any 0 1 s.fin q N d s.txs (k : Int) wp ((R9.out.xin hN).later D3.out) (by omega) HFin.out).mono ?_
          rintro e wh ⟨qh, dh, rfl, xh, bh⟩
          have D5 : Hid (Below w9t.heap.size w9t wh) := below_then D3.out bh
          have XH : Hid (XIn wh qh (aheadT s.txs k).length (aheadT s.txs k)) := xh
          have XP2 : Hid (XIn wh qp (aheadT s.txs k).length (aheadT s.txs k)) := XP.out.later bh
          refine hKc.out _ _ D5.out (fun hHeld => ?_)
          clear hKc Kc xh bh
          refine wpAnyH_ready (rs := [9]) (by kernel_rfl) (by simp) ?_
          refine AllReadyH.cons (by simp; rfl) (fun Kc hKc => ?_) AllReadyH.nil
          rw [← HFe.out]
          go_simp
          refine (same_eq 0 1 fe qp qh (aheadT s.txs k).length dp dh (aheadT s.txs k) wh XP2.out XH.out (by omega) hms).mono ?_
          rintro e wq ⟨rfl, bq⟩
          have D4 : Hid (Below w9t.heap.size w9t wq) := below_then D5.out bq
          refine hKc.out _ _ D4.out (fun hHeld => ?_)
          clear hKc Kc bq
          refine wpAnyH_take (i := 10) (v := ?vac5) (by simp; rfl) (by kernel_rfl) (by kernel_rfl) (by kernel_rfl) (fun _ _ _ h => h) (Or.inl ⟨by rfl, ?yac5⟩) hHeld ?rac5
          case yac5 => intro w hSw; clear hSw; go_simp; with_reducible rfl
          simp only [Act.put, List.setIfInBounds_toArray, List.set_cons_zero, List.set_cons_succ]
          refine wpAnyH_take (i := 11) (v := ?vac6) (by simp; rfl) (by kernel_rfl) (by kernel_rfl) (by kernel_rfl) (fun _ _ _ h => h) (Or.inl ⟨by rfl, ?yac6⟩) hHeld ?rac6
          case yac6 => intro w hSw; clear hSw; go_simp; with_reducible rfl
          simp only [Act.put, List.setIfInBounds_toArray, List.set_cons_zero, List.set_cons_succ]
          clear hHeld
          refine wpAnyH_done (by kernel_rfl) (NoPanic.normal ?_) _
          have FF : Hid (Below w.heap.size w wq) := below_then R9.out.low D4.out
          clear D2 D3 D4
          go_wp2_with fail
          go_ret
          exact ⟨rfl, FF.out⟩
  · have hr4' : (r3 + 3).tmod 3 = 1 := hr4
    have hr5' : (r3 + 3) % 3 = 1 := hr5
    clear hr4 hr5 R7
    obtain ⟨i0, hi, hz0, hz1, hz2⟩ := info_parts info5
    go_wp2_with (first | (go_at_call 15; refine (num_any _ _).mono ?_; rintro e wn ⟨rfl, rfl⟩) | (at_make; refine wpList_make_full _ rfl _ _ 41 rfl w8.heap.size 5 i0 (.int .u8 0) 1 Tryd.underlying41 hi hz0 hz1 .i64 .i64 _ _ 64 rfl rfl rfl rfl ?b2 ?b3 ?b4 ?_))
    case b2 => rw [hz2]; omega
    case b3 => unfold maxLen; omega
    case b4 => simp
    intro w9 hown hgrow
    rw [toList_madeCells_one] at hown
    have b9 := (Below.refl w8.heap.size w8).grown hgrow (Nat.le_refl _) (by intro k hk; cases hk)
    have RZ : Hid (RS w w9 w1.heap.size w2.heap.size w6.heap.size B L p (cfgS s0) g ws s.fin q N d s.txs vs) := R8.out.later b9
    have IZ : Hid (BIn w9 (some ⟨w8.heap.size, 0, none⟩) 64 (zs 64)) := by
      obtain ⟨a1, a2, a3, a4, -, -, -⟩ := own_in (xs := zs 64) hown (zs_bytes 64)
      cases a3
      exact a4
    have OFF : Hid (∀ rd : Nat → List Int, rd (1 + bl + k) = zs 64 → (stS (cfgS s0) rd (k : Int)).2 = false) := fun rd h => HOff.out rd _ (.inl zs64_no) h
    clear hown hgrow b9 R8 I8 O8 hr1 hr2 hr3 hr4' hr5'
    have c0z : w9.cell? ⟨w6.heap.size, 0, none⟩ = some (.int .i64 (bl : Int)) := by rw [← hbl]; exact CAt.c0 RZ.out.cf
    go_wp2_with (go_at_call 15; refine (num_any _ _).mono ?_; rintro e wn ⟨rfl, rfl⟩)
    clear c0z
    refine (write_B RZ.out.lb (1 + (bl : Int) + (k : Int)) (by omega) (by rw [hsz]; unfold cntS; omega) (some ⟨w8.heap.size, 0, none⟩) 64 (zs 64) IZ.out (by omega)).mono ?_
    rintro e wt ⟨rfl, lbt, ktt⟩
    obtain ⟨ws', hws'⟩ : ∃ ws', ws' = ws ++ [⟨(1 + (bl : Int) + (k : Int)).toNat, (zs 64)⟩] := ⟨_, rfl⟩
    rw [← hws'] at lbt
    have RT : Hid (RS w wt w1.heap.size w2.heap.size w6.heap.size B L p (cfgS s0) g ws' s.fin q N d s.txs vs) := RZ.out.kt ktt lbt
    have GT : Hid (Dsk wt (fun k => B ≤ k ∧ k ≠ L) p (cntS (cfgS s0)) (newS (cfgS s0)) ws') := by rw [← hsz]; exact lbt.dsk
    have hcut := HY.out.cut (rd := newest ws' (newS (cfgS s0))) (k := k) (by omega) (by rw [hws', newest_snoc, if_neg (by omega)]) (fun i hi => by rw [hws', hbl, newest_snoc, if_neg (by omega)]) (OFF.out _ (by rw [hws', newest_snoc, if_pos (by omega)])) (newest_bytes GT.out)
    obtain ⟨s', y1, y2, y3, y4⟩ := hcut
    have Y1 : Hid (_) := y1
    rw [y2] at Y1
    obtain ⟨fe, hfe⟩ : ∃ fe, fe = endT (aheadT s.txs k) 0 := ⟨_, rfl⟩
    rw [y3, ← hfe] at Y1
    have HFe : Hid (fe = endT (aheadT s.txs k) 0) := hfe
    clear hfe
    have hwf : TxsWf (aheadT s.txs k) := by rw [← y2]; exact y4.tw
    have hms : ∀ x ∈ aheadT s.txs k, x.ims.length ≤ 100000 := fun x hx => by have := y4.cm x (by rw [y2]; exact hx); have := (cfgS_may s0).2.2.1; omega
    have hal : (aheadT s.txs k).length ≤ 64 := by rw [← y2]; have := y4.tl; omega
    have L7 : Hid (_) := CAt.load23 RT.out.cf
    clear y1 y2 y3 y4 hws' lbt ktt RZ IZ OFF
    go_wp2_with (first | (go_at_call 15; refine (num_any _ _).mono ?_; rintro e wn ⟨rfl, rfl⟩) | ((with_reducible refine at_ops ?_); (refine wpList_load_is (by rfl) 39 rfl rfl L7.out ?_); simp only [Act.put, List.setIfInBounds_toArray, List.set_cons_zero, List.set_cons_succ]))
    refine (read_any10 GT.out (HT.out.later RT.out.low) (cfgS s0)).mono ?_
    rintro e wb8 ⟨qb, cb, vsb, rfl, x8, -, b8⟩
    rw [Y1.out] at x8 ⊢
    have X8' : XIn wb8 qb (aheadT s.txs k).length (aheadT s.txs k) := by
      obtain ⟨a1, a2, a3, a4, -, -⟩ := XOwn.in x8
      cases a3
      exact a4
    have A8 : Hid (_) := allocLg wb8
    have T8 : Hid (_) := storeLg wb8 0 1 fe (v := .slice qb (aheadT s.txs k).length cb) rfl
    obtain ⟨w9t, hw9⟩ : ∃ y, y = wb8.alloc (.cells (gcells 0 1 fe (.slice qb (aheadT s.txs k).length cb)).toArray 66) := ⟨_, rfl⟩
    rw [← hw9] at T8
    have b9t : Below wb8.heap.size wb8 w9t := by rw [hw9]; exact below_alloc wb8 _
    have M9 : Hid (LAt 66 w9t wb8.heap.size (gcells 0 1 fe (.slice qb (aheadT s.txs k).length cb))) := by rw [hw9]; exact LAt.new 66 wb8 _
    have R9 : Hid (RS w w9t w1.heap.size w2.heap.size w6.heap.size B L p (cfgS s0) g ws' s.fin q N d s.txs vs) := RT.out.later (below_then b8 b9t)
    have X8 : Hid (XIn w9t qb (aheadT s.txs k).length (aheadT s.txs k)) := X8'.later b9t
    clear hw9 b8 b9t L7 x8 X8' Y1 GT RT
    rw [show ((⟨0, 1, fe, aheadT s.txs k⟩ : LogS), (0 : Int)).1.txs.length = (aheadT s.txs k).length from rfl]
    go_wp2_with ((with_reducible refine at_ops ?_); (first | (refine wpList_alloc_is (by rfl) 66 rfl A8.out ?_) | (refine wpList_store_is (by rfl) 66 rfl rfl rfl T8.out ?_)); simp only [Act.put, List.setIfInBounds_toArray, List.set_cons_zero, List.set_cons_succ])
    clear A8 T8
    refine wp_region_noPanic ?_
    refine wp_region_held_drew (S := fun w' => Below w9t.heap.size w9t w') (by kernel_rfl) (below_drawn 1) (fun hHeld => ?_)
    have D2 : Hid (Below w9t.heap.size w9t w9t.drew) := hHeld
    generalize w9t.drew = wd at *
    refine wpAnyH_take (i := 0) (v := ?vaz1) (by simp; rfl) (by kernel_rfl) (by kernel_rfl) (by kernel_rfl) (fun _ _ _ h => h) (Or.inl ⟨by rfl, ?yaz1⟩) hHeld ?raz1
    case yaz1 => intro w hSw; clear hSw; go_simp; with_reducible rfl
    simp only [Act.put, List.setIfInBounds_toArray, List.set_cons_zero, List.set_cons_succ]
    refine wpAnyH_ready (rs := [1]) (by kernel_rfl) (by simp) ?_
    refine AllReadyH.cons (by simp; rfl) (fun Kc hKc => ?_) AllReadyH.nil
    go_simp
    refine (num_any _ _).mono ?_
    rintro e wn ⟨rfl, rfl⟩
    refine hKc.out _ _ D2.out (fun hHeld => ?_)
    clear hKc Kc
    refine wpAnyH_take (i := 2) (v := ?vaz2) (by simp; rfl) (by kernel_rfl) (by kernel_rfl) (by kernel_rfl) (fun _ _ _ h => h) (Or.inl ⟨by rfl, ?yaz2⟩) hHeld ?raz2
    case yaz2 => intro w hSw; clear hSw; go_simp; with_reducible rfl
    simp only [Act.put, List.setIfInBounds_toArray, List.set_cons_zero, List.set_cons_succ]
    refine wpAnyH_take (i := 3) (v := ?vaz3) (by simp; rfl) (by kernel_rfl) (by kernel_rfl) (by kernel_rfl) (fun _ _ _ h => h) (Or.inl ⟨by rfl, ?yaz3⟩) hHeld ?raz3
    case yaz3 => intro w hSw; clear hSw; go_simp; with_reducible rfl
    simp only [Act.put, List.setIfInBounds_toArray, List.set_cons_zero, List.set_cons_succ]
    refine wpAnyH_take (i := 4) (v := _) (by simp; rfl) (by kernel_rfl) (by kernel_rfl) (by kernel_rfl) (fun _ _ _ h => h) (yieldsIf_load_mid (by rfl) 66 (.tmp 23) rfl wb8.heap.size 0 rfl (gcells 0 1 fe (.slice qb (aheadT s.txs k).length cb)) _ (fun _ h => LAt.range (LAt.later M9.out h)) Tryd.underlying66 rfl sizeLg) hHeld ?_
    simp only [Act.put, List.setIfInBounds_toArray, List.set_cons_zero, List.set_cons_succ]
    refine wpAnyH_take (i := 6) (v := _) (by simp; rfl) (by kernel_rfl) (by kernel_rfl) (by kernel_rfl) (fun _ _ _ h => h) (yieldsIf_load_mid (by rfl) 48 (.tmp 11) rfl w2.heap.size 0 rfl (gcells 0 1 s.fin (.slice q N d)) _ (fun _ h => LAt.range (LAt.later R9.out.wt h)) Tryd.underlying48 rfl sizeR) hHeld ?_
    simp only [Act.put, List.setIfInBounds_toArray, List.set_cons_zero, List.set_cons_succ]
    refine wpAnyH_take (i := 7) (v := ?vaz4) (by simp; rfl) (by kernel_rfl) (by kernel_rfl) (by kernel_rfl) (fun _ _ _ h => h) (Or.inl ⟨by rfl, ?yaz4⟩) hHeld ?raz4
    case yaz4 => intro w hSw; clear hSw; go_simp; with_reducible rfl
    simp only [Act.put, List.setIfInBounds_toArray, List.set_cons_zero, List.set_cons_succ]
    refine wpAnyH_ready (rs := [5]) (by kernel_rfl) (by simp) ?_
    refine AllReadyH.cons (by simp; rfl) (fun Kc hKc => ?_) AllReadyH.nil
    go_simp
    refine (plain_any 0 1 fe qb (aheadT s.txs k).length cb (aheadT s.txs k) _ (X8.out.later D2.out) hwf (by omega) hms).mono ?_
    rintro e wp ⟨qp, dp, vp, rfl, xp, bp⟩
    have D3 : Hid (Below w9t.heap.size w9t wp) := below_then D2.out bp
    have XP : Hid (XIn wp qp (aheadT s.txs k).length (aheadT s.txs k)) := by
      obtain ⟨a1, a2, a3, a4, -, -⟩ := XOwn.in xp
      cases a3
      exact a4
    refine hKc.out _ _ D3.out (fun hHeld => ?_)
    clear hKc Kc xp bp
    refine wpAnyH_ready (rs := [8]) (by kernel_rfl) (by simp) ?_
    refine AllReadyH.cons (by simp; rfl) (fun Kc hKc => ?_) AllReadyH.nil
    go_simp
    refine (ahead_any 0 1 s.fin q N d s.txs (k : Int) wp ((R9.out.xin hN).later D3.out) (by omega) HFin.out).mono ?_
    rintro e wh ⟨qh, dh, rfl, xh, bh⟩
    have D5 : Hid (Below w9t.heap.size w9t wh) := below_then D3.out bh
    have XH : Hid (XIn wh qh (aheadT s.txs k).length (aheadT s.txs k)) := xh
    have XP2 : Hid (XIn wh qp (aheadT s.txs k).length (aheadT s.txs k)) := XP.out.later bh
    refine hKc.out _ _ D5.out (fun hHeld => ?_)
    clear hKc Kc xh bh
    refine wpAnyH_ready (rs := [9]) (by kernel_rfl) (by simp) ?_
    refine AllReadyH.cons (by simp; rfl) (fun Kc hKc => ?_) AllReadyH.nil
    rw [← HFe.out]
    go_simp
    refine (same_eq 0 1 fe qp qh (aheadT s.txs k).length dp dh (aheadT s.txs k) wh XP2.out XH.out (by omega) hms).mono ?_
    rintro e wq ⟨rfl, bq⟩
    have D4 : Hid (Below w9t.heap.size w9t wq) := below_then D5.out bq
    refine hKc.out _ _ D4.out (fun hHeld => ?_)
    clear hKc Kc bq
    refine wpAnyH_take (i := 10) (v := ?vaz5) (by simp; rfl) (by kernel_rfl) (by kernel_rfl) (by kernel_rfl) (fun _ _ _ h => h) (Or.inl ⟨by rfl, ?yaz5⟩) hHeld ?raz5
    case yaz5 => intro w hSw; clear hSw; go_simp; with_reducible rfl
    simp only [Act.put, List.setIfInBounds_toArray, List.set_cons_zero, List.set_cons_succ]
    refine wpAnyH_take (i := 11) (v := ?vaz6) (by simp; rfl) (by kernel_rfl) (by kernel_rfl) (by kernel_rfl) (fun _ _ _ h => h) (Or.inl ⟨by rfl, ?yaz6⟩) hHeld ?raz6
    case yaz6 => intro w hSw; clear hSw; go_simp; with_reducible rfl
    simp only [Act.put, List.setIfInBounds_toArray, List.set_cons_zero, List.set_cons_succ]
    clear hHeld
    refine wpAnyH_done (by kernel_rfl) (NoPanic.normal ?_) _
    have FF : Hid (Below w.heap.size w wq) := below_then R9.out.low D4.out
    clear D2 D3 D4
    go_wp2_with fail
    go_ret
    exact ⟨rfl, FF.out⟩
  · have hr4' : (r3 + 3).tmod 3 = 2 := hr4
    have hr5' : (r3 + 3) % 3 = 2 := hr5
    clear hr4 hr5 R7
    obtain ⟨y, hy0, hy1, hy2⟩ : ∃ y : Nat, x.tmod 9 = y ∧ x % 9 = y ∧ y < 9 := ⟨(x % 9).toNat, by rw [Int.tmod_eq_emod_of_nonneg (by omega)]; omega, by omega, by omega⟩
    go_wp2_with (go_at_call 15; refine (num_any _ _).mono ?_; rintro e wn ⟨rfl, rfl⟩)
    refine (R.decode_any q8 64 c8 _ w8 I8.out hc8 (HT.out.later R8.out.low).half).mono ?_
    rintro e w9 ⟨rfl, b9⟩
    rw [R.decS_encS rk HK.out.2.1 HK.out.2.2.1]
    have hlen9 := HK.out.2.1.len
    have A9 : Hid (_) := R.alloc31 w9
    have T9 : Hid (_) := R.RAt.store R.size31 (s := rk) (R.RAt.new 60 w9 R.rec0) R.rec0_len hlen9
    rw [setRow_alloc] at T9
    obtain ⟨wA, hwA⟩ : ∃ z, z = w9.alloc (.cells (R.rcells rk).toArray 60) := ⟨_, rfl⟩
    rw [← hwA] at T9
    have bA : Below w9.heap.size w9 wA := by rw [hwA]; exact below_alloc w9 _
    have rA : LAt 60 wA w9.heap.size (R.rcells rk) := by rw [hwA]; exact LAt.new 60 w9 _
    have RA : Hid (RS w wA w1.heap.size w2.heap.size w6.heap.size B L p (cfgS s0) g ws s.fin q N d s.txs vs) := (R8.out.later b9).later bA
    have z1 : wA.cell? ⟨w9.heap.size, 1, none⟩ = some (.int .u64 rk.pos) := LAt.cell rA 1
    have z1f := LAt.free rA 1
    have z2 : wA.cell? ⟨w6.heap.size, 1, none⟩ = some (.int .i64 (lc : Int)) := by rw [← hlc]; exact CAt.c1 RA.out.cf
    obtain ⟨np, hnp⟩ : ∃ np : Nat, np = k + lc * (1 + y) := ⟨_, rfl⟩
    have hM : lc * (1 + y) ≤ 13 * 9 := Nat.mul_le_mul hlc13 (by omega)
    have hM1 : lc * 1 ≤ lc * (1 + y) := Nat.mul_le_mul_left _ (by omega)
    have hw : IntKind.u64.wrap ((k : Int) + IntKind.u64.wrap ((lc : Int) * (1 + (y : Int)))) = (np : Int) := wrap_np (by omega) hM hnp
    have hnk : (np : Int) ≠ (k : Int) := by omega
    have wf' : (⟨rk.kind, (np : Int), rk.block, rk.val, rk.images⟩ : R.Rec).Wf := ⟨HK.out.2.1.k0, HK.out.2.1.k1, by show (0 : Int) ≤ np; omega, by show (np : Int) ≤ _; omega, HK.out.2.1.b0, HK.out.2.1.b1, HK.out.2.1.i0, HK.out.2.1.i1, HK.out.2.1.len, HK.out.2.1.byte⟩
    have may' : R.may ⟨rk.kind, (np : Int), rk.block, rk.val, rk.images⟩ = true := (R.may_iff _).2 ⟨by show (np : Int) ≤ _; omega, ((R.may_iff rk).1 HK.out.2.2.1).2⟩
    have rB : LAt 60 (wA.setCell ⟨w9.heap.size, 1, none⟩ (.int .u64 (np : Int))) w9.heap.size (R.rcells ⟨rk.kind, (np : Int), rk.block, rk.val, rk.images⟩) := LAt.set rA 1 _
    have LB9 : Hid (_) := R.RAt.load31 (t := 60) rB wf'.len
    have RB : Hid (RS w (wA.setCell ⟨w9.heap.size, 1, none⟩ (.int .u64 (np : Int))) w1.heap.size w2.heap.size w6.heap.size B L p (cfgS s0) g ws s.fin q N d s.txs vs) := R8.out.later ((below_then b9 bA).setCell (p := ⟨w9.heap.size, 1, none⟩) (by show w8.heap.size ≤ w9.heap.size; exact b9.size) _)
    have WF : Hid (_) := wf'
    have MY : Hid (_) := may'
    clear hwA hM hM1 hnp rA rB wf' may' bA b9 RA
    go_wp2_with (first | (go_at_call 15; refine (num_any _ _).mono ?_; rintro e wn ⟨rfl, rfl⟩) | ((with_reducible refine at_ops ?_); (first | (refine wpList_alloc_is (by rfl) 60 rfl A9.out ?_) | (refine wpList_store_is (by rfl) 60 rfl rfl rfl T9.out ?_) | (refine wpList_load_is (by rfl) 60 rfl rfl LB9.out ?_)); simp only [Act.put, List.setIfInBounds_toArray, List.set_cons_zero, List.set_cons_succ]))
    refine (R.encode_good _ WF.out MY.out _ (HT.out.later RB.out.low).half).mono ?_
    rintro e wE ⟨qE, cE, rfl, mE⟩
    have RZ : Hid (RS w wE w1.heap.size w2.heap.size w6.heap.size B L p (cfgS s0) g ws s.fin q N d s.txs vs) := RB.out.later mE.below
    have IZ : Hid (BIn wE qE 64 _) := mE.read
    have OFF : Hid (∀ rd : Nat → List Int, rd (1 + bl + k) = R.encS ⟨rk.kind, (np : Int), rk.block, rk.val, rk.images⟩ → (stS (cfgS s0) rd (k : Int)).2 = false) := fun rd h => HOff.out rd _ (.inr ⟨_, rfl, WF.out, MY.out, hnk⟩) h
    clear mE R8 I8 O8 hr1 hr2 hr3 hr4' hr5' A9 T9 z1 z1f z2 LB9 RB hw
    have c0z : wE.cell? ⟨w6.heap.size, 0, none⟩ = some (.int .i64 (bl : Int)) := by rw [← hbl]; exact CAt.c0 RZ.out.cf
    go_wp2_with (go_at_call 15; refine (num_any _ _).mono ?_; rintro e wn ⟨rfl, rfl⟩)
    clear c0z
    refine (write_B RZ.out.lb (1 + (bl : Int) + (k : Int)) (by omega) (by rw [hsz]; unfold cntS; omega) qE cE (R.encS ⟨rk.kind, (np : Int), rk.block, rk.val, rk.images⟩) IZ.out (by omega)).mono ?_
    rintro e wt ⟨rfl, lbt, ktt⟩
    obtain ⟨ws', hws'⟩ : ∃ ws', ws' = ws ++ [⟨(1 + (bl : Int) + (k : Int)).toNat, (R.encS ⟨rk.kind, (np : Int), rk.block, rk.val, rk.images⟩)⟩] := ⟨_, rfl⟩
    rw [← hws'] at lbt
    have RT : Hid (RS w wt w1.heap.size w2.heap.size w6.heap.size B L p (cfgS s0) g ws' s.fin q N d s.txs vs) := RZ.out.kt ktt lbt
    have GT : Hid (Dsk wt (fun k => B ≤ k ∧ k ≠ L) p (cntS (cfgS s0)) (newS (cfgS s0)) ws') := by rw [← hsz]; exact lbt.dsk
    have hcut := HY.out.cut (rd := newest ws' (newS (cfgS s0))) (k := k) (by omega) (by rw [hws', newest_snoc, if_neg (by omega)]) (fun i hi => by rw [hws', hbl, newest_snoc, if_neg (by omega)]) (OFF.out _ (by rw [hws', newest_snoc, if_pos (by omega)])) (newest_bytes GT.out)
    obtain ⟨s', y1, y2, y3, y4⟩ := hcut
    have Y1 : Hid (_) := y1
    rw [y2] at Y1
    obtain ⟨fe, hfe⟩ : ∃ fe, fe = endT (aheadT s.txs k) 0 := ⟨_, rfl⟩
    rw [y3, ← hfe] at Y1
    have HFe : Hid (fe = endT (aheadT s.txs k) 0) := hfe
    clear hfe
    have hwf : TxsWf (aheadT s.txs k) := by rw [← y2]; exact y4.tw
    have hms : ∀ x ∈ aheadT s.txs k, x.ims.length ≤ 100000 := fun x hx => by have := y4.cm x (by rw [y2]; exact hx); have := (cfgS_may s0).2.2.1; omega
    have hal : (aheadT s.txs k).length ≤ 64 := by rw [← y2]; have := y4.tl; omega
    have L7 : Hid (_) := CAt.load23 RT.out.cf
    clear y1 y2 y3 y4 hws' lbt ktt RZ IZ OFF
    go_wp2_with (first | (go_at_call 15; refine (num_any _ _).mono ?_; rintro e wn ⟨rfl, rfl⟩) | ((with_reducible refine at_ops ?_); (refine wpList_load_is (by rfl) 39 rfl rfl L7.out ?_); simp only [Act.put, List.setIfInBounds_toArray, List.set_cons_zero, List.set_cons_succ]))
    refine (read_any10 GT.out (HT.out.later RT.out.low) (cfgS s0)).mono ?_
    rintro e wb8 ⟨qb, cb, vsb, rfl, x8, -, b8⟩
    rw [Y1.out] at x8 ⊢
    have X8' : XIn wb8 qb (aheadT s.txs k).length (aheadT s.txs k) := by
      obtain ⟨a1, a2, a3, a4, -, -⟩ := XOwn.in x8
      cases a3
      exact a4
    have A8 : Hid (_) := allocLg wb8
    have T8 : Hid (_) := storeLg wb8 0 1 fe (v := .slice qb (aheadT s.txs k).length cb) rfl
    obtain ⟨w9t, hw9⟩ : ∃ y, y = wb8.alloc (.cells (gcells 0 1 fe (.slice qb (aheadT s.txs k).length cb)).toArray 66) := ⟨_, rfl⟩
    rw [← hw9] at T8
    have b9t : Below wb8.heap.size wb8 w9t := by rw [hw9]; exact below_alloc wb8 _
    have M9 : Hid (LAt 66 w9t wb8.heap.size (gcells 0 1 fe (.slice qb (aheadT s.txs k).length cb))) := by rw [hw9]; exact LAt.new 66 wb8 _
    have R9 : Hid (RS w w9t w1.heap.size w2.heap.size w6.heap.size B L p (cfgS s0) g ws' s.fin q N d s.txs vs) := RT.out.later (below_then b8 b9t)
    have X8 : Hid (XIn w9t qb (aheadT s.txs k).length (aheadT s.txs k)) := X8'.later b9t
    clear hw9 b8 b9t L7 x8 X8' Y1 GT RT
    rw [show ((⟨0, 1, fe, aheadT s.txs k⟩ : LogS), (0 : Int)).1.txs.length = (aheadT s.txs k).length from rfl]
    go_wp2_with ((with_reducible refine at_ops ?_); (first | (refine wpList_alloc_is (by rfl) 66 rfl A8.out ?_) | (refine wpList_store_is (by rfl) 66 rfl rfl rfl T8.out ?_)); simp only [Act.put, List.setIfInBounds_toArray, List.set_cons_zero, List.set_cons_succ])
    clear A8 T8
    refine wp_region_noPanic ?_
    refine wp_region_held_drew (S := fun w' => Below w9t.heap.size w9t w') (by kernel_rfl) (below_drawn 1) (fun hHeld => ?_)
    have D2 : Hid (Below w9t.heap.size w9t w9t.drew) := hHeld
    generalize w9t.drew = wd at *
    refine wpAnyH_take (i := 0) (v := ?vae1) (by simp; rfl) (by kernel_rfl) (by kernel_rfl) (by kernel_rfl) (fun _ _ _ h => h) (Or.inl ⟨by rfl, ?yae1⟩) hHeld ?rae1
    case yae1 => intro w hSw; clear hSw; go_simp; with_reducible rfl
    simp only [Act.put, List.setIfInBounds_toArray, List.set_cons_zero, List.set_cons_succ]
    refine wpAnyH_ready (rs := [1]) (by kernel_rfl) (by simp) ?_
    refine AllReadyH.cons (by simp; rfl) (fun Kc hKc => ?_) AllReadyH.nil
    go_simp
    refine (num_any _ _).mono ?_
    rintro e wn ⟨rfl, rfl⟩
    refine hKc.out _ _ D2.out (fun hHeld => ?_)
    clear hKc Kc
    refine wpAnyH_take (i := 2) (v := ?vae2) (by simp; rfl) (by kernel_rfl) (by kernel_rfl) (by kernel_rfl) (fun _ _ _ h => h) (Or.inl ⟨by rfl, ?yae2⟩) hHeld ?rae2
    case yae2 => intro w hSw; clear hSw; go_simp; with_reducible rfl
    simp only [Act.put, List.setIfInBounds_toArray, List.set_cons_zero, List.set_cons_succ]
    refine wpAnyH_take (i := 3) (v := ?vae3) (by simp; rfl) (by kernel_rfl) (by kernel_rfl) (by kernel_rfl) (fun _ _ _ h => h) (Or.inl ⟨by rfl, ?yae3⟩) hHeld ?rae3
    case yae3 => intro w hSw; clear hSw; go_simp; with_reducible rfl
    simp only [Act.put, List.setIfInBounds_toArray, List.set_cons_zero, List.set_cons_succ]
    refine wpAnyH_take (i := 4) (v := _) (by simp; rfl) (by kernel_rfl) (by kernel_rfl) (by kernel_rfl) (fun _ _ _ h => h) (yieldsIf_load_mid (by rfl) 66 (.tmp 23) rfl wb8.heap.size 0 rfl (gcells 0 1 fe (.slice qb (aheadT s.txs k).length cb)) _ (fun _ h => LAt.range (LAt.later M9.out h)) Tryd.underlying66 rfl sizeLg) hHeld ?_
    simp only [Act.put, List.setIfInBounds_toArray, List.set_cons_zero, List.set_cons_succ]
    refine wpAnyH_take (i := 6) (v := _) (by simp; rfl) (by kernel_rfl) (by kernel_rfl) (by kernel_rfl) (fun _ _ _ h => h) (yieldsIf_load_mid (by rfl) 48 (.tmp 11) rfl w2.heap.size 0 rfl (gcells 0 1 s.fin (.slice q N d)) _ (fun _ h => LAt.range (LAt.later R9.out.wt h)) Tryd.underlying48 rfl sizeR) hHeld ?_
    simp only [Act.put, List.setIfInBounds_toArray, List.set_cons_zero, List.set_cons_succ]
    refine wpAnyH_take (i := 7) (v := ?vae4) (by simp; rfl) (by kernel_rfl) (by kernel_rfl) (by kernel_rfl) (fun _ _ _ h => h) (Or.inl ⟨by rfl, ?yae4⟩) hHeld ?rae4
    case yae4 => intro w hSw; clear hSw; go_simp; with_reducible rfl
    simp only [Act.put, List.setIfInBounds_toArray, List.set_cons_zero, List.set_cons_succ]
    refine wpAnyH_ready (rs := [5]) (by kernel_rfl) (by simp) ?_
    refine AllReadyH.cons (by simp; rfl) (fun Kc hKc => ?_) AllReadyH.nil
    go_simp
    refine (plain_any 0 1 fe qb (aheadT s.txs k).length cb (aheadT s.txs k) _ (X8.out.later D2.out) hwf (by omega) hms).mono ?_
    rintro e wp ⟨qp, dp, vp, rfl, xp, bp⟩
    have D3 : Hid (Below w9t.heap.size w9t wp) := below_then D2.out bp
    have XP : Hid (XIn wp qp (aheadT s.txs k).length (aheadT s.txs k)) := by
      obtain ⟨a1, a2, a3, a4, -, -⟩ := XOwn.in xp
      cases a3
      exact a4
    refine hKc.out _ _ D3.out (fun hHeld => ?_)
    clear hKc Kc xp bp
    refine wpAnyH_ready (rs := [8]) (by kernel_rfl) (by simp) ?_
    refine AllReadyH.cons (by simp; rfl) (fun Kc hKc => ?_) AllReadyH.nil
    go_simp
    refine (ahead_any 0 1 s.fin q N d s.txs (k : Int) wp ((R9.out.xin hN).later D3.out) (by omega) HFin.out).mono ?_
    rintro e wh ⟨qh, dh, rfl, xh, bh⟩
    have D5 : Hid (Below w9t.heap.size w9t wh) := below_then D3.out bh
    have XH : Hid (XIn wh qh (aheadT s.txs k).length (aheadT s.txs k)) := xh
    have XP2 : Hid (XIn wh qp (aheadT s.txs k).length (aheadT s.txs k)) := XP.out.later bh
    refine hKc.out _ _ D5.out (fun hHeld => ?_)
    clear hKc Kc xh bh
    refine wpAnyH_ready (rs := [9]) (by kernel_rfl) (by simp) ?_
    refine AllReadyH.cons (by simp; rfl) (fun Kc hKc => ?_) AllReadyH.nil
    rw [← HFe.out]
    go_simp
    refine (same_eq 0 1 fe qp qh (aheadT s.txs k).length dp dh (aheadT s.txs k) wh XP2.out XH.out (by omega) hms).mono ?_
    rintro e wq ⟨rfl, bq⟩
    have D4 : Hid (Below w9t.heap.size w9t wq) := below_then D5.out bq
    refine hKc.out _ _ D4.out (fun hHeld => ?_)
    clear hKc Kc bq
    refine wpAnyH_take (i := 10) (v := ?vae5) (by simp; rfl) (by kernel_rfl) (by kernel_rfl) (by kernel_rfl) (fun _ _ _ h => h) (Or.inl ⟨by rfl, ?yae5⟩) hHeld ?rae5
    case yae5 => intro w hSw; clear hSw; go_simp; with_reducible rfl
    simp only [Act.put, List.setIfInBounds_toArray, List.set_cons_zero, List.set_cons_succ]
    refine wpAnyH_take (i := 11) (v := ?vae6) (by simp; rfl) (by kernel_rfl) (by kernel_rfl) (by kernel_rfl) (fun _ _ _ h => h) (Or.inl ⟨by rfl, ?yae6⟩) hHeld ?rae6
    case yae6 => intro w hSw; clear hSw; go_simp; with_reducible rfl
    simp only [Act.put, List.setIfInBounds_toArray, List.set_cons_zero, List.set_cons_succ]
    clear hHeld
    refine wpAnyH_done (by kernel_rfl) (NoPanic.normal ?_) _
    have FF : Hid (Below w.heap.size w wq) := below_then R9.out.low D4.out
    clear D2 D3 D4
    go_wp2_with fail
    go_ret
    exact ⟨rfl, FF.out⟩
end Go.Proofs.YtefnkjajjidfaaaDoor
