/-
  The laws' own: told. How a story, and bytes, that came in are opened. Layer 10, plain: what is found of a story that was written. Layer 10: ScanFinds.
-/
import Derived.Test.YtefnkjajjidfaaaDoorM4
import Derived.BigQuiet
import Derived.Deep.RegionHeld3
import Derived.Test.YtefnkjajjidfaaaDoorPa
import Derived.Deep.Slices
namespace Go.Proofs.YtefnkjajjidfaaaDoor
open Go.RowKit


section
variable {P : Program} {ops : Array Oper} {o : Oper} {a : Act} {w w' : World} {Q : Exit → Act → World → Prop} {K : Act → World → Prop}
theorem sq_store (hgd : Region.wanted o (yielded ops a.tmps) = true) (ty : TypeId) {x y : Operand} (ho : o.op = .store ty x y) {p v : Value} (hx : a.eval x = p) (hy : a.eval y = v) (hrun : (Instr.storeAt ty p v).run P w = .ok () w') (h : K (a.put o.dst undef) w') : if Region.wanted o (yielded ops a.tmps) = true then Oper.wp P o a w K Q else K (a.put o.dst undef) w := by
  rw [if_pos hgd]
  unfold Oper.wp
  have e : (execOp a.eval o).run P w = .ok .skip w' := by unfold execOp; simp only [ho, hx, hy, Sem.run_bind, hrun, Result.andThen_ok, Sem.run_pure]
  rw [e]
  exact h
end
theorem wrap_two {f n : Nat} (hf : f ≤ 13) (hn : n ≤ 6) : IntKind.i64.wrap (IntKind.i64.wrap ((f : Int) + (n : Int)) + 1) = (f : Int) + n + 1 := by
  rw [IntKind.wrap_i64, IntKind.wrap_i64]; omega
theorem lused0 {w W W' : World} {Bs Br Bc Bw B L p : Nat} {stl : List Value} {c : Sup} {g : Lg} {ws : List Wr} {al : List R.Rec} {s : Sc} {v : Value} {vs : List Value} (h : TS w W Bs Br Bc Bw B L p stl c g ws al s v vs) (hb : Below W.heap.size W W') : Calls Tryd.prog 13 #[.pointer (some ⟨L, 0, none⟩)] W' fun e w' => e = .returned (.int .i64 (al.length : Int)) ∧ W' = w' := by
  refine (lused_at (LAt.later h.lb.log hb) h.sty.ok).mono ?_
  rintro e w' ⟨rfl, rfl⟩
  refine ⟨?_, rfl⟩
  rw [h.sty.gt, h.sty.fin_is.1]
  simp
theorem Sty.more {c : Sup} {g : Lg} {ws : List Wr} {al : List R.Rec} {s : Sc} (h : Sty c g ws al s) (hl : (al.length : Int) < c.lc) : moreS g = 0 := by
  have h1 := h.fin_is.1; have h2 := h.mc.2.1
  refine moreS_ok (by omega) ?_
  rw [h.gt, h.gc]; omega
theorem TS.told {w W : World} {Bs Br Bc Bw B L p : Nat} {stl : List Value} {c : Sup} {g : Lg} {ws : List Wr} {al : List R.Rec} {s : Sc} {v : Value} {vs : List Value} (h : TS w W Bs Br Bc Bw B L p stl c g ws al s v vs) :
    LAt 48 (W.setRow Br (gcells 0 1 s.fin v).toArray) Br (gcells 0 1 s.fin v) ∧ LB (W.setRow Br (gcells 0 1 s.fin v).toArray) B L p (newS c) ws g ∧ Sty c g ws al s ∧ ws.length = al.length ∧ XOwn 28 (W.setRow Br (gcells 0 1 s.fin v).toArray) w.heap.size v s.txs vs ∧ w.heap.size ≤ B ∧ Below w.heap.size w (W.setRow Br (gcells 0 1 s.fin v).toArray) := by
  refine ⟨LAt.stored h.rs _, ?_, h.sty, h.wl, ?_, h.b0, below_setRow h.low h.r0 _⟩
  · refine h.lb.side (T := fun k => k = Br) ⟨rfl, rfl, rfl, by rw [size_setRow]; exact Nat.le_refl _, fun k _ hk => setRow_other W Br k _ hk⟩ fun k hk _ => ?_
    subst hk
    exact ⟨_, _, _, by decide, h.rs⟩
  · refine h.tx.kept (grownBy_setRow W Br _) (.inr (lat_not_row h.rs (by decide) h.tx.row)) fun u hu => ?_
    obtain ⟨j, hj, rfl⟩ := List.getElem_of_mem hu
    have hj' : j < s.txs.length := by rw [← h.tx.len]; exact hj
    exact .inr (lat_not_row h.rs (by decide) (h.tx.each j s.txs[j] vs[j] (List.getElem?_eq_getElem hj') (List.getElem?_eq_getElem hj)))
theorem results_told {fn : Func} {a b p u : Tmp} {ty : TypeId} (h : fn.results = #[.tmp a, .tmp b, .cell p ty, .tmp u]) (tmps : Array Value) (w : World) (g : Nat) (t : TypeId) (cs : List Value) (d : TypeDesc)
    (hp : tmps.getD p undef = .pointer (some ⟨g, 0, none⟩)) (hg : LAt t w g cs) (hu : Tryd.prog.underlying ty = some d) (hd : d.isRow = true) (hi : (Tryd.prog.info? ty).map (·.size) = some cs.length) :
    (results fn tmps).run Tryd.prog w = .ok (.tuple #[tmps.getD a undef, tmps.getD b undef, .agg cs.toArray, tmps.getD u undef]) w := by
  have hl := run_loadVar_mid w g 0 ty _ d (LAt.range hg) hu hd hi
  rw [Array.getD_eq_getD_getElem?] at hp
  simp only [results, h]
  simp [Result.andThen, hp, asAddr, hl]
/-- numbers of 16 bits that can be read -/
structure UIn (w : World) (p : Option Addr) (n : Nat) (l : List Int) : Prop where
  len : l.length = n
  cells : 0 < n → ∃ b o, p = some ⟨b, o, none⟩ ∧ ∀ (k : Nat) (x : Int), l[k]? = some x → w.cell? ⟨b, o + k, none⟩ = some (.int .u16 x)
  bd : ∀ x ∈ l, 0 ≤ x ∧ x < 65536
theorem UIn.later {w w' : World} {p : Option Addr} {n : Nat} {l : List Int} (h : UIn w p n l) (hb : Below w.heap.size w w') : UIn w' p n l :=
  ⟨h.len, fun h0 => by
    obtain ⟨b, o, e, hc⟩ := h.cells h0
    exact ⟨b, o, e, fun k x hk => (World.cell?_of_block (a := ⟨b, o + k, none⟩) (hb.block b (World.block_lt_of_cell? w _ (hc k x hk)))).trans (hc k x hk)⟩, h.bd⟩
theorem stc_range {t : TypeId} {w : World} {g : Nat} {c : Sup} {ps : Option Addr} {n cs : Nat} {sd : Int} {op : Bool} {pl : Option Addr} {m cl : Nat} (h : LAt t w g (stc c ps n cs sd op pl m cl)) : (Instr.loadAt 39 (.pointer (some ⟨g, 0, none⟩))).run Tryd.prog w = .ok (.agg (ccells c).toArray) w := by
  refine run_loadAt_mid w g 0 39 (ccells c) _ (fun j v hv => ?_) Tryd.underlying39 rfl (by rw [size23, ccells_len])
  rw [Nat.zero_add, LAt.cell h j]
  have hj := (List.getElem?_eq_some_iff.1 hv).1
  unfold stc
  rw [List.getElem?_append_left hj]; exact hv
/-- images that rise -/
def RiseI (l : List Im) : Prop := (blks l).Pairwise (· < ·)
theorem RiseI.snoc {l : List Im} (h : RiseI l) {i : Im} (hi : ∀ x ∈ l, x.b < i.b) : RiseI (l ++ [i]) := by
  unfold RiseI blks
  rw [List.map_append]
  refine List.pairwise_append.2 ⟨h, List.pairwise_singleton _ _, fun x hx y hy => ?_⟩
  obtain ⟨z, hz, rfl⟩ := List.mem_map.1 hx
  rw [List.mem_singleton.1 hy]
  exact hi z hz
theorem RiseI.last {l : List Im} (h : RiseI l) {j : Nat} {i : Im} (hj : l[j]? = some i) (h0 : (l.take j).length ≠ 0) : lastB (l.take j) < i.b := by
  have hjl := (List.getElem?_eq_some_iff.1 hj).1
  have hlj : (l.take j).length = j := by rw [List.length_take]; omega
  have h0' : 0 < j := by omega
  obtain ⟨x, hx⟩ : ∃ x, l[j - 1]? = some x := ⟨_, List.getElem?_eq_getElem (by omega)⟩
  have e : lastB (l.take j) = x.b := by
    unfold lastB
    rw [hlj, List.getD, List.getElem?_take, if_pos (by omega), hx]; rfl
  rw [e]
  have hp := List.pairwise_iff_getElem.1 h (j - 1) j (by simp; omega) (by simpa using hjl) (by omega)
  simp only [List.getElem_map] at hp
  obtain ⟨_, e1⟩ := List.getElem?_eq_some_iff.1 hx
  obtain ⟨_, e2⟩ := List.getElem?_eq_some_iff.1 hj
  rw [e1, e2] at hp
  exact hp
theorem bytes3 {x y : Int} (hx : 0 ≤ x ∧ x < 256) (hy : 0 ≤ y ∧ y < 256) : Bytes (x :: y :: 3 :: zs 29) := Bytes.cons hx (Bytes.cons hy (Bytes.cons (by omega) (zs_bytes 29)))
set_option maxHeartbeats 8000000 in
set_option maxRecDepth 100000 in
theorem told_any (s0 : Sup) (ps : Option Addr) (n cs : Nat) (sets : List Int) (sd : Int) (op : Bool) (pl : Option Addr) (m cl : Nat) (w : World) (ht : Tab w) (hS : UIn w ps n sets) (hn : n ≤ 140737488355328) :
    Calls Tryd.prog 11 #[.agg (stc s0 ps n cs sd op pl m cl).toArray] w fun e w' => ∃ p L q d vs B g ws al s, e = .returned (.tuple #[.pointer (some ⟨p, 0, none⟩), .pointer (some ⟨L, 0, none⟩), .agg (gcells 0 1 s.fin (.slice q s.txs.length d)).toArray, .bool true]) ∧ LB w' B L p (newS (cfgS s0)) ws g ∧ Sty (cfgS s0) g ws al s ∧ ws.length = al.length ∧ XOwn 28 w' w.heap.size (.slice q s.txs.length d) s.txs vs ∧ w.heap.size ≤ B ∧ Below w.heap.size w w' := by
  have HT : Hid (Tab w) := ht
  have HU : Hid (UIn w ps n sets) := hS
  have HC : Hid (MayC (cfgS s0)) := cfgS_may s0
  have hsl := hS.len
  obtain ⟨wa, hwa⟩ : ∃ y, y = w.alloc (.cells (stc s0 ps n cs sd op pl m cl).toArray 43) := ⟨_, rfl⟩
  obtain ⟨wb, hwb⟩ : ∃ y, y = wa.alloc (.cells (gcells 0 0 0 (.slice none 0 0)).toArray 48) := ⟨_, rfl⟩
  have ewa := hwa.symm
  have sa : wa.heap.size = w.heap.size + 1 := by rw [hwa]; simp
  have A1 : Hid (_) := allocR wa
  rw [← hwb, sa] at A1
  have bwa : Below w.heap.size w wa := by rw [hwa]; exact below_alloc w _
  have bab : Below wa.heap.size wa wb := by rw [hwb]; exact below_alloc wa _
  have S0 : LAt 43 wb w.heap.size (stc s0 ps n cs sd op pl m cl) := by
    refine LAt.later ?_ bab
    rw [hwa]; exact LAt.new 43 w _
  have R0 : LAt 48 wb (w.heap.size + 1) (gcells 0 0 0 (.slice none 0 0)) := by rw [hwb, ← sa]; exact LAt.new 48 wa _
  have L0 : Hid (_) := stc_range S0
  have B0 : Below w.heap.size w wb := below_then bwa bab
  clear hwa hwb bwa bab ht hS
  go_enter Tryd.func11, Tryd.ntmps11
  go_wp2_with ((with_reducible refine at_ops ?_); (first | (refine wpList_alloc_is (by rfl) 48 rfl A1.out ?_) | (refine wpList_load_is (by rfl) 39 rfl rfl L0.out ?_)); simp only [Act.put, List.setIfInBounds_toArray, List.set_cons_zero, List.set_cons_succ])
  refine (config10_any s0 wb).mono ?_
  rintro e w1 ⟨rfl, b1⟩
  clear A1 L0 ewa
  have A2 : Hid (_) := alloc23 w1
  have T2 : Hid (_) := store_new23 w1 (cfgS s0)
  obtain ⟨w2, hw2⟩ : ∃ y, y = w1.alloc (.cells (ccells (cfgS s0)).toArray 39) := ⟨_, rfl⟩
  rw [← hw2] at T2
  have s2 : w2.heap.size = w1.heap.size + 1 := by rw [hw2]; simp
  have b2 : Below w1.heap.size w1 w2 := by rw [hw2]; exact below_alloc w1 _
  have C2 : CAt w2 w1.heap.size (cfgS s0) := by rw [hw2]; exact LAt.new 39 w1 _
  have U3 : Hid (_) := buildR1 w2 1
  have A3 : Hid (_) := allocR w2
  have T3 : Hid (_) := store_newR w2 0 1 0 (v := .slice none 0 0) rfl
  obtain ⟨w3, hw3⟩ : ∃ y, y = w2.alloc (.cells (gcells 0 1 0 (.slice none 0 0)).toArray 48) := ⟨_, rfl⟩
  rw [← hw3, s2] at T3
  rw [s2] at A3
  have s3 : w3.heap.size = w1.heap.size + 1 + 1 := by rw [hw3, ← s2]; simp
  have b3 : Below w2.heap.size w2 w3 := by rw [hw3]; exact below_alloc w2 _
  have W3 : LAt 48 w3 (w1.heap.size + 1) (gcells 0 1 0 (.slice none 0 0)) := by rw [hw3, ← s2]; exact LAt.new 48 w2 _
  have C3 : CAt w3 w1.heap.size (cfgS s0) := LAt.later C2 b3
  have L3 : Hid (_) := CAt.load23 C3
  have bb3 : Below wb.heap.size wb w3 := below_then b1 (below_then b2 b3)
  have B3 : Below w.heap.size w w3 := below_then B0 bb3
  have S3 := LAt.later S0 bb3
  have R3 := LAt.later R0 bb3
  have hb1 : w.heap.size + 2 ≤ w1.heap.size := by have := LAt.lt R0; have := b1.size; omega
  clear hw2 hw3 b2 b3 C2 b1
  go_wp2_with ((with_reducible refine at_ops ?_); (first | (refine wpList_alloc_is (by rfl) 39 rfl A2.out ?_) | (refine wpList_store_is (by rfl) 39 rfl rfl rfl T2.out ?_) | (refine wpList_build_is (vs := [(1, .int .u64 1)]) (by rfl) 48 rfl (by rfl) U3.out ?_) | (refine wpList_alloc_is (by rfl) 48 rfl A3.out ?_) | (refine wpList_store_is (by rfl) 48 rfl rfl rfl T3.out ?_) | (refine wpList_load_is (by rfl) 39 rfl rfl L3.out ?_)); simp only [Act.put, List.setIfInBounds_toArray, List.set_cons_zero, List.set_cons_succ])
  refine (hnew_good (cfgS s0) HC.out w3 (HT.out.later B3)).mono ?_
  rintro e w4 ⟨p, rfl, d4, b4⟩
  have C4 := LAt.later C3 b4
  have L4 : Hid (_) := CAt.load23 C4
  have hop : opnS (cfgS s0) (cntS (cfgS s0) : Nat) 0 1 = 0 := opnS_ok HC.out (cntS_is HC.out) (by omega) (by omega)
  clear A2 T2 U3 A3 T3 L3
  go_wp2_with (first | (go_at_call 15; refine (num_any _ _).mono ?_; rintro e wn ⟨rfl, rfl⟩) | ((with_reducible refine at_ops ?_); (refine wpList_load_is (by rfl) 39 rfl rfl L4.out ?_); simp only [Act.put, List.setIfInBounds_toArray, List.set_cons_zero, List.set_cons_succ]))
  refine (open_ok (cfgS s0) 0 1 (by omega) (by omega) d4 hop).mono ?_
  rintro e w5 ⟨L, rfl, hL, l5, b5⟩
  have b35 : Below w3.heap.size w3 w5 := below_then b4 b5
  have s34 := b4.size
  have TS5 : Hid (TS w w5 w.heap.size (w.heap.size + 1) w1.heap.size (w1.heap.size + 1) (w1.heap.size + 1 + 1) L p (stc s0 ps n cs sd op pl m cl) (cfgS s0) (opnG (cfgS s0) 0 1) [] [] ⟨[], 0, []⟩ (.slice none 0 0) []) := by
    refine ⟨LAt.later S3 b35, LAt.later R3 b35, LAt.later C3 b35, LAt.later W3 b35, XOwn.nil _ _ _, ?_, Sty.start HC.out, rfl, below_then B3 b35, by omega, by omega, by omega, by omega⟩
    exact l5.mono fun k _ hk => hk.elim (fun h => by show _ ≤ k; omega) (fun h => by show _ ≤ k; omega)
  clear d4 b4 b5 l5 L4 C4 S3 R3 C3 W3 B3 B0 S0 R0 bb3 b35 hop
  go_wp2_with (go_at_call 15; refine (num_any _ _).mono ?_; rintro e wn ⟨rfl, rfl⟩)
  obtain ⟨bl, hbl⟩ : ∃ bl : Nat, (cfgS s0).bl = bl := ⟨(cfgS s0).bl.toNat, by have := HC.out.1; omega⟩
  obtain ⟨mr, hmr⟩ : ∃ mr : Nat, (cfgS s0).mr = mr := ⟨(cfgS s0).mr.toNat, by have := HC.out.2.2.1; omega⟩
  obtain ⟨lc, hlc⟩ : ∃ lc : Nat, (cfgS s0).lc = lc := ⟨(cfgS s0).lc.toNat, by have := HC.out.2.1; omega⟩
  have hbl6 : bl ≤ 6 := by have := (cfgS_small s0).2; omega
  have hmrl : mr ≤ bl := by have := HC.out.2.2.1; omega
  have hlc13 : lc ≤ 13 := by have := (cfgS_small s0).1; omega
  clear hb1 s2 s3 s34 hL sa
  go_loopw [12] (fun i wr => ∃ k : Nat, k ≤ n ∧ i = .int .i64 k ∧ Hid (∃ g ws al s v vs, TS w wr w.heap.size (w.heap.size + 1) w1.heap.size (w1.heap.size + 1) (w1.heap.size + 1 + 1) L p (stc s0 ps n cs sd op pl m cl) (cfgS s0) g ws al s v vs ∧ s.come = [])) (fun i _ => n - (intOf i).toNat)
  case atStart => exact ⟨0, Nat.zero_le _, rfl, _, _, _, _, _, _, TS5.out, rfl⟩
  case round =>
    obtain ⟨k, hk, rfl, HI⟩ := hrel
    obtain ⟨wo, hwo⟩ : ∃ wo, wo = wr := ⟨_, rfl⟩
    subst hwo
    obtain ⟨g, ws, al, s, v, vs, hts, hcome⟩ := HI.out
    clear HI TS5
    have c5 : wo.cell? ⟨w.heap.size, 5, none⟩ = some (.slice ps n cs) := LAt.cell hts.st 5
    have TR : Hid (TS w wo w.heap.size (w.heap.size + 1) w1.heap.size (w1.heap.size + 1) (w1.heap.size + 1 + 1) L p (stc s0 ps n cs sd op pl m cl) (cfgS s0) g ws al s v vs) := hts
    by_cases hlt : k < n
    · obtain ⟨x, hx⟩ : ∃ x, sets[k]? = some x := ⟨_, List.getElem?_eq_getElem (by omega)⟩
      clear hts
      go_wp2_with fail
      go_loopw [13, 14] (fun vi ib wr2 => ∃ (b : Nat) (ims : List Im), b ≤ bl ∧ ib = .int .i64 b ∧ Hid (IOwn wr2 wo.heap.size vi ims ∧ RiseI ims ∧ (∀ i ∈ ims, 0 ≤ i.b ∧ i.b < b) ∧ ImsWf ims ∧ ims.length ≤ mr ∧ Below wo.heap.size wo wr2)) (fun _ ib _ => bl - (intOf ib).toNat)
      case atStart => exact ⟨0, [], Nat.zero_le _, rfl, World.ownsRow_nil _ _ _ _, List.Pairwise.nil, fun i h => (by cases h), ImsWf.nil, Nat.zero_le _, Below.refl _ _⟩
      case round =>
        obtain ⟨b, ims, hb, rfl, HJ⟩ := hrel
        obtain ⟨i1, i2, i3, i4, i5, i6⟩ := HJ.out
        clear HJ
        obtain ⟨q13, c13, rfl, m13, m13a, m13b⟩ := IOwn.in i1 i4
        have T2' := TR.out.later i6
        have f0 := CAt.c0 T2'.cf
        have f2 := CAt.c2 T2'.cf
        rw [hbl] at f0
        rw [hmr] at f2
        have k5 : wr.cell? ⟨w.heap.size, 5, none⟩ = some (.slice ps n cs) := LAt.cell T2'.st 5
        have k6 : wr.cell? ⟨w.heap.size, 6, none⟩ = some (.int .u8 sd) := LAt.cell T2'.st 6
        by_cases hbl' : b < bl
        · by_cases hml : ims.length < mr
          · obtain ⟨gs, os, rfl, hcs⟩ := (HU.out.later T2'.low).cells (by omega)
            have kx := hcs k x hx
            clear hcs T2'
            cases hbit : (bits BinOp.and IntKind.u16 (x / 2 ^ b) 1 == 1) with
            | true =>
              have hxv : (((sd + (k : Int)) % 256) :: (b : Int) :: 3 :: zs 29).length = 32 := rfl
              have VB : Hid (_) := buildV3 wr ((sd + (k : Int)) % 256) (b : Int) 3
              have UI : Hid (_) := buildI wr (b : Int) (((sd + (k : Int)) % 256) :: (b : Int) :: 3 :: zs 29) hxv
              have SL : Hid (_) := build_im wr ⟨(b : Int), ((sd + (k : Int)) % 256) :: (b : Int) :: 3 :: zs 29⟩ hxv
              obtain ⟨i0, hi0, hz0, hz1, hz2⟩ := info_parts infoI
              have h65 : (65 : Nat) ≤ maxLen := by decide
              obtain ⟨v4, w4', hrun4, own4, grow4, -⟩ := run_append_own (P := Tryd.prog) (wr.alloc (.cells (icells ⟨(b : Int), ((sd + (k : Int)) % 256) :: (b : Int) :: 3 :: zs 29⟩).toArray 32)) wo.heap.size 26 26 32 i0 _ 33 40 Tryd.underlying26 hi0 hz0 hz1 hz2 rfl (by decide) _ ims.length (IC ims) (i1.alloc _) ⟨wr.heap.size, 0, none⟩ 1 1 (icells ⟨(b : Int), ((sd + (k : Int)) % 256) :: (b : Int) :: 3 :: zs 29⟩) (by rw [icells_len hxv]) (fun j u hu => by
                rw [Addr.add_mid, Nat.zero_add, LAt.cell (LAt.new 32 wr (icells ⟨(b : Int), ((sd + (k : Int)) % 256) :: (b : Int) :: 3 :: zs 29⟩)) j]; exact hu) (icells_ones _) (by omega) (by omega) (by have := i6.size; simp; omega)
              have AP4 : Hid (_) := hrun4
              have F4 : Hid (IOwn w4' wo.heap.size v4 (ims ++ [⟨(b : Int), ((sd + (k : Int)) % 256) :: (b : Int) :: 3 :: zs 29⟩]) ∧ RiseI (ims ++ [⟨(b : Int), ((sd + (k : Int)) % 256) :: (b : Int) :: 3 :: zs 29⟩]) ∧ (∀ i ∈ ims ++ [(⟨(b : Int), ((sd + (k : Int)) % 256) :: (b : Int) :: 3 :: zs 29⟩ : Im)], 0 ≤ i.b ∧ i.b < ((b + 1 : Nat) : Int)) ∧ ImsWf (ims ++ [⟨(b : Int), ((sd + (k : Int)) % 256) :: (b : Int) :: 3 :: zs 29⟩]) ∧ (ims ++ [(⟨(b : Int), ((sd + (k : Int)) % 256) :: (b : Int) :: 3 :: zs 29⟩ : Im)]).length ≤ mr ∧ Below wo.heap.size wo w4') := by
                refine ⟨?_, i2.snoc (fun x hx => (i3 x hx).2), fun i hi => ?_, i4.snoc ⟨⟨by show (-9223372036854775808 : Int) ≤ b; omega, by show (b : Int) ≤ _; omega⟩, hxv, bytes3 (by omega) (by omega)⟩, by rw [List.length_append, List.length_singleton]; omega, ?_⟩
                · rw [IOwn, IC_snoc, List.length_append, List.length_singleton]; exact own4
                · rcases List.mem_append.1 hi with hi | hi
                  · have := i3 i hi; omega
                  · rw [List.mem_singleton.1 hi]; show (0 : Int) ≤ b ∧ (b : Int) < ((b + 1 : Nat) : Int); omega
                · exact (i6.alloc i6.size _).grown grow4 (by have := i6.size; simp; omega) fun j ej => (i1.lt j ej).1
              clear hrun4 own4 grow4 i1 i2 i3 i4 i5 i6 m13
              go_wp2_with ((with_reducible refine at_ops ?_); (first | (refine wpList_build_is (vs := [(0, .int .u8 ((sd + (k : Int)) % 256)), (1, .int .u8 (b : Int)), (2, .int .u8 3)]) (by rfl) 30 rfl (by rfl) VB.out ?_) | (refine wpList_build_is (vs := [(0, .int .i64 (b : Int)), (1, .agg (U8 (((sd + (k : Int)) % 256) :: (b : Int) :: 3 :: zs 29)).toArray)]) (by rfl) 32 rfl (by rfl) UI.out ?_) | (refine wpList_slice_is (u := .agg (icells ⟨(b : Int), ((sd + (k : Int)) % 256) :: (b : Int) :: 3 :: zs 29⟩).toArray) (by rfl) 26 rfl rfl SL.out ?_) | (refine wpList_append_is (u1 := .slice q13 ims.length c13) (u2 := .slice (some ⟨wr.heap.size, 0, none⟩) 1 1) (by rfl) rfl rfl rfl rfl AP4.out ?_)); simp only [Act.put, List.setIfInBounds_toArray, List.set_cons_zero, List.set_cons_succ])
              go_roundw
              case rel => exact ⟨b + 1, _, by omega, by go_num, F4.out⟩
              case measure => simp [intOf]; omega
            | false =>
              have F4 : Hid (IOwn wr wo.heap.size (.slice q13 ims.length c13) ims ∧ RiseI ims ∧ (∀ i ∈ ims, 0 ≤ i.b ∧ i.b < ((b + 1 : Nat) : Int)) ∧ ImsWf ims ∧ ims.length ≤ mr ∧ Below wo.heap.size wo wr) := ⟨i1, i2, fun i hi => by have := i3 i hi; omega, i4, i5, i6⟩
              clear i1 i2 i3 i4 i5 i6 m13
              go_wp2_with fail
              go_roundw
              case rel => exact ⟨b + 1, _, by omega, by go_num, F4.out⟩
              case measure => simp [intOf]; omega
          · clear m13
            have TU : Hid (TS w wr w.heap.size (w.heap.size + 1) w1.heap.size (w1.heap.size + 1) (w1.heap.size + 1 + 1) L p (stc s0 ps n cs sd op pl m cl) (cfgS s0) g ws al s v vs) := T2'
            have O2 : Hid (IOwn wr wo.heap.size (.slice q13 ims.length c13) ims) := i1
            have hwo : w.heap.size ≤ wo.heap.size := TR.out.low.size
            have hwr : wo.heap.size ≤ wr.heap.size := i6.size
            have hfl := T2'.sty.fin_is
            have hl0 : al.length ≤ 13 := by omega
            obtain ⟨f, hf⟩ : ∃ f : Nat, al.length = f := ⟨_, rfl⟩
            rw [hf] at hl0
            have hil : ims.length ≤ 6 := by omega
            obtain ⟨wv, hwv⟩ : ∃ wv, wv = wr := ⟨_, rfl⟩
            subst hwv
            have HLC : Hid (∀ W, Below wv.heap.size wv W → W.cell? ⟨w1.heap.size, 1, none⟩ = some (.int .i64 (lc : Int))) := fun W hW => by rw [← hlc]; exact CAt.c1 (LAt.later TU.out.cf hW)
            clear T2' i1 hfl
            go_wp2_with fail
            clear f0 f2 k5 k6
            refine wp_region_noPanic ?_
            refine wp_region_held_drew (S := fun w' => Below wv.heap.size wv w') (by kernel_rfl) (below_drawn 1) (fun hHeld => ?_)
            have D1 : Hid (Below wv.heap.size wv wv.drew) := hHeld
            generalize wv.drew = wu at *
            refine wpAnyH_take (i := 0) (v := ?va1) (by simp; rfl) (by kernel_rfl) (by kernel_rfl) (by kernel_rfl) (fun _ _ _ h => h) (Or.inl ⟨by rfl, ?ya1⟩) hHeld ?ra1
            case ya1 => intro w hSw; clear hSw; go_simp; with_reducible rfl
            simp only [Act.put, List.setIfInBounds_toArray, List.set_cons_zero, List.set_cons_succ]
            refine wpAnyH_take (i := 2) (v := ?va2) (by simp; rfl) (by kernel_rfl) (by kernel_rfl) (by kernel_rfl) (fun _ _ _ h => h) (Or.inl ⟨by rfl, ?ya2⟩) hHeld ?ra2
            case ya2 => intro w hSw; clear hSw; go_simp; with_reducible rfl
            simp only [Act.put, List.setIfInBounds_toArray, List.set_cons_zero, List.set_cons_succ]
            refine wpAnyH_take (i := 3) (v := ?va3) (by simp; rfl) (by kernel_rfl) (by kernel_rfl) (by kernel_rfl) (fun _ _ _ h => h) (Or.inl ⟨by rfl, ?ya3⟩) hHeld ?ra3
            case ya3 => intro w hSw; clear hSw; go_simp; with_reducible rfl
            simp only [Act.put, List.setIfInBounds_toArray, List.set_cons_zero, List.set_cons_succ]
            refine wpAnyH_take (i := 6) (v := ?va4) (by simp; rfl) (by kernel_rfl) (by kernel_rfl) (by kernel_rfl) (fun _ _ _ h => h) (Or.inl ⟨by rfl, ?ya4⟩) hHeld ?ra4
            case ya4 => intro w hSw; clear hSw; go_simp; with_reducible rfl
            simp only [Act.put, List.setIfInBounds_toArray, List.set_cons_zero, List.set_cons_succ]
            refine wpAnyH_take (i := 7) (v := ?va5) (by simp; rfl) (by kernel_rfl) (by kernel_rfl) (by kernel_rfl) (fun _ _ _ h => h) (Or.inl ⟨by rfl, ?ya5⟩) hHeld ?ra5
            case ya5 => intro w hSw; have z := HLC.out _ hSw; clear hSw; go_simp; with_reducible rfl
            simp only [Act.put, List.setIfInBounds_toArray, List.set_cons_zero, List.set_cons_succ]
            refine wpAnyH_ready (rs := [1]) (by kernel_rfl) (by simp) ?_
            refine AllReadyH.cons (by simp; rfl) (fun Kc hKc => ?_) AllReadyH.nil
            go_simp
            refine (lused0 TU.out D1.out).mono ?_
            rintro e wn ⟨rfl, rfl⟩
            refine hKc.out _ _ D1.out (fun hHeld => ?_)
            clear hKc Kc
            refine wpAnyH_take (i := 4) (v := ?va6) (by simp; rfl) (by kernel_rfl) (by kernel_rfl) (by kernel_rfl) (fun _ _ _ h => h) (Or.inl ⟨by rfl, ?ya6⟩) hHeld ?ra6
            case ya6 => intro w hSw; clear hSw; go_simp; with_reducible rfl
            simp only [Act.put, List.setIfInBounds_toArray, List.set_cons_zero, List.set_cons_succ]
            refine wpAnyH_take (i := 5) (v := ?va7) (by simp; rfl) (by kernel_rfl) (by kernel_rfl) (by kernel_rfl) (fun _ _ _ h => h) (Or.inl ⟨by rfl, ?ya7⟩) hHeld ?ra7
            case ya7 => intro w hSw; clear hSw; go_simp; with_reducible rfl
            simp only [Act.put, List.setIfInBounds_toArray, List.set_cons_zero, List.set_cons_succ]
            refine wpAnyH_take (i := 8) (v := ?va8) (by simp; rfl) (by kernel_rfl) (by kernel_rfl) (by kernel_rfl) (fun _ _ _ h => h) (Or.inl ⟨by rfl, ?ya8⟩) hHeld ?ra8
            case ya8 => intro w hSw; clear hSw; go_simp; with_reducible rfl
            simp only [Act.put, List.setIfInBounds_toArray, List.set_cons_zero, List.set_cons_succ]
            clear hHeld
            refine wpAnyH_done (by kernel_rfl) (NoPanic.normal ?_) _
            have TU2 : Hid (TS w wu w.heap.size (w.heap.size + 1) w1.heap.size (w1.heap.size + 1) (w1.heap.size + 1 + 1) L p (stc s0 ps n cs sd op pl m cl) (cfgS s0) g ws al s v vs) := TU.out.later D1.out
            have O3 : Hid (IOwn wu wo.heap.size (.slice q13 ims.length c13) ims) := O2.out.later D1.out
            have hwu : wo.heap.size ≤ wu.heap.size := by have := D1.out.size; omega
            clear TU O2 HLC D1
            have hwrp : IntKind.i64.wrap (IntKind.i64.wrap ((f : Int) + (ims.length : Int)) + 1) = (f : Int) + ims.length + 1 := wrap_two hl0 hil
            by_cases hfull : (lc : Int) < (f : Int) + ims.length + 1
            · have hq2 : (lc : Int) < IntKind.i64.wrap (IntKind.i64.wrap ((f : Int) + (ims.length : Int)) + 1) := by rw [hwrp]; exact hfull
              go_wp2_with fail
              obtain ⟨qe, ce, hve, -, -, -⟩ := XOwn.in TU2.out.tx
              have TV := TU2.out
              rw [hve] at TV
              have TX : Hid (_) := TV
              clear TV
              refine wp_region_noPanic ?_
              refine wp_region_held_drew (S := fun W => LAt 48 W (w1.heap.size + 1) (gcells 0 1 (s).fin (.slice qe (s).txs.length ce))) (by kernel_rfl) (TX.out.later (below_drawn 1)).wt (fun hHeld => ?_)
              have TD : Hid (_) := TX.out.later (show Below (wu).heap.size (wu) (wu).drew from below_drawn 1)
              clear TX
              generalize (wu).drew = wd at *
              have TE : Hid (_) := LAt.store (ds := gcells 0 1 (s).fin (.slice qe (s).txs.length ce)) TD.out.rs sizeR rfl (all_oneCell_toArray (gcells_ones rfl 0 1 (s).fin))
              refine wpAnyH_take (i := 0) (v := ?va9) (by simp; rfl) (by kernel_rfl) (by kernel_rfl) (by kernel_rfl) (fun _ _ _ h => h) (Or.inl ⟨by rfl, ?ya9⟩) hHeld ?ra9
              case ya9 => intro w hSw; clear hSw; go_simp; with_reducible rfl
              simp only [Act.put, List.setIfInBounds_toArray, List.set_cons_zero, List.set_cons_succ]
              refine wpAnyH_take (i := 1) (v := ?va10) (by simp; rfl) (by kernel_rfl) (by kernel_rfl) (by kernel_rfl) (fun _ _ _ h => h) (Or.inl ⟨by rfl, ?ya10⟩) hHeld ?ra10
              case ya10 => intro w hSw; clear hSw; go_simp; with_reducible rfl
              simp only [Act.put, List.setIfInBounds_toArray, List.set_cons_zero, List.set_cons_succ]
              refine wpAnyH_take (i := 2) (v := _) (by simp; rfl) (by kernel_rfl) (by kernel_rfl) (by kernel_rfl) (fun _ _ _ h => h) (yieldsIf_load_mid (by rfl) 48 (.tmp 7) rfl (w1.heap.size + 1) 0 rfl (gcells 0 1 (s).fin (.slice qe (s).txs.length ce)) _ (fun _ h => LAt.range h) Tryd.underlying48 rfl sizeR) hHeld ?_
              simp only [Act.put, List.setIfInBounds_toArray, List.set_cons_zero, List.set_cons_succ]
              refine wpAnyH_take (i := 3) (v := ?va11) (by simp; rfl) (by kernel_rfl) (by kernel_rfl) (by kernel_rfl) (fun _ _ _ h => h) (Or.inl ⟨by rfl, ?ya11⟩) hHeld ?ra11
              case ya11 => intro w hSw; clear hSw; go_simp; with_reducible rfl
              simp only [Act.put, List.setIfInBounds_toArray, List.set_cons_zero, List.set_cons_succ]
              refine wpAnyH_take (i := 4) (v := ?va12) (by simp; rfl) (by kernel_rfl) (by kernel_rfl) (by kernel_rfl) (fun _ _ _ h => h) (Or.inl ⟨by rfl, ?ya12⟩) hHeld ?ra12
              case ya12 => intro w hSw; clear hSw; go_simp; with_reducible rfl
              simp only [Act.put, List.setIfInBounds_toArray, List.set_cons_zero, List.set_cons_succ]
              refine wpAnyH_ready (rs := [5]) (by kernel_rfl) (by simp) ?_
              refine AllReadyH.cons (by simp; rfl) (fun Kc hKc => ?_) AllReadyH.nil
              refine sq_store (p := .pointer (some ⟨w.heap.size + 1, 0, none⟩)) (v := .agg (gcells 0 1 (s).fin (.slice qe (s).txs.length ce)).toArray) (by rfl) 48 rfl rfl rfl TE.out ?_
              refine hKc.out _ _ (LAt.other hHeld _ TD.out.ne.symm) (fun hHeld => ?_)
              clear hKc Kc
              simp only [Act.put]
              refine wpAnyH_take (i := 6) (v := ?va13) (by simp; rfl) (by kernel_rfl) (by kernel_rfl) (by kernel_rfl) (fun _ _ _ h => h) (Or.inl ⟨by rfl, ?ya13⟩) hHeld ?ra13
              case ya13 => intro w hSw; clear hSw; go_simp; with_reducible rfl
              simp only [Act.put, List.setIfInBounds_toArray, List.set_cons_zero, List.set_cons_succ]
              clear hHeld
              refine wpAnyH_done (by kernel_rfl) (NoPanic.normal ?_) _
              have FF : Hid (_) := TD.out.told
              clear TD TE
              go_wp2_with fail
              exact bodyPost_ret (results_told Tryd.results11 _ _ (w.heap.size + 1) 48 _ _ (by rfl) FF.out.1 Tryd.underlying48 rfl sizeR) rfl ⟨p, L, qe, ce, _, _, _, _, _, s, rfl, FF.out.2.1, FF.out.2.2.1, FF.out.2.2.2.1, FF.out.2.2.2.2.1, FF.out.2.2.2.2.2.1, FF.out.2.2.2.2.2.2⟩
            · have hq2 : ¬ (lc : Int) < IntKind.i64.wrap (IntKind.i64.wrap ((f : Int) + (ims.length : Int)) + 1) := by rw [hwrp]; exact hfull
              go_wp2_with fail
              go_loopw [105] (fun ij wr3 => ∃ j : Nat, j ≤ ims.length ∧ ij = .int .i64 j ∧ Hid (∃ g3 ws3 al3, TS w wr3 w.heap.size (w.heap.size + 1) w1.heap.size (w1.heap.size + 1) (w1.heap.size + 1 + 1) L p (stc s0 ps n cs sd op pl m cl) (cfgS s0) g3 ws3 al3 ⟨s.txs, s.fin, ims.take j⟩ v vs ∧ al3.length = f + j ∧ IOwn wr3 wo.heap.size (.slice q13 ims.length c13) ims)) (fun ij _ => ims.length - (intOf ij).toNat)
              case atStart => exact ⟨0, Nat.zero_le _, rfl, g, ws, al, by have := TU2.out; rw [show s = ⟨s.txs, s.fin, []⟩ from by rw [← hcome]] at this; exact this, hf, O3.out⟩
              case round =>
                obtain ⟨j, hj, rfl, HK⟩ := hrel
                obtain ⟨g3, ws3, al3, h3, hal, o3⟩ := HK.out
                clear HK TU2 O3
                have m3 : MIn wr q13 ims.length ims := by
                  obtain ⟨q', c', e', mi, -, -⟩ := IOwn.in o3 i4
                  cases e'
                  exact mi
                by_cases hjl : j < ims.length
                · obtain ⟨y, hy⟩ : ∃ y, ims[j]? = some y := ⟨_, List.getElem?_eq_getElem hjl⟩
                  have hyw := i4 y (List.mem_of_getElem? hy)
                  have hyb := i3 y (List.mem_of_getElem? hy)
                  obtain ⟨gq, oq, rfl, -⟩ := m3.cells (by omega)
                  have L8 : Hid (_) := m3.load hy
                  have A8 : Hid (_) := allocI wr
                  have T8 : Hid (_) := store_newI wr y hyw.len
                  obtain ⟨w8, hw8⟩ : ∃ z, z = wr.alloc (.cells (icells y).toArray 32) := ⟨_, rfl⟩
                  rw [← hw8] at T8
                  have l8 : LAt 32 w8 wr.heap.size (icells y) := by rw [hw8]; exact LAt.new 32 wr _
                  have c80 : w8.cell? ⟨wr.heap.size, 0, none⟩ = some (.int .i64 y.b) := LAt.cell l8 0
                  have LV8 : Hid (_) := LAt.loadIv l8 hyw.len
                  have b8 : Below wr.heap.size wr w8 := by rw [hw8]; exact below_alloc wr _
                  have H8 : Hid (TS w w8 w.heap.size (w.heap.size + 1) w1.heap.size (w1.heap.size + 1) (w1.heap.size + 1 + 1) L p (stc s0 ps n cs sd op pl m cl) (cfgS s0) g3 ws3 al3 ⟨s.txs, s.fin, ims.take j⟩ v vs) := h3.later b8
                  have O8 : Hid (IOwn w8 wo.heap.size (.slice (some ⟨gq, oq, none⟩) ims.length c13) ims) := o3.later b8
                  have himg : imgS g3 y.b = 0 := by
                    refine imgS_ok (h3.sty.more (by rw [hlc]; omega)) fun hbad => ?_
                    have e1 := h3.sty.imgs
                    have hlj : (ims.take j).length = j := by rw [List.length_take]; omega
                    have e1' : g3.imgs = j := by rw [e1]; show ((ims.take j).length : Int) = j; rw [hlj]
                    have e2 : g3.c = cfgS s0 := h3.sty.gc
                    rcases hbad with hb1 | hb1 | hb1
                    · by_cases j0 : j = 0
                      · have := h3.sty.lst0 (by show (ims.take j).length = 0; omega)
                        omega
                      · have e3 := h3.sty.last (by show (ims.take j).length ≠ 0; omega)
                        have e4 := i2.last hy (by omega)
                        have e3' : g3.last = lastB (ims.take j) := e3
                        omega
                    · rw [e2, hbl] at hb1; omega
                    · rw [e2, hmr, e1'] at hb1; omega
                  have HTk : Hid (ims.take (j + 1) = ims.take j ++ [y]) := by show _ = _; rw [List.take_add_one, hy]; rfl
                  clear hw8 l8 b8 h3 o3 m3
                  go_wp2_with ((with_reducible refine at_ops ?_); (first | (refine wpList_load_is (by rfl) 32 rfl rfl L8.out ?_) | (refine wpList_load_is (by rfl) 30 rfl rfl LV8.out ?_) | (refine wpList_alloc_is (by rfl) 32 rfl A8.out ?_) | (refine wpList_store_is (by rfl) 32 rfl rfl rfl T8.out ?_)); simp only [Act.put, List.setIfInBounds_toArray, List.set_cons_zero, List.set_cons_succ])
                  refine (image_B H8.out.lb (by have := H8.out.fin_le; omega) (HT.out.later H8.out.low) y.b y.v hyw.len hyw.byte himg).mono ?_
                  rintro e w9 ⟨rfl, lb9, kt9⟩
                  have F9 : Hid (∃ g3 ws3 al3, TS w w9 w.heap.size (w.heap.size + 1) w1.heap.size (w1.heap.size + 1) (w1.heap.size + 1 + 1) L p (stc s0 ps n cs sd op pl m cl) (cfgS s0) g3 ws3 al3 ⟨s.txs, s.fin, ims.take (j + 1)⟩ v vs ∧ al3.length = f + (j + 1) ∧ IOwn w9 wo.heap.size (.slice (some ⟨gq, oq, none⟩) ims.length c13) ims) := by
                    rw [HTk.out]
                    exact ⟨_, _, _, H8.out.img himg hyw.len hyw.byte lb9 kt9, by rw [List.length_append, hal]; rfl, own_kt kt9 (by decide) O8.out⟩
                  clear lb9 kt9 H8 O8 himg
                  go_wp2_with (go_at_call 15; refine (num_any _ _).mono ?_; rintro e wn ⟨rfl, rfl⟩)
                  go_roundw
                  case rel => exact ⟨j + 1, by omega, by go_num, F9.out⟩
                  case measure => simp [intOf]; omega
                · obtain rfl : ims.length = j := by omega
                  rw [List.take_length] at h3
                  have d5 : wr.cell? ⟨w.heap.size, 5, none⟩ = some (.slice ps n cs) := LAt.cell h3.st 5
                  have d7 : wr.cell? ⟨w.heap.size, 7, none⟩ = some (.bool op) := LAt.cell h3.st 7
                  clear m3
                  cases op with
                  | true =>
                    by_cases hkn : (k : Int) = (n : Int) - 1
                    · have hq : ((k : Int) == (n : Int) - 1) = true := by simp [hkn]
                      have T3 : Hid (_) := h3
                      clear h3 o3
                      go_wp2_with fail
                      obtain ⟨qe, ce, hve, -, -, -⟩ := XOwn.in T3.out.tx
                      have TV := T3.out
                      rw [hve] at TV
                      have TX : Hid (_) := TV
                      clear TV
                      refine wp_region_noPanic ?_
                      refine wp_region_held_drew (S := fun W => LAt 48 W (w1.heap.size + 1) (gcells 0 1 ((⟨s.txs, s.fin, ims⟩ : Sc)).fin (.slice qe ((⟨s.txs, s.fin, ims⟩ : Sc)).txs.length ce))) (by kernel_rfl) (TX.out.later (below_drawn 1)).wt (fun hHeld => ?_)
                      have TD : Hid (_) := TX.out.later (show Below (wr).heap.size (wr) (wr).drew from below_drawn 1)
                      clear TX
                      generalize (wr).drew = wd at *
                      have TE : Hid (_) := LAt.store (ds := gcells 0 1 ((⟨s.txs, s.fin, ims⟩ : Sc)).fin (.slice qe ((⟨s.txs, s.fin, ims⟩ : Sc)).txs.length ce)) TD.out.rs sizeR rfl (all_oneCell_toArray (gcells_ones rfl 0 1 ((⟨s.txs, s.fin, ims⟩ : Sc)).fin))
                      refine wpAnyH_take (i := 0) (v := ?va14) (by simp; rfl) (by kernel_rfl) (by kernel_rfl) (by kernel_rfl) (fun _ _ _ h => h) (Or.inl ⟨by rfl, ?ya14⟩) hHeld ?ra14
                      case ya14 => intro w hSw; clear hSw; go_simp; with_reducible rfl
                      simp only [Act.put, List.setIfInBounds_toArray, List.set_cons_zero, List.set_cons_succ]
                      refine wpAnyH_take (i := 1) (v := ?va15) (by simp; rfl) (by kernel_rfl) (by kernel_rfl) (by kernel_rfl) (fun _ _ _ h => h) (Or.inl ⟨by rfl, ?ya15⟩) hHeld ?ra15
                      case ya15 => intro w hSw; clear hSw; go_simp; with_reducible rfl
                      simp only [Act.put, List.setIfInBounds_toArray, List.set_cons_zero, List.set_cons_succ]
                      refine wpAnyH_take (i := 2) (v := _) (by simp; rfl) (by kernel_rfl) (by kernel_rfl) (by kernel_rfl) (fun _ _ _ h => h) (yieldsIf_load_mid (by rfl) 48 (.tmp 7) rfl (w1.heap.size + 1) 0 rfl (gcells 0 1 ((⟨s.txs, s.fin, ims⟩ : Sc)).fin (.slice qe ((⟨s.txs, s.fin, ims⟩ : Sc)).txs.length ce)) _ (fun _ h => LAt.range h) Tryd.underlying48 rfl sizeR) hHeld ?_
                      simp only [Act.put, List.setIfInBounds_toArray, List.set_cons_zero, List.set_cons_succ]
                      refine wpAnyH_take (i := 3) (v := ?va16) (by simp; rfl) (by kernel_rfl) (by kernel_rfl) (by kernel_rfl) (fun _ _ _ h => h) (Or.inl ⟨by rfl, ?ya16⟩) hHeld ?ra16
                      case ya16 => intro w hSw; clear hSw; go_simp; with_reducible rfl
                      simp only [Act.put, List.setIfInBounds_toArray, List.set_cons_zero, List.set_cons_succ]
                      refine wpAnyH_take (i := 4) (v := ?va17) (by simp; rfl) (by kernel_rfl) (by kernel_rfl) (by kernel_rfl) (fun _ _ _ h => h) (Or.inl ⟨by rfl, ?ya17⟩) hHeld ?ra17
                      case ya17 => intro w hSw; clear hSw; go_simp; with_reducible rfl
                      simp only [Act.put, List.setIfInBounds_toArray, List.set_cons_zero, List.set_cons_succ]
                      refine wpAnyH_ready (rs := [5]) (by kernel_rfl) (by simp) ?_
                      refine AllReadyH.cons (by simp; rfl) (fun Kc hKc => ?_) AllReadyH.nil
                      refine sq_store (p := .pointer (some ⟨w.heap.size + 1, 0, none⟩)) (v := .agg (gcells 0 1 ((⟨s.txs, s.fin, ims⟩ : Sc)).fin (.slice qe ((⟨s.txs, s.fin, ims⟩ : Sc)).txs.length ce)).toArray) (by rfl) 48 rfl rfl rfl TE.out ?_
                      refine hKc.out _ _ (LAt.other hHeld _ TD.out.ne.symm) (fun hHeld => ?_)
                      clear hKc Kc
                      simp only [Act.put]
                      refine wpAnyH_take (i := 6) (v := ?va18) (by simp; rfl) (by kernel_rfl) (by kernel_rfl) (by kernel_rfl) (fun _ _ _ h => h) (Or.inl ⟨by rfl, ?ya18⟩) hHeld ?ra18
                      case ya18 => intro w hSw; clear hSw; go_simp; with_reducible rfl
                      simp only [Act.put, List.setIfInBounds_toArray, List.set_cons_zero, List.set_cons_succ]
                      clear hHeld
                      refine wpAnyH_done (by kernel_rfl) (NoPanic.normal ?_) _
                      have FF : Hid (_) := TD.out.told
                      clear TD TE
                      go_wp2_with fail
                      exact bodyPost_ret (results_told Tryd.results11 _ _ (w.heap.size + 1) 48 _ _ (by rfl) FF.out.1 Tryd.underlying48 rfl sizeR) rfl ⟨p, L, qe, ce, _, _, _, _, _, (⟨s.txs, s.fin, ims⟩ : Sc), rfl, FF.out.2.1, FF.out.2.2.1, FF.out.2.2.2.1, FF.out.2.2.2.2.1, FF.out.2.2.2.2.2.1, FF.out.2.2.2.2.2.2⟩
                    · have hq : ((k : Int) == (n : Int) - 1) = false := by simp [hkn]
                      go_wp2_with fail
                      have hm0 : moreS g3 = 0 := h3.sty.more (by have := h3.sty.fin_is; rw [hlc]; omega)
                      have hcw3 : ImsWf ims := i4
                      refine (commit_B h3.lb (by have := h3.fin_le; omega) (HT.out.later h3.low) hm0).mono ?_
                      rintro e w6 ⟨rfl, lb6, kt6⟩
                      obtain ⟨q7, c7, V7, hrun7, lg7, ts7⟩ := h3.com hm0 lb6 kt6 (q := q13) (k := ims.length) (m := c13) hcw3 (own_at (own_kt kt6 (by decide) o3) (fun g' hg' => Nat.le_trans hwo (o3.lt g' hg').1) rfl)
                      obtain ⟨qv, cv, hvv, -, -, -⟩ := XOwn.in h3.tx
                      have hfin3 : g3.fin = (al3.length : Int) := h3.sty.fin_is.1
                      have hal3 : al3.length ≤ 64 := by have := h3.sty.fin_is.2; omega
                      have z3 : w6.cell? ⟨w1.heap.size + 1, 3, none⟩ = some (.slice qv s.txs.length cv) := by rw [← hvv]; exact LAt.cell (lat_kt kt6 (by decide) h3.wt) 3
                      rw [hvv] at hrun7
                      have UX : Hid (_) := buildX w6 g3.fin q13 ims.length c13
                      have SX : Hid (_) := build_rtx w6 g3.fin q13 ims.length c13
                      have AP7 : Hid (_) := hrun7
                      have y3 : V7.cell? ⟨w1.heap.size + 1, 3, none⟩ = some v := LAt.cell lg7 3
                      have y3f := LAt.free lg7 3
                      have lg8 := LAt.set lg7 3 (.slice q7 (s.txs.length + 1) c7)
                      have y2 : (V7.setCell ⟨w1.heap.size + 1, 3, none⟩ (.slice q7 (s.txs.length + 1) c7)).cell? ⟨w1.heap.size + 1, 2, none⟩ = some (.int .u64 s.fin) := LAt.cell lg8 2
                      have y2f := LAt.free lg8 2
                      have T7 : Hid (_) := ts7
                      have hadd : IntKind.u64.wrap (g3.fin + 1) = g3.fin + 1 := G.wrap_u (by omega) (by omega)
                      clear hrun7 lg7 lg8 ts7 lb6 kt6 h3 o3 hvv hfin3
                      go_wp2_with (first | (go_at_call 15; refine (num_any _ _).mono ?_; rintro e wn ⟨rfl, rfl⟩) | ((with_reducible refine at_ops ?_); (first | (refine wpList_build_is (vs := [(0, .int .u64 g3.fin), (1, .slice q13 ims.length c13)]) (by rfl) 28 rfl (by rfl) UX.out ?_) | (refine wpList_slice_is (u := .agg #[.int .u64 g3.fin, .slice q13 ims.length c13]) (by rfl) 22 rfl rfl SX.out ?_) | (refine wpList_append_is (u1 := .slice qv s.txs.length cv) (u2 := .slice (some ⟨w6.heap.size, 0, none⟩) 1 1) (by rfl) rfl rfl rfl rfl AP7.out ?_)); simp only [Act.put, List.setIfInBounds_toArray, List.set_cons_zero, List.set_cons_succ]))
                      go_roundw
                      case rel => exact ⟨k + 1, by omega, by go_num, _, _, _, _, _, _, T7.out, rfl⟩
                      case measure => simp [intOf]; omega
                  | false =>
                    go_wp2_with fail
                    have hm0 : moreS g3 = 0 := h3.sty.more (by have := h3.sty.fin_is; rw [hlc]; omega)
                    have hcw3 : ImsWf ims := i4
                    refine (commit_B h3.lb (by have := h3.fin_le; omega) (HT.out.later h3.low) hm0).mono ?_
                    rintro e w6 ⟨rfl, lb6, kt6⟩
                    obtain ⟨q7, c7, V7, hrun7, lg7, ts7⟩ := h3.com hm0 lb6 kt6 (q := q13) (k := ims.length) (m := c13) hcw3 (own_at (own_kt kt6 (by decide) o3) (fun g' hg' => Nat.le_trans hwo (o3.lt g' hg').1) rfl)
                    obtain ⟨qv, cv, hvv, -, -, -⟩ := XOwn.in h3.tx
                    have hfin3 : g3.fin = (al3.length : Int) := h3.sty.fin_is.1
                    have hal3 : al3.length ≤ 64 := by have := h3.sty.fin_is.2; omega
                    have z3 : w6.cell? ⟨w1.heap.size + 1, 3, none⟩ = some (.slice qv s.txs.length cv) := by rw [← hvv]; exact LAt.cell (lat_kt kt6 (by decide) h3.wt) 3
                    rw [hvv] at hrun7
                    have UX : Hid (_) := buildX w6 g3.fin q13 ims.length c13
                    have SX : Hid (_) := build_rtx w6 g3.fin q13 ims.length c13
                    have AP7 : Hid (_) := hrun7
                    have y3 : V7.cell? ⟨w1.heap.size + 1, 3, none⟩ = some v := LAt.cell lg7 3
                    have y3f := LAt.free lg7 3
                    have lg8 := LAt.set lg7 3 (.slice q7 (s.txs.length + 1) c7)
                    have y2 : (V7.setCell ⟨w1.heap.size + 1, 3, none⟩ (.slice q7 (s.txs.length + 1) c7)).cell? ⟨w1.heap.size + 1, 2, none⟩ = some (.int .u64 s.fin) := LAt.cell lg8 2
                    have y2f := LAt.free lg8 2
                    have T7 : Hid (_) := ts7
                    have hadd : IntKind.u64.wrap (g3.fin + 1) = g3.fin + 1 := G.wrap_u (by omega) (by omega)
                    clear hrun7 lg7 lg8 ts7 lb6 kt6 h3 o3 hvv hfin3
                    go_wp2_with (first | (go_at_call 15; refine (num_any _ _).mono ?_; rintro e wn ⟨rfl, rfl⟩) | ((with_reducible refine at_ops ?_); (first | (refine wpList_build_is (vs := [(0, .int .u64 g3.fin), (1, .slice q13 ims.length c13)]) (by rfl) 28 rfl (by rfl) UX.out ?_) | (refine wpList_slice_is (u := .agg #[.int .u64 g3.fin, .slice q13 ims.length c13]) (by rfl) 22 rfl rfl SX.out ?_) | (refine wpList_append_is (u1 := .slice qv s.txs.length cv) (u2 := .slice (some ⟨w6.heap.size, 0, none⟩) 1 1) (by rfl) rfl rfl rfl rfl AP7.out ?_)); simp only [Act.put, List.setIfInBounds_toArray, List.set_cons_zero, List.set_cons_succ]))
                    go_roundw
                    case rel => exact ⟨k + 1, by omega, by go_num, _, _, _, _, _, _, T7.out, rfl⟩
                    case measure => simp [intOf]; omega
        · clear m13
          have TU : Hid (TS w wr w.heap.size (w.heap.size + 1) w1.heap.size (w1.heap.size + 1) (w1.heap.size + 1 + 1) L p (stc s0 ps n cs sd op pl m cl) (cfgS s0) g ws al s v vs) := T2'
          have O2 : Hid (IOwn wr wo.heap.size (.slice q13 ims.length c13) ims) := i1
          have hwo : w.heap.size ≤ wo.heap.size := TR.out.low.size
          have hwr : wo.heap.size ≤ wr.heap.size := i6.size
          have hfl := T2'.sty.fin_is
          have hl0 : al.length ≤ 13 := by omega
          obtain ⟨f, hf⟩ : ∃ f : Nat, al.length = f := ⟨_, rfl⟩
          rw [hf] at hl0
          have hil : ims.length ≤ 6 := by omega
          obtain ⟨wv, hwv⟩ : ∃ wv, wv = wr := ⟨_, rfl⟩
          subst hwv
          have HLC : Hid (∀ W, Below wv.heap.size wv W → W.cell? ⟨w1.heap.size, 1, none⟩ = some (.int .i64 (lc : Int))) := fun W hW => by rw [← hlc]; exact CAt.c1 (LAt.later TU.out.cf hW)
          clear T2' i1 hfl
          go_wp2_with fail
          clear f0 f2 k5 k6
          refine wp_region_noPanic ?_
          refine wp_region_held_drew (S := fun w' => Below wv.heap.size wv w') (by kernel_rfl) (below_drawn 1) (fun hHeld => ?_)
          have D1 : Hid (Below wv.heap.size wv wv.drew) := hHeld
          generalize wv.drew = wu at *
          refine wpAnyH_take (i := 0) (v := ?vab1) (by simp; rfl) (by kernel_rfl) (by kernel_rfl) (by kernel_rfl) (fun _ _ _ h => h) (Or.inl ⟨by rfl, ?yab1⟩) hHeld ?rab1
          case yab1 => intro w hSw; clear hSw; go_simp; with_reducible rfl
          simp only [Act.put, List.setIfInBounds_toArray, List.set_cons_zero, List.set_cons_succ]
          refine wpAnyH_take (i := 2) (v := ?vab2) (by simp; rfl) (by kernel_rfl) (by kernel_rfl) (by kernel_rfl) (fun _ _ _ h => h) (Or.inl ⟨by rfl, ?yab2⟩) hHeld ?rab2
          case yab2 => intro w hSw; clear hSw; go_simp; with_reducible rfl
          simp only [Act.put, List.setIfInBounds_toArray, List.set_cons_zero, List.set_cons_succ]
          refine wpAnyH_take (i := 3) (v := ?vab3) (by simp; rfl) (by kernel_rfl) (by kernel_rfl) (by kernel_rfl) (fun _ _ _ h => h) (Or.inl ⟨by rfl, ?yab3⟩) hHeld ?rab3
          case yab3 => intro w hSw; clear hSw; go_simp; with_reducible rfl
          simp only [Act.put, List.setIfInBounds_toArray, List.set_cons_zero, List.set_cons_succ]
          refine wpAnyH_take (i := 6) (v := ?vab4) (by simp; rfl) (by kernel_rfl) (by kernel_rfl) (by kernel_rfl) (fun _ _ _ h => h) (Or.inl ⟨by rfl, ?yab4⟩) hHeld ?rab4
          case yab4 => intro w hSw; clear hSw; go_simp; with_reducible rfl
          simp only [Act.put, List.setIfInBounds_toArray, List.set_cons_zero, List.set_cons_succ]
          refine wpAnyH_take (i := 7) (v := ?vab5) (by simp; rfl) (by kernel_rfl) (by kernel_rfl) (by kernel_rfl) (fun _ _ _ h => h) (Or.inl ⟨by rfl, ?yab5⟩) hHeld ?rab5
          case yab5 => intro w hSw; have z := HLC.out _ hSw; clear hSw; go_simp; with_reducible rfl
          simp only [Act.put, List.setIfInBounds_toArray, List.set_cons_zero, List.set_cons_succ]
          refine wpAnyH_ready (rs := [1]) (by kernel_rfl) (by simp) ?_
          refine AllReadyH.cons (by simp; rfl) (fun Kc hKc => ?_) AllReadyH.nil
          go_simp
          refine (lused0 TU.out D1.out).mono ?_
          rintro e wn ⟨rfl, rfl⟩
          refine hKc.out _ _ D1.out (fun hHeld => ?_)
          clear hKc Kc
          refine wpAnyH_take (i := 4) (v := ?vab6) (by simp; rfl) (by kernel_rfl) (by kernel_rfl) (by kernel_rfl) (fun _ _ _ h => h) (Or.inl ⟨by rfl, ?yab6⟩) hHeld ?rab6
          case yab6 => intro w hSw; clear hSw; go_simp; with_reducible rfl
          simp only [Act.put, List.setIfInBounds_toArray, List.set_cons_zero, List.set_cons_succ]
          refine wpAnyH_take (i := 5) (v := ?vab7) (by simp; rfl) (by kernel_rfl) (by kernel_rfl) (by kernel_rfl) (fun _ _ _ h => h) (Or.inl ⟨by rfl, ?yab7⟩) hHeld ?rab7
          case yab7 => intro w hSw; clear hSw; go_simp; with_reducible rfl
          simp only [Act.put, List.setIfInBounds_toArray, List.set_cons_zero, List.set_cons_succ]
          refine wpAnyH_take (i := 8) (v := ?vab8) (by simp; rfl) (by kernel_rfl) (by kernel_rfl) (by kernel_rfl) (fun _ _ _ h => h) (Or.inl ⟨by rfl, ?yab8⟩) hHeld ?rab8
          case yab8 => intro w hSw; clear hSw; go_simp; with_reducible rfl
          simp only [Act.put, List.setIfInBounds_toArray, List.set_cons_zero, List.set_cons_succ]
          clear hHeld
          refine wpAnyH_done (by kernel_rfl) (NoPanic.normal ?_) _
          have TU2 : Hid (TS w wu w.heap.size (w.heap.size + 1) w1.heap.size (w1.heap.size + 1) (w1.heap.size + 1 + 1) L p (stc s0 ps n cs sd op pl m cl) (cfgS s0) g ws al s v vs) := TU.out.later D1.out
          have O3 : Hid (IOwn wu wo.heap.size (.slice q13 ims.length c13) ims) := O2.out.later D1.out
          have hwu : wo.heap.size ≤ wu.heap.size := by have := D1.out.size; omega
          clear TU O2 HLC D1
          have hwrp : IntKind.i64.wrap (IntKind.i64.wrap ((f : Int) + (ims.length : Int)) + 1) = (f : Int) + ims.length + 1 := wrap_two hl0 hil
          by_cases hfull : (lc : Int) < (f : Int) + ims.length + 1
          · have hq2 : (lc : Int) < IntKind.i64.wrap (IntKind.i64.wrap ((f : Int) + (ims.length : Int)) + 1) := by rw [hwrp]; exact hfull
            go_wp2_with fail
            obtain ⟨qe, ce, hve, -, -, -⟩ := XOwn.in TU2.out.tx
            have TV := TU2.out
            rw [hve] at TV
            have TX : Hid (_) := TV
            clear TV
            refine wp_region_noPanic ?_
            refine wp_region_held_drew (S := fun W => LAt 48 W (w1.heap.size + 1) (gcells 0 1 (s).fin (.slice qe (s).txs.length ce))) (by kernel_rfl) (TX.out.later (below_drawn 1)).wt (fun hHeld => ?_)
            have TD : Hid (_) := TX.out.later (show Below (wu).heap.size (wu) (wu).drew from below_drawn 1)
            clear TX
            generalize (wu).drew = wd at *
            have TE : Hid (_) := LAt.store (ds := gcells 0 1 (s).fin (.slice qe (s).txs.length ce)) TD.out.rs sizeR rfl (all_oneCell_toArray (gcells_ones rfl 0 1 (s).fin))
            refine wpAnyH_take (i := 0) (v := ?vab9) (by simp; rfl) (by kernel_rfl) (by kernel_rfl) (by kernel_rfl) (fun _ _ _ h => h) (Or.inl ⟨by rfl, ?yab9⟩) hHeld ?rab9
            case yab9 => intro w hSw; clear hSw; go_simp; with_reducible rfl
            simp only [Act.put, List.setIfInBounds_toArray, List.set_cons_zero, List.set_cons_succ]
            refine wpAnyH_take (i := 1) (v := ?vab10) (by simp; rfl) (by kernel_rfl) (by kernel_rfl) (by kernel_rfl) (fun _ _ _ h => h) (Or.inl ⟨by rfl, ?yab10⟩) hHeld ?rab10
            case yab10 => intro w hSw; clear hSw; go_simp; with_reducible rfl
            simp only [Act.put, List.setIfInBounds_toArray, List.set_cons_zero, List.set_cons_succ]
            refine wpAnyH_take (i := 2) (v := _) (by simp; rfl) (by kernel_rfl) (by kernel_rfl) (by kernel_rfl) (fun _ _ _ h => h) (yieldsIf_load_mid (by rfl) 48 (.tmp 7) rfl (w1.heap.size + 1) 0 rfl (gcells 0 1 (s).fin (.slice qe (s).txs.length ce)) _ (fun _ h => LAt.range h) Tryd.underlying48 rfl sizeR) hHeld ?_
            simp only [Act.put, List.setIfInBounds_toArray, List.set_cons_zero, List.set_cons_succ]
            refine wpAnyH_take (i := 3) (v := ?vab11) (by simp; rfl) (by kernel_rfl) (by kernel_rfl) (by kernel_rfl) (fun _ _ _ h => h) (Or.inl ⟨by rfl, ?yab11⟩) hHeld ?rab11
            case yab11 => intro w hSw; clear hSw; go_simp; with_reducible rfl
            simp only [Act.put, List.setIfInBounds_toArray, List.set_cons_zero, List.set_cons_succ]
            refine wpAnyH_take (i := 4) (v := ?vab12) (by simp; rfl) (by kernel_rfl) (by kernel_rfl) (by kernel_rfl) (fun _ _ _ h => h) (Or.inl ⟨by rfl, ?yab12⟩) hHeld ?rab12
            case yab12 => intro w hSw; clear hSw; go_simp; with_reducible rfl
            simp only [Act.put, List.setIfInBounds_toArray, List.set_cons_zero, List.set_cons_succ]
            refine wpAnyH_ready (rs := [5]) (by kernel_rfl) (by simp) ?_
            refine AllReadyH.cons (by simp; rfl) (fun Kc hKc => ?_) AllReadyH.nil
            refine sq_store (p := .pointer (some ⟨w.heap.size + 1, 0, none⟩)) (v := .agg (gcells 0 1 (s).fin (.slice qe (s).txs.length ce)).toArray) (by rfl) 48 rfl rfl rfl TE.out ?_
            refine hKc.out _ _ (LAt.other hHeld _ TD.out.ne.symm) (fun hHeld => ?_)
            clear hKc Kc
            simp only [Act.put]
            refine wpAnyH_take (i := 6) (v := ?vab13) (by simp; rfl) (by kernel_rfl) (by kernel_rfl) (by kernel_rfl) (fun _ _ _ h => h) (Or.inl ⟨by rfl, ?yab13⟩) hHeld ?rab13
            case yab13 => intro w hSw; clear hSw; go_simp; with_reducible rfl
            simp only [Act.put, List.setIfInBounds_toArray, List.set_cons_zero, List.set_cons_succ]
            clear hHeld
            refine wpAnyH_done (by kernel_rfl) (NoPanic.normal ?_) _
            have FF : Hid (_) := TD.out.told
            clear TD TE
            go_wp2_with fail
            exact bodyPost_ret (results_told Tryd.results11 _ _ (w.heap.size + 1) 48 _ _ (by rfl) FF.out.1 Tryd.underlying48 rfl sizeR) rfl ⟨p, L, qe, ce, _, _, _, _, _, s, rfl, FF.out.2.1, FF.out.2.2.1, FF.out.2.2.2.1, FF.out.2.2.2.2.1, FF.out.2.2.2.2.2.1, FF.out.2.2.2.2.2.2⟩
          · have hq2 : ¬ (lc : Int) < IntKind.i64.wrap (IntKind.i64.wrap ((f : Int) + (ims.length : Int)) + 1) := by rw [hwrp]; exact hfull
            go_wp2_with fail
            go_loopw [105] (fun ij wr3 => ∃ j : Nat, j ≤ ims.length ∧ ij = .int .i64 j ∧ Hid (∃ g3 ws3 al3, TS w wr3 w.heap.size (w.heap.size + 1) w1.heap.size (w1.heap.size + 1) (w1.heap.size + 1 + 1) L p (stc s0 ps n cs sd op pl m cl) (cfgS s0) g3 ws3 al3 ⟨s.txs, s.fin, ims.take j⟩ v vs ∧ al3.length = f + j ∧ IOwn wr3 wo.heap.size (.slice q13 ims.length c13) ims)) (fun ij _ => ims.length - (intOf ij).toNat)
            case atStart => exact ⟨0, Nat.zero_le _, rfl, g, ws, al, by have := TU2.out; rw [show s = ⟨s.txs, s.fin, []⟩ from by rw [← hcome]] at this; exact this, hf, O3.out⟩
            case round =>
              obtain ⟨j, hj, rfl, HK⟩ := hrel
              obtain ⟨g3, ws3, al3, h3, hal, o3⟩ := HK.out
              clear HK TU2 O3
              have m3 : MIn wr q13 ims.length ims := by
                obtain ⟨q', c', e', mi, -, -⟩ := IOwn.in o3 i4
                cases e'
                exact mi
              by_cases hjl : j < ims.length
              · obtain ⟨y, hy⟩ : ∃ y, ims[j]? = some y := ⟨_, List.getElem?_eq_getElem hjl⟩
                have hyw := i4 y (List.mem_of_getElem? hy)
                have hyb := i3 y (List.mem_of_getElem? hy)
                obtain ⟨gq, oq, rfl, -⟩ := m3.cells (by omega)
                have L8 : Hid (_) := m3.load hy
                have A8 : Hid (_) := allocI wr
                have T8 : Hid (_) := store_newI wr y hyw.len
                obtain ⟨w8, hw8⟩ : ∃ z, z = wr.alloc (.cells (icells y).toArray 32) := ⟨_, rfl⟩
                rw [← hw8] at T8
                have l8 : LAt 32 w8 wr.heap.size (icells y) := by rw [hw8]; exact LAt.new 32 wr _
                have c80 : w8.cell? ⟨wr.heap.size, 0, none⟩ = some (.int .i64 y.b) := LAt.cell l8 0
                have LV8 : Hid (_) := LAt.loadIv l8 hyw.len
                have b8 : Below wr.heap.size wr w8 := by rw [hw8]; exact below_alloc wr _
                have H8 : Hid (TS w w8 w.heap.size (w.heap.size + 1) w1.heap.size (w1.heap.size + 1) (w1.heap.size + 1 + 1) L p (stc s0 ps n cs sd op pl m cl) (cfgS s0) g3 ws3 al3 ⟨s.txs, s.fin, ims.take j⟩ v vs) := h3.later b8
                have O8 : Hid (IOwn w8 wo.heap.size (.slice (some ⟨gq, oq, none⟩) ims.length c13) ims) := o3.later b8
                have himg : imgS g3 y.b = 0 := by
                  refine imgS_ok (h3.sty.more (by rw [hlc]; omega)) fun hbad => ?_
                  have e1 := h3.sty.imgs
                  have hlj : (ims.take j).length = j := by rw [List.length_take]; omega
                  have e1' : g3.imgs = j := by rw [e1]; show ((ims.take j).length : Int) = j; rw [hlj]
                  have e2 : g3.c = cfgS s0 := h3.sty.gc
                  rcases hbad with hb1 | hb1 | hb1
                  · by_cases j0 : j = 0
                    · have := h3.sty.lst0 (by show (ims.take j).length = 0; omega)
                      omega
                    · have e3 := h3.sty.last (by show (ims.take j).length ≠ 0; omega)
                      have e4 := i2.last hy (by omega)
                      have e3' : g3.last = lastB (ims.take j) := e3
                      omega
                  · rw [e2, hbl] at hb1; omega
                  · rw [e2, hmr, e1'] at hb1; omega
                have HTk : Hid (ims.take (j + 1) = ims.take j ++ [y]) := by show _ = _; rw [List.take_add_one, hy]; rfl
                clear hw8 l8 b8 h3 o3 m3
                go_wp2_with ((with_reducible refine at_ops ?_); (first | (refine wpList_load_is (by rfl) 32 rfl rfl L8.out ?_) | (refine wpList_load_is (by rfl) 30 rfl rfl LV8.out ?_) | (refine wpList_alloc_is (by rfl) 32 rfl A8.out ?_) | (refine wpList_store_is (by rfl) 32 rfl rfl rfl T8.out ?_)); simp only [Act.put, List.setIfInBounds_toArray, List.set_cons_zero, List.set_cons_succ])
                refine (image_B H8.out.lb (by have := H8.out.fin_le; omega) (HT.out.later H8.out.low) y.b y.v hyw.len hyw.byte himg).mono ?_
                rintro e w9 ⟨rfl, lb9, kt9⟩
                have F9 : Hid (∃ g3 ws3 al3, TS w w9 w.heap.size (w.heap.size + 1) w1.heap.size (w1.heap.size + 1) (w1.heap.size + 1 + 1) L p (stc s0 ps n cs sd op pl m cl) (cfgS s0) g3 ws3 al3 ⟨s.txs, s.fin, ims.take (j + 1)⟩ v vs ∧ al3.length = f + (j + 1) ∧ IOwn w9 wo.heap.size (.slice (some ⟨gq, oq, none⟩) ims.length c13) ims) := by
                  rw [HTk.out]
                  exact ⟨_, _, _, H8.out.img himg hyw.len hyw.byte lb9 kt9, by rw [List.length_append, hal]; rfl, own_kt kt9 (by decide) O8.out⟩
                clear lb9 kt9 H8 O8 himg
                go_wp2_with (go_at_call 15; refine (num_any _ _).mono ?_; rintro e wn ⟨rfl, rfl⟩)
                go_roundw
                case rel => exact ⟨j + 1, by omega, by go_num, F9.out⟩
                case measure => simp [intOf]; omega
              · obtain rfl : ims.length = j := by omega
                rw [List.take_length] at h3
                have d5 : wr.cell? ⟨w.heap.size, 5, none⟩ = some (.slice ps n cs) := LAt.cell h3.st 5
                have d7 : wr.cell? ⟨w.heap.size, 7, none⟩ = some (.bool op) := LAt.cell h3.st 7
                clear m3
                cases op with
                | true =>
                  by_cases hkn : (k : Int) = (n : Int) - 1
                  · have hq : ((k : Int) == (n : Int) - 1) = true := by simp [hkn]
                    have T3 : Hid (_) := h3
                    clear h3 o3
                    go_wp2_with fail
                    obtain ⟨qe, ce, hve, -, -, -⟩ := XOwn.in T3.out.tx
                    have TV := T3.out
                    rw [hve] at TV
                    have TX : Hid (_) := TV
                    clear TV
                    refine wp_region_noPanic ?_
                    refine wp_region_held_drew (S := fun W => LAt 48 W (w1.heap.size + 1) (gcells 0 1 ((⟨s.txs, s.fin, ims⟩ : Sc)).fin (.slice qe ((⟨s.txs, s.fin, ims⟩ : Sc)).txs.length ce))) (by kernel_rfl) (TX.out.later (below_drawn 1)).wt (fun hHeld => ?_)
                    have TD : Hid (_) := TX.out.later (show Below (wr).heap.size (wr) (wr).drew from below_drawn 1)
                    clear TX
                    generalize (wr).drew = wd at *
                    have TE : Hid (_) := LAt.store (ds := gcells 0 1 ((⟨s.txs, s.fin, ims⟩ : Sc)).fin (.slice qe ((⟨s.txs, s.fin, ims⟩ : Sc)).txs.length ce)) TD.out.rs sizeR rfl (all_oneCell_toArray (gcells_ones rfl 0 1 ((⟨s.txs, s.fin, ims⟩ : Sc)).fin))
                    refine wpAnyH_take (i := 0) (v := ?vab14) (by simp; rfl) (by kernel_rfl) (by kernel_rfl) (by kernel_rfl) (fun _ _ _ h => h) (Or.inl ⟨by rfl, ?yab14⟩) hHeld ?rab14
                    case yab14 => intro w hSw; clear hSw; go_simp; with_reducible rfl
                    simp only [Act.put, List.setIfInBounds_toArray, List.set_cons_zero, List.set_cons_succ]
                    refine wpAnyH_take (i := 1) (v := ?vab15) (by simp; rfl) (by kernel_rfl) (by kernel_rfl) (by kernel_rfl) (fun _ _ _ h => h) (Or.inl ⟨by rfl, ?yab15⟩) hHeld ?rab15
                    case yab15 => intro w hSw; clear hSw; go_simp; with_reducible rfl
                    simp only [Act.put, List.setIfInBounds_toArray, List.set_cons_zero, List.set_cons_succ]
                    refine wpAnyH_take (i := 2) (v := _) (by simp; rfl) (by kernel_rfl) (by kernel_rfl) (by kernel_rfl) (fun _ _ _ h => h) (yieldsIf_load_mid (by rfl) 48 (.tmp 7) rfl (w1.heap.size + 1) 0 rfl (gcells 0 1 ((⟨s.txs, s.fin, ims⟩ : Sc)).fin (.slice qe ((⟨s.txs, s.fin, ims⟩ : Sc)).txs.length ce)) _ (fun _ h => LAt.range h) Tryd.underlying48 rfl sizeR) hHeld ?_
                    simp only [Act.put, List.setIfInBounds_toArray, List.set_cons_zero, List.set_cons_succ]
                    refine wpAnyH_take (i := 3) (v := ?vab16) (by simp; rfl) (by kernel_rfl) (by kernel_rfl) (by kernel_rfl) (fun _ _ _ h => h) (Or.inl ⟨by rfl, ?yab16⟩) hHeld ?rab16
                    case yab16 => intro w hSw; clear hSw; go_simp; with_reducible rfl
                    simp only [Act.put, List.setIfInBounds_toArray, List.set_cons_zero, List.set_cons_succ]
                    refine wpAnyH_take (i := 4) (v := ?vab17) (by simp; rfl) (by kernel_rfl) (by kernel_rfl) (by kernel_rfl) (fun _ _ _ h => h) (Or.inl ⟨by rfl, ?yab17⟩) hHeld ?rab17
                    case yab17 => intro w hSw; clear hSw; go_simp; with_reducible rfl
                    simp only [Act.put, List.setIfInBounds_toArray, List.set_cons_zero, List.set_cons_succ]
                    refine wpAnyH_ready (rs := [5]) (by kernel_rfl) (by simp) ?_
                    refine AllReadyH.cons (by simp; rfl) (fun Kc hKc => ?_) AllReadyH.nil
                    refine sq_store (p := .pointer (some ⟨w.heap.size + 1, 0, none⟩)) (v := .agg (gcells 0 1 ((⟨s.txs, s.fin, ims⟩ : Sc)).fin (.slice qe ((⟨s.txs, s.fin, ims⟩ : Sc)).txs.length ce)).toArray) (by rfl) 48 rfl rfl rfl TE.out ?_
                    refine hKc.out _ _ (LAt.other hHeld _ TD.out.ne.symm) (fun hHeld => ?_)
                    clear hKc Kc
                    simp only [Act.put]
                    refine wpAnyH_take (i := 6) (v := ?vab18) (by simp; rfl) (by kernel_rfl) (by kernel_rfl) (by kernel_rfl) (fun _ _ _ h => h) (Or.inl ⟨by rfl, ?yab18⟩) hHeld ?rab18
                    case yab18 => intro w hSw; clear hSw; go_simp; with_reducible rfl
                    simp only [Act.put, List.setIfInBounds_toArray, List.set_cons_zero, List.set_cons_succ]
                    clear hHeld
                    refine wpAnyH_done (by kernel_rfl) (NoPanic.normal ?_) _
                    have FF : Hid (_) := TD.out.told
                    clear TD TE
                    go_wp2_with fail
                    exact bodyPost_ret (results_told Tryd.results11 _ _ (w.heap.size + 1) 48 _ _ (by rfl) FF.out.1 Tryd.underlying48 rfl sizeR) rfl ⟨p, L, qe, ce, _, _, _, _, _, (⟨s.txs, s.fin, ims⟩ : Sc), rfl, FF.out.2.1, FF.out.2.2.1, FF.out.2.2.2.1, FF.out.2.2.2.2.1, FF.out.2.2.2.2.2.1, FF.out.2.2.2.2.2.2⟩
                  · have hq : ((k : Int) == (n : Int) - 1) = false := by simp [hkn]
                    go_wp2_with fail
                    have hm0 : moreS g3 = 0 := h3.sty.more (by have := h3.sty.fin_is; rw [hlc]; omega)
                    have hcw3 : ImsWf ims := i4
                    refine (commit_B h3.lb (by have := h3.fin_le; omega) (HT.out.later h3.low) hm0).mono ?_
                    rintro e w6 ⟨rfl, lb6, kt6⟩
                    obtain ⟨q7, c7, V7, hrun7, lg7, ts7⟩ := h3.com hm0 lb6 kt6 (q := q13) (k := ims.length) (m := c13) hcw3 (own_at (own_kt kt6 (by decide) o3) (fun g' hg' => Nat.le_trans hwo (o3.lt g' hg').1) rfl)
                    obtain ⟨qv, cv, hvv, -, -, -⟩ := XOwn.in h3.tx
                    have hfin3 : g3.fin = (al3.length : Int) := h3.sty.fin_is.1
                    have hal3 : al3.length ≤ 64 := by have := h3.sty.fin_is.2; omega
                    have z3 : w6.cell? ⟨w1.heap.size + 1, 3, none⟩ = some (.slice qv s.txs.length cv) := by rw [← hvv]; exact LAt.cell (lat_kt kt6 (by decide) h3.wt) 3
                    rw [hvv] at hrun7
                    have UX : Hid (_) := buildX w6 g3.fin q13 ims.length c13
                    have SX : Hid (_) := build_rtx w6 g3.fin q13 ims.length c13
                    have AP7 : Hid (_) := hrun7
                    have y3 : V7.cell? ⟨w1.heap.size + 1, 3, none⟩ = some v := LAt.cell lg7 3
                    have y3f := LAt.free lg7 3
                    have lg8 := LAt.set lg7 3 (.slice q7 (s.txs.length + 1) c7)
                    have y2 : (V7.setCell ⟨w1.heap.size + 1, 3, none⟩ (.slice q7 (s.txs.length + 1) c7)).cell? ⟨w1.heap.size + 1, 2, none⟩ = some (.int .u64 s.fin) := LAt.cell lg8 2
                    have y2f := LAt.free lg8 2
                    have T7 : Hid (_) := ts7
                    have hadd : IntKind.u64.wrap (g3.fin + 1) = g3.fin + 1 := G.wrap_u (by omega) (by omega)
                    clear hrun7 lg7 lg8 ts7 lb6 kt6 h3 o3 hvv hfin3
                    go_wp2_with (first | (go_at_call 15; refine (num_any _ _).mono ?_; rintro e wn ⟨rfl, rfl⟩) | ((with_reducible refine at_ops ?_); (first | (refine wpList_build_is (vs := [(0, .int .u64 g3.fin), (1, .slice q13 ims.length c13)]) (by rfl) 28 rfl (by rfl) UX.out ?_) | (refine wpList_slice_is (u := .agg #[.int .u64 g3.fin, .slice q13 ims.length c13]) (by rfl) 22 rfl rfl SX.out ?_) | (refine wpList_append_is (u1 := .slice qv s.txs.length cv) (u2 := .slice (some ⟨w6.heap.size, 0, none⟩) 1 1) (by rfl) rfl rfl rfl rfl AP7.out ?_)); simp only [Act.put, List.setIfInBounds_toArray, List.set_cons_zero, List.set_cons_succ]))
                    go_roundw
                    case rel => exact ⟨k + 1, by omega, by go_num, _, _, _, _, _, _, T7.out, rfl⟩
                    case measure => simp [intOf]; omega
                | false =>
                  go_wp2_with fail
                  have hm0 : moreS g3 = 0 := h3.sty.more (by have := h3.sty.fin_is; rw [hlc]; omega)
                  have hcw3 : ImsWf ims := i4
                  refine (commit_B h3.lb (by have := h3.fin_le; omega) (HT.out.later h3.low) hm0).mono ?_
                  rintro e w6 ⟨rfl, lb6, kt6⟩
                  obtain ⟨q7, c7, V7, hrun7, lg7, ts7⟩ := h3.com hm0 lb6 kt6 (q := q13) (k := ims.length) (m := c13) hcw3 (own_at (own_kt kt6 (by decide) o3) (fun g' hg' => Nat.le_trans hwo (o3.lt g' hg').1) rfl)
                  obtain ⟨qv, cv, hvv, -, -, -⟩ := XOwn.in h3.tx
                  have hfin3 : g3.fin = (al3.length : Int) := h3.sty.fin_is.1
                  have hal3 : al3.length ≤ 64 := by have := h3.sty.fin_is.2; omega
                  have z3 : w6.cell? ⟨w1.heap.size + 1, 3, none⟩ = some (.slice qv s.txs.length cv) := by rw [← hvv]; exact LAt.cell (lat_kt kt6 (by decide) h3.wt) 3
                  rw [hvv] at hrun7
                  have UX : Hid (_) := buildX w6 g3.fin q13 ims.length c13
                  have SX : Hid (_) := build_rtx w6 g3.fin q13 ims.length c13
                  have AP7 : Hid (_) := hrun7
                  have y3 : V7.cell? ⟨w1.heap.size + 1, 3, none⟩ = some v := LAt.cell lg7 3
                  have y3f := LAt.free lg7 3
                  have lg8 := LAt.set lg7 3 (.slice q7 (s.txs.length + 1) c7)
                  have y2 : (V7.setCell ⟨w1.heap.size + 1, 3, none⟩ (.slice q7 (s.txs.length + 1) c7)).cell? ⟨w1.heap.size + 1, 2, none⟩ = some (.int .u64 s.fin) := LAt.cell lg8 2
                  have y2f := LAt.free lg8 2
                  have T7 : Hid (_) := ts7
                  have hadd : IntKind.u64.wrap (g3.fin + 1) = g3.fin + 1 := G.wrap_u (by omega) (by omega)
                  clear hrun7 lg7 lg8 ts7 lb6 kt6 h3 o3 hvv hfin3
                  go_wp2_with (first | (go_at_call 15; refine (num_any _ _).mono ?_; rintro e wn ⟨rfl, rfl⟩) | ((with_reducible refine at_ops ?_); (first | (refine wpList_build_is (vs := [(0, .int .u64 g3.fin), (1, .slice q13 ims.length c13)]) (by rfl) 28 rfl (by rfl) UX.out ?_) | (refine wpList_slice_is (u := .agg #[.int .u64 g3.fin, .slice q13 ims.length c13]) (by rfl) 22 rfl rfl SX.out ?_) | (refine wpList_append_is (u1 := .slice qv s.txs.length cv) (u2 := .slice (some ⟨w6.heap.size, 0, none⟩) 1 1) (by rfl) rfl rfl rfl rfl AP7.out ?_)); simp only [Act.put, List.setIfInBounds_toArray, List.set_cons_zero, List.set_cons_succ]))
                  go_roundw
                  case rel => exact ⟨k + 1, by omega, by go_num, _, _, _, _, _, _, T7.out, rfl⟩
                  case measure => simp [intOf]; omega
    · obtain rfl : n = k := by omega
      clear hts
      go_wp2_with fail
      obtain ⟨qe, ce, hve, -, -, -⟩ := XOwn.in TR.out.tx
      have TV := TR.out
      rw [hve] at TV
      have TX : Hid (_) := TV
      clear TV
      refine wp_region_noPanic ?_
      refine wp_region_held_drew (S := fun W => LAt 48 W (w1.heap.size + 1) (gcells 0 1 (s).fin (.slice qe (s).txs.length ce))) (by kernel_rfl) (TX.out.later (below_drawn 1)).wt (fun hHeld => ?_)
      have TD : Hid (_) := TX.out.later (show Below (wo).heap.size (wo) (wo).drew from below_drawn 1)
      clear TX
      generalize (wo).drew = wd at *
      have TE : Hid (_) := LAt.store (ds := gcells 0 1 (s).fin (.slice qe (s).txs.length ce)) TD.out.rs sizeR rfl (all_oneCell_toArray (gcells_ones rfl 0 1 (s).fin))
      refine wpAnyH_take (i := 0) (v := ?va19) (by simp; rfl) (by kernel_rfl) (by kernel_rfl) (by kernel_rfl) (fun _ _ _ h => h) (Or.inl ⟨by rfl, ?ya19⟩) hHeld ?ra19
      case ya19 => intro w hSw; clear hSw; go_simp; with_reducible rfl
      simp only [Act.put, List.setIfInBounds_toArray, List.set_cons_zero, List.set_cons_succ]
      refine wpAnyH_take (i := 1) (v := ?va20) (by simp; rfl) (by kernel_rfl) (by kernel_rfl) (by kernel_rfl) (fun _ _ _ h => h) (Or.inl ⟨by rfl, ?ya20⟩) hHeld ?ra20
      case ya20 => intro w hSw; clear hSw; go_simp; with_reducible rfl
      simp only [Act.put, List.setIfInBounds_toArray, List.set_cons_zero, List.set_cons_succ]
      refine wpAnyH_take (i := 2) (v := _) (by simp; rfl) (by kernel_rfl) (by kernel_rfl) (by kernel_rfl) (fun _ _ _ h => h) (yieldsIf_load_mid (by rfl) 48 (.tmp 7) rfl (w1.heap.size + 1) 0 rfl (gcells 0 1 (s).fin (.slice qe (s).txs.length ce)) _ (fun _ h => LAt.range h) Tryd.underlying48 rfl sizeR) hHeld ?_
      simp only [Act.put, List.setIfInBounds_toArray, List.set_cons_zero, List.set_cons_succ]
      refine wpAnyH_take (i := 3) (v := ?va21) (by simp; rfl) (by kernel_rfl) (by kernel_rfl) (by kernel_rfl) (fun _ _ _ h => h) (Or.inl ⟨by rfl, ?ya21⟩) hHeld ?ra21
      case ya21 => intro w hSw; clear hSw; go_simp; with_reducible rfl
      simp only [Act.put, List.setIfInBounds_toArray, List.set_cons_zero, List.set_cons_succ]
      refine wpAnyH_take (i := 4) (v := ?va22) (by simp; rfl) (by kernel_rfl) (by kernel_rfl) (by kernel_rfl) (fun _ _ _ h => h) (Or.inl ⟨by rfl, ?ya22⟩) hHeld ?ra22
      case ya22 => intro w hSw; clear hSw; go_simp; with_reducible rfl
      simp only [Act.put, List.setIfInBounds_toArray, List.set_cons_zero, List.set_cons_succ]
      refine wpAnyH_ready (rs := [5]) (by kernel_rfl) (by simp) ?_
      refine AllReadyH.cons (by simp; rfl) (fun Kc hKc => ?_) AllReadyH.nil
      refine sq_store (p := .pointer (some ⟨w.heap.size + 1, 0, none⟩)) (v := .agg (gcells 0 1 (s).fin (.slice qe (s).txs.length ce)).toArray) (by rfl) 48 rfl rfl rfl TE.out ?_
      refine hKc.out _ _ (LAt.other hHeld _ TD.out.ne.symm) (fun hHeld => ?_)
      clear hKc Kc
      simp only [Act.put]
      refine wpAnyH_take (i := 6) (v := ?va23) (by simp; rfl) (by kernel_rfl) (by kernel_rfl) (by kernel_rfl) (fun _ _ _ h => h) (Or.inl ⟨by rfl, ?ya23⟩) hHeld ?ra23
      case ya23 => intro w hSw; clear hSw; go_simp; with_reducible rfl
      simp only [Act.put, List.setIfInBounds_toArray, List.set_cons_zero, List.set_cons_succ]
      clear hHeld
      refine wpAnyH_done (by kernel_rfl) (NoPanic.normal ?_) _
      have FF : Hid (_) := TD.out.told
      clear TD TE
      go_wp2_with fail
      exact bodyPost_ret (results_told Tryd.results11 _ _ (w.heap.size + 1) 48 _ _ (by rfl) FF.out.1 Tryd.underlying48 rfl sizeR) rfl ⟨p, L, qe, ce, _, _, _, _, _, s, rfl, FF.out.2.1, FF.out.2.2.1, FF.out.2.2.2.1, FF.out.2.2.2.2.1, FF.out.2.2.2.2.2.1, FF.out.2.2.2.2.2.2⟩
end Go.Proofs.YtefnkjajjidfaaaDoor
namespace Go.Proofs.YtefnkjajjidfaaaDoor
open Go.ChangeShapes Go.WideShapes Go.ChangeAt Go.RowKit Go.Deep

theorem laidK : laidOutB Tryd.prog = true := by kernel_rfl
theorem cellsC : Tryd.prog.cellsOf 39 = 5 := by kernel_rfl
theorem cells16 : Tryd.prog.cellsOf 40 = 1 := by kernel_rfl
theorem cellsBs : Tryd.prog.cellsOf 41 = 1 := by kernel_rfl
theorem cellsU8 : Tryd.prog.cellsOf 5 = 1 := by kernel_rfl
theorem cellsBo : Tryd.prog.cellsOf 4 = 1 := by kernel_rfl
theorem cellsSt : Tryd.prog.cellsOf 43 = 9 := by kernel_rfl
theorem bytes16 : Tryd.prog.bytesOf 90 = 2 := by kernel_rfl
theorem bytes5 : Tryd.prog.bytesOf 5 = 1 := by kernel_rfl
theorem openedC {H : Type} {enc : TypeId × Value → H} {W : World} {l : List Value} {n : Nat} {y : DataW H × List MemPlace} (h : DataW.trod enc Tryd.prog W 0 (fun _ => true) true n 39 l = some y) :
    ∃ a0 a1 a2 a3 a4 : Int, l[0]? = some (.int .i64 a0) ∧ l[1]? = some (.int .i64 a1) ∧ l[2]? = some (.int .i64 a2) ∧ l[3]? = some (.int .i64 a3) ∧ l[4]? = some (.int .i64 a4) := by
  obtain ⟨xs, k, _, hy, _, hxl, hg⟩ := DataW.trod_struct Tryd.underlying39 h
  have hxl5 : xs.length = 5 := hxl
  have g0 : DataW.trod enc Tryd.prog W 0 (fun _ => true) true k 3 ((l.drop 0).take (Tryd.prog.cellsOf 3)) = xs[0]? := hg 0 _ rfl
  have g1 : DataW.trod enc Tryd.prog W 0 (fun _ => true) true k 3 ((l.drop 1).take (Tryd.prog.cellsOf 3)) = xs[1]? := hg 1 _ rfl
  have g2 : DataW.trod enc Tryd.prog W 0 (fun _ => true) true k 3 ((l.drop 2).take (Tryd.prog.cellsOf 3)) = xs[2]? := hg 2 _ rfl
  have g3 : DataW.trod enc Tryd.prog W 0 (fun _ => true) true k 3 ((l.drop 3).take (Tryd.prog.cellsOf 3)) = xs[3]? := hg 3 _ rfl
  have g4 : DataW.trod enc Tryd.prog W 0 (fun _ => true) true k 3 ((l.drop 4).take (Tryd.prog.cellsOf 3)) = xs[4]? := hg 4 _ rfl
  rw [cells3, List.getElem?_eq_getElem (by omega)] at g0 g1 g2 g3 g4
  obtain ⟨a0, e0, _, w0⟩ := DataW.trod_int Tryd.underlying3 g0
  obtain ⟨a1, e1, _, w1⟩ := DataW.trod_int Tryd.underlying3 g1
  obtain ⟨a2, e2, _, w2⟩ := DataW.trod_int Tryd.underlying3 g2
  obtain ⟨a3, e3, _, w3⟩ := DataW.trod_int Tryd.underlying3 g3
  obtain ⟨a4, e4, _, w4⟩ := DataW.trod_int Tryd.underlying3 g4
  exact ⟨a0, a1, a2, a3, a4, drop_one _ _ _ e0, drop_one _ _ _ e1, drop_one _ _ _ e2, drop_one _ _ _ e3, drop_one _ _ _ e4⟩
theorem opened16 {H : Type} {enc : TypeId × Value → H} {W : World} {a : Option Addr} {len cap : Nat} {d : DataW H} {p : List MemPlace} (h : DataW.Trod enc Tryd.prog W 0 (fun _ => true) true 40 (.slice a len cap) d p) :
    ∃ ss, UIn W a len ss ∧ len ≤ cap ∧ (cap = 0 ∨ ∃ elems spare, d = .slice elems spare ∧ elems.length + spare.length = cap) := by
  obtain ⟨fuel, hf⟩ := h
  rcases open_ints Tryd.underlying40 Tryd.underlying90 (by kernel_rfl) hf with ⟨hcs, _⟩ | ⟨x, l, c, zs, hcs, _, hl, hm, hz, hx, hcell, hwz⟩
  · simp [Value.cells] at hcs
    obtain ⟨rfl, rfl, rfl⟩ := hcs
    exact ⟨[], ⟨rfl, fun h => absurd h (Nat.lt_irrefl 0), fun x hx => by cases hx⟩, Nat.le_refl _, .inl rfl⟩
  · simp [Value.cells] at hcs
    obtain ⟨rfl, rfl, rfl⟩ := hcs
    have hz' : zs.length = cap := by simpa using hz
    simp only [Prod.mk.injEq] at hx
    refine ⟨zs.take len, ⟨by rw [List.length_take]; omega, fun h0 => ?_, fun x hx => by have := bounds_u16 (hwz x (List.mem_of_mem_take hx)); omega⟩, hl, .inr ⟨_, _, hx.1, by simp [lits]; omega⟩⟩
    obtain ⟨b, o, s⟩ := x
    obtain rfl : s = none := by simpa [Addr.add] using World.cell?_spot (hcell 0 (by omega))
    refine ⟨b, o, rfl, fun i x hi => ?_⟩
    have hil : i < len := by have := (List.getElem?_eq_some_iff.1 hi).1; rw [List.length_take] at this; omega
    have hiz : i < zs.length := by omega
    have := hcell i (by omega)
    rw [add_plain] at this
    rw [this]
    rw [List.getElem?_take, if_pos hil] at hi
    rw [List.getD, hi]; rfl
theorem openedB {H : Type} {enc : TypeId × Value → H} {W : World} {a : Option Addr} {len cap : Nat} {d : DataW H} {p : List MemPlace} (h : DataW.Trod enc Tryd.prog W 0 (fun _ => true) true 41 (.slice a len cap) d p) :
    ∃ ss, BIn W a len ss ∧ len ≤ cap ∧ (cap = 0 ∨ ∃ elems spare, d = .slice elems spare ∧ elems.length + spare.length = cap) := by
  obtain ⟨fuel, hf⟩ := h
  rcases open_ints Tryd.underlying41 Tryd.underlying5 (by kernel_rfl) hf with ⟨hcs, _⟩ | ⟨x, l, c, zs, hcs, _, hl, hm, hz, hx, hcell, hwz⟩
  · simp [Value.cells] at hcs
    obtain ⟨rfl, rfl, rfl⟩ := hcs
    exact ⟨[], ⟨rfl, (fun x hx => by cases hx), fun h => absurd h (Nat.lt_irrefl 0)⟩, Nat.le_refl _, .inl rfl⟩
  · simp [Value.cells] at hcs
    obtain ⟨rfl, rfl, rfl⟩ := hcs
    have hz' : zs.length = cap := by simpa using hz
    simp only [Prod.mk.injEq] at hx
    refine ⟨zs.take len, ⟨by rw [List.length_take]; omega, fun x hx => by have := bounds_u8 (hwz x (List.mem_of_mem_take hx)); omega, fun h0 => ?_⟩, hl, .inr ⟨_, _, hx.1, by simp [lits]; omega⟩⟩
    obtain ⟨b, o, s⟩ := x
    obtain rfl : s = none := by simpa [Addr.add] using World.cell?_spot (hcell 0 (by omega))
    refine ⟨b, o, rfl, fun i hi => ?_⟩
    have hil : i < len := hi
    have hiz : i < zs.length := by omega
    have := hcell i (by omega)
    rw [add_plain] at this
    rw [this]
    rw [List.getD, List.getD, List.getElem?_take, if_pos hil]
theorem slice_of {H : Type} {enc : TypeId × Value → H} {W : World} {t e : TypeId} {k : Nat} {c : Value} {y : DataW H × List MemPlace} (ht : Tryd.prog.underlying t = some (.slice e)) (h : DataW.trod enc Tryd.prog W 0 (fun _ => true) true k t [c] = some y) :
    ∃ a l cp, c = .slice a l cp := by
  rcases open_slice ht h with ⟨h0, _⟩ | ⟨a, len, cap, _, _, _, _, h0, _⟩
  · simp only [List.cons.injEq, and_true] at h0
    exact ⟨_, _, _, h0⟩
  · simp only [List.cons.injEq, and_true] at h0
    exact ⟨_, _, _, h0⟩
theorem one_at {α : Type} (l : List α) (k : Nat) (h : k < l.length) : (l.drop k).take 1 = [l[k]] := by
  rw [List.drop_eq_getElem_cons h, List.take_succ_cons, List.take_zero]
theorem take_five {α : Type} {l : List α} {i : Nat} {v : α} (h : ((l.drop 0).take 5)[i]? = some v) : l[i]? = some v := by
  rw [List.drop_zero, List.getElem?_take] at h
  split at h
  · exact h
  · cases h
set_option maxRecDepth 100000 in
theorem openedStory {H : Type} {enc : TypeId × Value → H} {W : World} {cs : Array Value} {d : DataW H} {p : List MemPlace} (hn : cs.size = 9) (h : DataW.Trod enc Tryd.prog W 0 (fun _ => true) true 43 (.agg cs) d p) (hw : ∀ k ∈ d.weights Tryd.prog 43, k ≤ reachBytes) :
    ∃ s0 ps n c sets sd op pl m cl bs, cs = (stc s0 ps n c sd op pl m cl).toArray ∧ UIn W ps n sets ∧ n ≤ 140737488355328 ∧ (0 ≤ sd ∧ sd < 256) ∧ BIn W pl m bs ∧ m ≤ 281474976710656 := by
  obtain ⟨fuel, hf⟩ := h
  obtain ⟨l⟩ := cs
  have hl : l.length = 9 := by simpa using hn
  have hf' : DataW.trod enc Tryd.prog W 0 (fun _ => true) true fuel 43 l = some (d, p) := by simpa [Value.cells] using hf
  obtain ⟨xs, k, _, hy, _, hxl, hg⟩ := DataW.trod_struct Tryd.underlying43 hf'
  have hxl5 : xs.length = 5 := hxl
  match xs, hxl5 with
  | [y0, y1, y2, y3, y4], _ =>
    have g0 : DataW.trod enc Tryd.prog W 0 (fun _ => true) true k 39 ((l.drop 0).take (Tryd.prog.cellsOf 39)) = some y0 := hg 0 _ rfl
    have g1 : DataW.trod enc Tryd.prog W 0 (fun _ => true) true k 40 ((l.drop 5).take (Tryd.prog.cellsOf 40)) = some y1 := hg 1 _ rfl
    have g2 : DataW.trod enc Tryd.prog W 0 (fun _ => true) true k 5 ((l.drop 6).take (Tryd.prog.cellsOf 5)) = some y2 := hg 2 _ rfl
    have g3 : DataW.trod enc Tryd.prog W 0 (fun _ => true) true k 4 ((l.drop 7).take (Tryd.prog.cellsOf 4)) = some y3 := hg 3 _ rfl
    have g4 : DataW.trod enc Tryd.prog W 0 (fun _ => true) true k 41 ((l.drop 8).take (Tryd.prog.cellsOf 41)) = some y4 := hg 4 _ rfl
    rw [cellsC] at g0
    rw [cells16, one_at l 5 (by omega)] at g1
    rw [cellsU8] at g2
    rw [cellsBo] at g3
    rw [cellsBs, one_at l 8 (by omega)] at g4
    obtain ⟨a0, a1, a2, a3, a4, f0, f1, f2, f3, f4⟩ := openedC g0
    obtain ⟨ps, n, c, e1⟩ := slice_of Tryd.underlying40 g1
    obtain ⟨sd, e2, _, w2⟩ := DataW.trod_int Tryd.underlying5 g2
    obtain ⟨op, e3, _⟩ := DataW.trod_bool Tryd.underlying4 g3
    obtain ⟨pl, m, cl, e4⟩ := slice_of Tryd.underlying41 g4
    rw [e1] at g1
    rw [e4] at g4
    obtain ⟨sets, hi, hlk, hkw⟩ := opened16 (d := y1.1) (p := y1.2) ⟨k, g1⟩
    obtain ⟨bs, hb, hlb, hbw⟩ := openedB (d := y4.1) (p := y4.2) ⟨k, g4⟩
    simp only [List.map_cons, List.map_nil, Prod.mk.injEq] at hy
    obtain ⟨rfl, _⟩ := hy
    have w4 : c * 2 ≤ reachBytes := by
      rcases hkw with rfl | ⟨el, sp, e, rfl⟩
      · exact Nat.zero_le _
      · have := hw ((el.length + sp.length) * Tryd.prog.bytesOf 90) (by
          simp only [DataW.weights, Tryd.underlying43]
          refine DataW.weights_mem_each (j := 1) (t := 40) rfl rfl _ ?_
          rw [e]
          simp [DataW.weights, Tryd.underlying40])
        rw [bytes16] at this
        exact this
    have w5 : cl * 1 ≤ reachBytes := by
      rcases hbw with rfl | ⟨el, sp, e, rfl⟩
      · exact Nat.zero_le _
      · have := hw ((el.length + sp.length) * Tryd.prog.bytesOf 5) (by
          simp only [DataW.weights, Tryd.underlying43]
          refine DataW.weights_mem_each (j := 4) (t := 41) rfl rfl _ ?_
          rw [e]
          simp [DataW.weights, Tryd.underlying41])
        rw [bytes5] at this
        exact this
    simp only [reachBytes] at w4 w5
    have b2 := bounds_u8 w2
    refine ⟨⟨a0, a1, a2, a3, a4, 0, 0⟩, ps, n, c, sets, sd, op, pl, m, cl, bs, ?_, hi, by omega, by omega, hb, by omega⟩
    congr 1
    apply List.ext_getElem?
    intro i
    match i with
    | 0 => exact take_five f0
    | 1 => exact take_five f1
    | 2 => exact take_five f2
    | 3 => exact take_five f3
    | 4 => exact take_five f4
    | 5 => rw [List.getElem?_eq_getElem (by omega), e1]; rfl
    | 6 => exact drop_one _ _ _ e2
    | 7 => exact drop_one _ _ _ e3
    | 8 => rw [List.getElem?_eq_getElem (by omega), e4]; rfl
    | j + 9 => rw [List.getElem?_eq_none (by omega)]; rfl
end Go.Proofs.YtefnkjajjidfaaaDoor
namespace Go.Proofs.YtefnkjajjidfaaaDoor
open Go.RowKit


theorem newest_bytes {w : World} {S : Nat → Prop} {p n : Nat} {d : List Int} {ws : List Wr} (h : Dsk w S p n d ws) : ∀ i, Bytes (newest ws d i) := by
  obtain ⟨q, cap, v, hp⟩ := h
  exact fun i => newk_bytes hp.db hp.fit _
theorem Sty.found {c : Sup} {g : Lg} {ws : List Wr} {al : List R.Rec} {s : Sc} (h : Sty c g ws al s) {rd : Nat → List Int} (hr : ∀ i, i < cntS c → rd i = newest ws (newS c) i) (hb : ∀ i, Bytes (rd i)) :
    rdL c (cntS c) rd = (⟨0, 1, s.fin, s.txs⟩, 0) ∧ Sc.Ok c.mr 0 c.lc.toNat s := by
  have hm := h.mc
  obtain ⟨e1, e2⟩ := h.fin_is
  have hlc := hm.2.1
  have hbl := hm.1
  have hin : ∀ q : Nat, q < c.lc.toNat → (1 + c.bl + q).toNat < cntS c := fun q hq => by unfold cntS; omega
  obtain ⟨s', f1, f2, -, -⟩ := h.run (rd := rd) (k := al.length) (Nat.le_refl _) (fun q hq => hr _ (hin q (by omega))) (fun hk => by
    have hq : ((al.length : Int) % c.lc) = al.length := lg_eq (by omega) (by omega)
    refine st_blank ?_
    rw [hq, hr _ (hin _ hk)]
    have := h.blank al.length (by omega) (by omega)
    unfold secN at this
    rw [h.gc, hq] at this
    exact this)
  rw [List.take_length, h.fold] at f1
  obtain rfl : s = s' := by cases f1; rfl
  refine ⟨rdL_new hm ((hr 0 (by unfold cntS; omega)).trans h.sup) f2, ?_⟩
  have hmr : 0 ≤ c.mr := by have := hm.2.2.1; omega
  have r := Sc.Ok.run (st := stS c rd) (mr := c.mr) (t := 0) hmr (Int.le_refl 0) (fun p => stS_wf hb) c.lc.toNat 0 ⟨[], 0, []⟩ (Sc.Ok.start hmr 0) (by have := hm.2.1; omega)
  rw [show ((0 : Int) + ((0 : Nat) : Int)) = 0 from rfl, f2, Nat.zero_add] at r
  exact r
end Go.Proofs.YtefnkjajjidfaaaDoor
namespace Go.Proofs.YtefnkjajjidfaaaDoor
open Go.RowKit


theorem sizeSt : (Tryd.prog.info? 43).map (·.size) = some 9 := by kernel_rfl
theorem LAt.loadSt {w : World} {g : Nat} {c : Sup} {ps : Option Addr} {n cs : Nat} {sd : Int} {op : Bool} {pl : Option Addr} {m cl : Nat} (h : LAt 43 w g (stc c ps n cs sd op pl m cl)) : (Instr.loadAt 43 (.pointer (some ⟨g, 0, none⟩))).run Tryd.prog w = .ok (.agg (stc c ps n cs sd op pl m cl).toArray) w :=
  run_loadAt_mid w g 0 43 _ _ (LAt.range h) Tryd.underlying43 rfl sizeSt
theorem wrap_nat (j : Nat) (h : j ≤ 64) : IntKind.i64.wrap (j : Int) = j := by rw [IntKind.wrap_i64]; omega
theorem xown_kt {B : Nat} {V V' : World} (hk : KT B V V') {C : Nat} {v : Value} {l : List TX} {vs : List Value} (h : XOwn 28 V C v l vs) : XOwn 28 V' C v l vs :=
  ⟨h.len, own_kt hk (by decide) h.row, fun k t u a b => own_kt hk (by decide) (h.each k t u a b), h.wf⟩
set_option maxHeartbeats 4000000 in
set_option maxRecDepth 100000 in
theorem scanFinds_any (s0 : Sup) (ps : Option Addr) (n cs : Nat) (sets : List Int) (sd : Int) (op : Bool) (pl : Option Addr) (m cl : Nat) (fl : Bool) (w : World) (ht : Tab w) (hS : UIn w ps n sets) (hn : n ≤ 140737488355328) :
    Calls Tryd.prog 6 #[.agg (stc s0 ps n cs sd op pl m cl).toArray, .bool fl] w fun e w' => e = .returned (.bool true) ∧ Below w.heap.size w w' := by
  have HT : Hid (Tab w) := ht
  have HU : Hid (UIn w ps n sets) := hS
  obtain ⟨wa, hwa⟩ : ∃ y, y = w.alloc (.cells (stc s0 ps n cs sd op pl m cl).toArray 43) := ⟨_, rfl⟩
  have ewa := hwa.symm
  have B0 : Hid (Below w.heap.size w wa) := by rw [hwa]; exact below_alloc w _
  have S0 : Hid (LAt 43 wa w.heap.size (stc s0 ps n cs sd op pl m cl)) := by rw [hwa]; exact LAt.new 43 w _
  clear hwa ht hS
  go_enter Tryd.func6, Tryd.ntmps6
  go_wp2_with fail
  refine (awake_any wa (HT.out.later B0.out)).mono ?_
  rintro e w1 ⟨rfl, b1⟩
  have B1 : Hid (Below w.heap.size w w1) := below_then B0.out b1
  have S1 : Hid (LAt 43 w1 w.heap.size (stc s0 ps n cs sd op pl m cl)) := LAt.later S0.out b1
  have L1 : Hid (_) := LAt.loadSt S1.out
  clear b1 B0 S0 ewa
  go_wp2_with ((with_reducible refine at_ops ?_); (refine wpList_load_is (by rfl) 43 rfl rfl L1.out ?_); simp only [Act.put, List.setIfInBounds_toArray, List.set_cons_zero, List.set_cons_succ])
  refine (told_any s0 ps n cs sets sd op pl m cl w1 (HT.out.later B1.out) (HU.out.later B1.out) hn).mono ?_
  rintro e w2 ⟨p, L, q, d, vs, B, g, ws, al, s, rfl, lb, st, wl, xo, hB, b2⟩
  have hfin := st.fin_is
  have hlc0 := (cfgS_may s0).2.1
  have hwl : ws.length ≤ 100000 := by omega
  clear hfin hlc0 wl
  generalize hN : s.txs.length = N at *
  have A2 : Hid (_) := allocR w2
  have T2 : Hid (_) := store_newR w2 0 1 s.fin (v := .slice q N d) rfl
  obtain ⟨w3, hw3⟩ : ∃ y, y = w2.alloc (.cells (gcells 0 1 s.fin (.slice q N d)).toArray 48) := ⟨_, rfl⟩
  rw [← hw3] at T2
  have b3 : Below w2.heap.size w2 w3 := by rw [hw3]; exact below_alloc w2 _
  have W3 : Hid (LAt 48 w3 w2.heap.size (gcells 0 1 s.fin (.slice q N d))) := by rw [hw3]; exact LAt.new 48 w2 _
  have b13 : Below w1.heap.size w1 w3 := below_then b2 b3
  have B3 : Hid (Below w.heap.size w w3) := below_then B1.out b13
  have S3 : Hid (LAt 43 w3 w.heap.size (stc s0 ps n cs sd op pl m cl)) := LAt.later S1.out b13
  have X3 : Hid (XOwn 28 w3 w1.heap.size (.slice q N d) s.txs vs) := xo.later b3
  have G3 : Hid (LB w3 B L p (newS (cfgS s0)) ws g) := lb.later b3
  have HY : Hid (Sty (cfgS s0) g ws al s) := st
  have hsz : g.sz = cntS (cfgS s0) := by unfold Lg.sz cntS; rw [st.gc]
  have hwB : w.heap.size ≤ B := Nat.le_trans B1.out.size hB
  clear hw3 b3 b13 b2 lb st xo L1 S1 B1 hB
  cases fl with
  | false =>
    have Y4 : Hid (rdL (cfgS s0) (cntS (cfgS s0)) (newest ws (newS (cfgS s0))) = (⟨0, 1, s.fin, s.txs⟩, 0) ∧ Sc.Ok (cfgS s0).mr 0 (cfgS s0).lc.toNat s) := HY.out.found (fun _ _ => rfl) (newest_bytes G3.out.dsk)
    have G4 : Hid (Dsk w3 (fun k => B ≤ k ∧ k ≠ L) p (cntS (cfgS s0)) (newS (cfgS s0)) ws) := by rw [← hsz]; exact G3.out.dsk
    have X4 : Hid (XIn w3 q N s.txs) := by
      obtain ⟨a1, a2, a3, a4, -, -⟩ := XOwn.in X3.out
      rw [hN] at a3 a4
      cases a3
      exact a4
    obtain ⟨w4, hw4⟩ : ∃ y, y = w3 := ⟨_, rfl⟩
    rw [← hw4] at T2 W3 B3 S3 G4 X4
    have S4 : Hid (_) := S3.out
    have W4 : Hid (_) := W3.out
    have B4 : Hid (_) := B3.out
    have L4 : Hid (_) := stc_range S4.out
    clear G3 HY X3 hw4 S3 W3 B3 hsz hwB hwl
    go_wp2_with ((with_reducible refine at_ops ?_); (first | (refine wpList_alloc_is (by rfl) 48 rfl A2.out ?_) | (refine wpList_store_is (by rfl) 48 rfl rfl rfl T2.out ?_) | (refine wpList_load_is (by rfl) 39 rfl rfl L4.out ?_)); simp only [Act.put, List.setIfInBounds_toArray, List.set_cons_zero, List.set_cons_succ])
    refine (config10_any s0 w4).mono ?_
    rintro e w6 ⟨rfl, b6⟩
    have A6 : Hid (_) := alloc23 w6
    have T6 : Hid (_) := store_new23 w6 (cfgS s0)
    obtain ⟨w7, hw7⟩ : ∃ y, y = w6.alloc (.cells (ccells (cfgS s0)).toArray 39) := ⟨_, rfl⟩
    rw [← hw7] at T6
    have b7 : Below w6.heap.size w6 w7 := by rw [hw7]; exact below_alloc w6 _
    have C7 : CAt w7 w6.heap.size (cfgS s0) := by rw [hw7]; exact LAt.new 39 w6 _
    have L7 : Hid (_) := CAt.load23 C7
    have b47 : Below w4.heap.size w4 w7 := below_then b6 b7
    have B7 : Hid (Below w.heap.size w w7) := below_then B4.out b47
    clear hw7 b6 b7 L4
    go_wp2_with ((with_reducible refine at_ops ?_); (first | (refine wpList_alloc_is (by rfl) 39 rfl A6.out ?_) | (refine wpList_store_is (by rfl) 39 rfl rfl rfl T6.out ?_) | (refine wpList_load_is (by rfl) 39 rfl rfl L7.out ?_)); simp only [Act.put, List.setIfInBounds_toArray, List.set_cons_zero, List.set_cons_succ])
    refine (read_any10 (G4.out.later b47) (HT.out.later B7.out) (cfgS s0)).mono ?_
    rintro e w8 ⟨q8, c8, vs8, rfl, x8, -, b8⟩
    rw [Y4.out.1] at x8 ⊢
    have X8' : XIn w8 q8 N s.txs := by
      obtain ⟨a1, a2, a3, a4, -, -⟩ := XOwn.in x8
      rw [show (((⟨0, 1, s.fin, s.txs⟩ : LogS), (0 : Int)).1.txs).length = N from hN] at a3 a4
      cases a3
      exact a4
    have A8 : Hid (_) := allocLg w8
    have T8 : Hid (_) := storeLg w8 0 1 s.fin (v := .slice q8 N c8) rfl
    obtain ⟨w9, hw9⟩ : ∃ y, y = w8.alloc (.cells (gcells 0 1 s.fin (.slice q8 N c8)).toArray 66) := ⟨_, rfl⟩
    rw [← hw9] at T8
    have b9 : Below w8.heap.size w8 w9 := by rw [hw9]; exact below_alloc w8 _
    have M9 : Hid (LAt 66 w9 w8.heap.size (gcells 0 1 s.fin (.slice q8 N c8))) := by rw [hw9]; exact LAt.new 66 w8 _
    have b79 : Below w7.heap.size w7 w9 := below_then b8 b9
    have b49 : Below w4.heap.size w4 w9 := below_then b47 b79
    have B9 : Hid (Below w.heap.size w w9) := below_then B7.out b79
    have C9 : Hid (CAt w9 w6.heap.size (cfgS s0)) := LAt.later C7 b79
    have W9 : Hid (LAt 48 w9 w2.heap.size (gcells 0 1 s.fin (.slice q N d))) := LAt.later W4.out b49
    have X8 : Hid (XIn w9 q8 N s.txs) := X8'.later b9
    have XW : Hid (XIn w9 q N s.txs) := X4.out.later b49
    have Z9 : w9.cell? ⟨w8.heap.size, 3, none⟩ = some (.slice q8 N c8) := LAt.cell M9.out 3
    have hok := Y4.out.2
    have hlc := (cfgS_may s0).2.1
    have hN64 : N ≤ 64 := by have := hok.tl; omega
    have hwf := hok.tw
    have hms : ∀ x ∈ s.txs, x.ims.length ≤ 100000 := fun x hx => by have := hok.cm x hx; have := (cfgS_may s0).2.2.1; omega
    have HUp : Hid (s.txs.Pairwise (fun x y => x.p < y.p)) := hok.up
    have hf0 := hok.f0
    have hf1 := hok.f1
    have htl := hok.tl
    clear hw9 b8 b9 b79 b49 b47 C7 L7 A6 x8 X8' hok S4 W4 X4 G4 B4 B7 Y4 T6 hlc
    obtain ⟨lc, hlc⟩ : ∃ lc : Nat, (cfgS s0).lc = lc := ⟨(cfgS s0).lc.toNat, by have := (cfgS_may s0).2.1; omega⟩
    have hlc64 : lc ≤ 64 := by have := (cfgS_may s0).2.1; omega
    have hfl : s.fin ≤ (lc : Int) := by omega
    have hNl : (N : Int) ≤ (lc : Int) := by omega
    rw [show ((⟨0, 1, s.fin, s.txs⟩ : LogS), (0 : Int)).1.txs.length = N from hN]
    go_wp2_with ((with_reducible refine at_ops ?_); (first | (refine wpList_alloc_is (by rfl) 66 rfl A8.out ?_) | (refine wpList_store_is (by rfl) 66 rfl rfl rfl T8.out ?_)); simp only [Act.put, List.setIfInBounds_toArray, List.set_cons_zero, List.set_cons_succ])
    clear A8 T8 Z9
    have HM : Hid (∀ W, Below w9.heap.size w9 W → W.cell? ⟨w8.heap.size, 3, none⟩ = some (.slice q8 N c8)) := fun W hW => LAt.cell (LAt.later M9.out hW) 3
    have HF : Hid (∀ W, Below w9.heap.size w9 W → W.cell? ⟨w8.heap.size, 2, none⟩ = some (.int .u64 s.fin)) := fun W hW => LAt.cell (LAt.later M9.out hW) 2
    have H0 : Hid (∀ W, Below w9.heap.size w9 W → W.cell? ⟨w8.heap.size, 0, none⟩ = some (.int .u64 0)) := fun W hW => LAt.cell (LAt.later M9.out hW) 0
    have HL : Hid (∀ W, Below w9.heap.size w9 W → W.cell? ⟨w6.heap.size, 1, none⟩ = some (.int .i64 (lc : Int))) := fun W hW => by rw [← hlc]; exact CAt.c1 (LAt.later C9.out hW)
    have hcv : IntKind.u64.wrap (lc : Int) = lc := G.wrap_u (by omega) (by omega)
    clear hf1 htl hlc
    go_loopw [47] (fun i wr => ∃ k : Nat, k ≤ N ∧ i = .int .i64 k ∧ Hid (Below w9.heap.size w9 wr)) (fun i _ => N - (intOf i).toNat)
    case atStart => exact ⟨0, Nat.zero_le _, rfl, Below.refl _ _⟩
    case round =>
      obtain ⟨k, hk, rfl, HB⟩ := hrel
      by_cases hlt : k < N
      · by_cases k0 : k = 0
        · subst k0
          go_wp2_with fail
          refine wp_region_noPanic ?_
          refine wp_region_held_drew (S := fun w' => Below wr.heap.size wr w') (by kernel_rfl) (below_drawn 1) (fun hHeld => ?_)
          have D1 : Hid (Below wr.heap.size wr wr.drew) := hHeld
          generalize wr.drew = wd at *
          refine wpAnyH_take (i := 0) (v := ?vap1) (by simp; rfl) (by kernel_rfl) (by kernel_rfl) (by kernel_rfl) (fun _ _ _ h => h) (Or.inl ⟨by rfl, ?yap1⟩) hHeld ?rap1
          case yap1 => intro w hSw; clear hSw; go_simp; with_reducible rfl
          simp only [Act.put, List.setIfInBounds_toArray, List.set_cons_zero, List.set_cons_succ]
          refine wpAnyH_take (i := 1) (v := ?vap2) (by simp; rfl) (by kernel_rfl) (by kernel_rfl) (by kernel_rfl) (fun _ _ _ h => h) (Or.inl ⟨by rfl, ?yap2⟩) hHeld ?rap2
          case yap2 => intro w hSw; clear hSw; go_simp; with_reducible rfl
          simp only [Act.put, List.setIfInBounds_toArray, List.set_cons_zero, List.set_cons_succ]
          refine wpAnyH_take (i := 2) (v := ?vap3) (by simp; rfl) (by kernel_rfl) (by kernel_rfl) (by kernel_rfl) (fun _ _ _ h => h) (Or.inl ⟨by rfl, ?yap3⟩) hHeld ?rap3
          case yap3 => intro w hSw; clear hSw; go_simp; with_reducible rfl
          simp only [Act.put, List.setIfInBounds_toArray, List.set_cons_zero, List.set_cons_succ]
          refine wpAnyH_take (i := 3) (v := undef) (by simp; rfl) (by kernel_rfl) (by kernel_rfl) (by kernel_rfl) (fun _ _ _ h => h) (Or.inr ⟨by rfl, rfl⟩) hHeld ?_
          simp only [Act.put, List.setIfInBounds_toArray, List.set_cons_zero, List.set_cons_succ]
          refine wpAnyH_take (i := 4) (v := undef) (by simp; rfl) (by kernel_rfl) (by kernel_rfl) (by kernel_rfl) (fun _ _ _ h => h) (Or.inr ⟨by rfl, rfl⟩) hHeld ?_
          simp only [Act.put, List.setIfInBounds_toArray, List.set_cons_zero, List.set_cons_succ]
          refine wpAnyH_take (i := 5) (v := undef) (by simp; rfl) (by kernel_rfl) (by kernel_rfl) (by kernel_rfl) (fun _ _ _ h => h) (Or.inr ⟨by rfl, rfl⟩) hHeld ?_
          simp only [Act.put, List.setIfInBounds_toArray, List.set_cons_zero, List.set_cons_succ]
          refine wpAnyH_take (i := 6) (v := undef) (by simp; rfl) (by kernel_rfl) (by kernel_rfl) (by kernel_rfl) (fun _ _ _ h => h) (Or.inr ⟨by rfl, rfl⟩) hHeld ?_
          simp only [Act.put, List.setIfInBounds_toArray, List.set_cons_zero, List.set_cons_succ]
          refine wpAnyH_take (i := 7) (v := undef) (by simp; rfl) (by kernel_rfl) (by kernel_rfl) (by kernel_rfl) (fun _ _ _ h => h) (Or.inr ⟨by rfl, rfl⟩) hHeld ?_
          simp only [Act.put, List.setIfInBounds_toArray, List.set_cons_zero, List.set_cons_succ]
          refine wpAnyH_take (i := 8) (v := undef) (by simp; rfl) (by kernel_rfl) (by kernel_rfl) (by kernel_rfl) (fun _ _ _ h => h) (Or.inr ⟨by rfl, rfl⟩) hHeld ?_
          simp only [Act.put, List.setIfInBounds_toArray, List.set_cons_zero, List.set_cons_succ]
          refine wpAnyH_take (i := 9) (v := undef) (by simp; rfl) (by kernel_rfl) (by kernel_rfl) (by kernel_rfl) (fun _ _ _ h => h) (Or.inr ⟨by rfl, rfl⟩) hHeld ?_
          simp only [Act.put, List.setIfInBounds_toArray, List.set_cons_zero, List.set_cons_succ]
          refine wpAnyH_take (i := 10) (v := undef) (by simp; rfl) (by kernel_rfl) (by kernel_rfl) (by kernel_rfl) (fun _ _ _ h => h) (Or.inr ⟨by rfl, rfl⟩) hHeld ?_
          simp only [Act.put, List.setIfInBounds_toArray, List.set_cons_zero, List.set_cons_succ]
          refine wpAnyH_take (i := 11) (v := undef) (by simp; rfl) (by kernel_rfl) (by kernel_rfl) (by kernel_rfl) (fun _ _ _ h => h) (Or.inr ⟨by rfl, rfl⟩) hHeld ?_
          simp only [Act.put, List.setIfInBounds_toArray, List.set_cons_zero, List.set_cons_succ]
          refine wpAnyH_take (i := 12) (v := undef) (by simp; rfl) (by kernel_rfl) (by kernel_rfl) (by kernel_rfl) (fun _ _ _ h => h) (Or.inr ⟨by rfl, rfl⟩) hHeld ?_
          simp only [Act.put, List.setIfInBounds_toArray, List.set_cons_zero, List.set_cons_succ]
          refine wpAnyH_take (i := 13) (v := undef) (by simp; rfl) (by kernel_rfl) (by kernel_rfl) (by kernel_rfl) (fun _ _ _ h => h) (Or.inr ⟨by rfl, rfl⟩) hHeld ?_
          simp only [Act.put, List.setIfInBounds_toArray, List.set_cons_zero, List.set_cons_succ]
          refine wpAnyH_take (i := 14) (v := undef) (by simp; rfl) (by kernel_rfl) (by kernel_rfl) (by kernel_rfl) (fun _ _ _ h => h) (Or.inr ⟨by rfl, rfl⟩) hHeld ?_
          simp only [Act.put, List.setIfInBounds_toArray, List.set_cons_zero, List.set_cons_succ]
          refine wpAnyH_take (i := 15) (v := undef) (by simp; rfl) (by kernel_rfl) (by kernel_rfl) (by kernel_rfl) (fun _ _ _ h => h) (Or.inr ⟨by rfl, rfl⟩) hHeld ?_
          simp only [Act.put, List.setIfInBounds_toArray, List.set_cons_zero, List.set_cons_succ]
          refine wpAnyH_take (i := 16) (v := undef) (by simp; rfl) (by kernel_rfl) (by kernel_rfl) (by kernel_rfl) (fun _ _ _ h => h) (Or.inr ⟨by rfl, rfl⟩) hHeld ?_
          simp only [Act.put, List.setIfInBounds_toArray, List.set_cons_zero, List.set_cons_succ]
          refine wpAnyH_take (i := 17) (v := ?vap4) (by simp; rfl) (by kernel_rfl) (by kernel_rfl) (by kernel_rfl) (fun _ _ _ h => h) (Or.inl ⟨by rfl, ?yap4⟩) hHeld ?rap4
          case yap4 => intro w hSw; clear hSw; go_simp; with_reducible rfl
          simp only [Act.put, List.setIfInBounds_toArray, List.set_cons_zero, List.set_cons_succ]
          clear hHeld
          refine wpAnyH_done (by kernel_rfl) (NoPanic.normal ?_) _
          have HB2 : Hid (Below w9.heap.size w9 wd) := below_then HB.out D1.out
          clear D1 HB
          go_wp2_with fail
          go_roundw
          case rel => exact ⟨1, by omega, by go_num, HB2.out⟩
          case measure => simp [intOf]; omega
        obtain ⟨j, rfl⟩ : ∃ j, k = j + 1 := ⟨k - 1, by omega⟩
        obtain ⟨gq, oq, rfl, hcs⟩ := X8.out.cells (by omega)
        have hlj : j + 1 < s.txs.length := by omega
        have e0 : s.txs[j]? = some (s.txs[j]'(by omega)) := List.getElem?_eq_getElem (by omega)
        have e1 : s.txs[j + 1]? = some (s.txs[j + 1]'hlj) := List.getElem?_eq_getElem hlj
        have hup : (s.txs[j]'(by omega)).p < (s.txs[j + 1]'hlj).p := List.pairwise_iff_getElem.1 HUp.out j (j + 1) (by omega) hlj (by omega)
        obtain ⟨-, -, r0, -⟩ := hcs j _ e0
        obtain ⟨-, -, r1, -⟩ := hcs (j + 1) _ e1
        generalize (s.txs[j]'(by omega)).p = x0 at *
        generalize (s.txs[j + 1]'hlj).p = x1 at *
        have HP0 : Hid (∀ W, Below w9.heap.size w9 W → W.cell? ⟨gq, oq + j * 2, none⟩ = some (.int .u64 x0)) := fun W hW => (hW.cell (p := ⟨gq, oq + j * 2, none⟩) (World.block_lt_of_cell? w9 _ r0)).trans r0
        have HP1 : Hid (∀ W, Below w9.heap.size w9 W → W.cell? ⟨gq, oq + (j + 1) * 2, none⟩ = some (.int .u64 x1)) := fun W hW => (hW.cell (p := ⟨gq, oq + (j + 1) * 2, none⟩) (World.block_lt_of_cell? w9 _ r1)).trans r1
        have hge : ¬ x1 ≤ x0 := by omega
        have g0 : (0 : Int) < (j : Int) + 1 := by omega
        have g1 : ((j + 1 : Nat) : Int) = (j : Int) + 1 := by omega
        have g2 : (j : Int) + 1 - 1 = j := by omega
        have g3 : IntKind.i64.wrap (j : Int) = j := wrap_nat j (by omega)
        have g4 : (j : Int) < N := by omega
        have g5 : ((j : Int) + 1).toNat = j + 1 := by omega
        have g6 : (0 : Int) ≤ (j : Int) + 1 := by omega
        have g7 : (j : Int) + 1 < N := by omega
        clear hcs e0 e1 r0 r1 hup
        go_wp2_with fail
        refine wp_region_noPanic ?_
        refine wp_region_held_drew (S := fun w' => Below wr.heap.size wr w') (by kernel_rfl) (below_drawn 1) (fun hHeld => ?_)
        have D1 : Hid (Below wr.heap.size wr wr.drew) := hHeld
        generalize wr.drew = wd at *
        refine wpAnyH_take (i := 0) (v := ?vap5) (by simp; rfl) (by kernel_rfl) (by kernel_rfl) (by kernel_rfl) (fun _ _ _ h => h) (Or.inl ⟨by rfl, ?yap5⟩) hHeld ?rap5
        case yap5 => intro w hSw; clear hSw; go_simp; with_reducible rfl
        simp only [Act.put, List.setIfInBounds_toArray, List.set_cons_zero, List.set_cons_succ]
        refine wpAnyH_take (i := 1) (v := ?vap6) (by simp; rfl) (by kernel_rfl) (by kernel_rfl) (by kernel_rfl) (fun _ _ _ h => h) (Or.inl ⟨by rfl, ?yap6⟩) hHeld ?rap6
        case yap6 => intro w hSw; clear hSw; go_simp; with_reducible rfl
        simp only [Act.put, List.setIfInBounds_toArray, List.set_cons_zero, List.set_cons_succ]
        refine wpAnyH_take (i := 2) (v := ?vap7) (by simp; rfl) (by kernel_rfl) (by kernel_rfl) (by kernel_rfl) (fun _ _ _ h => h) (Or.inl ⟨by rfl, ?yap7⟩) hHeld ?rap7
        case yap7 => intro w hSw; clear hSw; go_simp; with_reducible rfl
        simp only [Act.put, List.setIfInBounds_toArray, List.set_cons_zero, List.set_cons_succ]
        refine wpAnyH_take (i := 3) (v := ?vap8) (by simp; rfl) (by kernel_rfl) (by kernel_rfl) (by kernel_rfl) (fun _ _ _ h => h) (Or.inl ⟨by rfl, ?yap8⟩) hHeld ?rap8
        case yap8 => intro w hSw; clear hSw; go_simp; with_reducible rfl
        simp only [Act.put, List.setIfInBounds_toArray, List.set_cons_zero, List.set_cons_succ]
        refine wpAnyH_take (i := 4) (v := ?vap9) (by simp; rfl) (by kernel_rfl) (by kernel_rfl) (by kernel_rfl) (fun _ _ _ h => h) (Or.inl ⟨by rfl, ?yap9⟩) hHeld ?rap9
        case yap9 => intro w hSw; have z := HM.out _ (below_then HB.out hSw); clear hSw; go_simp; with_reducible rfl
        simp only [Act.put, List.setIfInBounds_toArray, List.set_cons_zero, List.set_cons_succ]
        refine wpAnyH_take (i := 5) (v := ?vap10) (by simp; rfl) (by kernel_rfl) (by kernel_rfl) (by kernel_rfl) (fun _ _ _ h => h) (Or.inl ⟨by rfl, ?yap10⟩) hHeld ?rap10
        case yap10 => intro w hSw; clear hSw; go_simp; with_reducible rfl
        simp only [Act.put, List.setIfInBounds_toArray, List.set_cons_zero, List.set_cons_succ]
        refine wpAnyH_take (i := 6) (v := ?vap11) (by simp; rfl) (by kernel_rfl) (by kernel_rfl) (by kernel_rfl) (fun _ _ _ h => h) (Or.inl ⟨by rfl, ?yap11⟩) hHeld ?rap11
        case yap11 => intro w hSw; clear hSw; go_simp; with_reducible rfl
        simp only [Act.put, List.setIfInBounds_toArray, List.set_cons_zero, List.set_cons_succ]
        refine wpAnyH_take (i := 7) (v := ?vap12) (by simp; rfl) (by kernel_rfl) (by kernel_rfl) (by kernel_rfl) (fun _ _ _ h => h) (Or.inl ⟨by rfl, ?yap12⟩) hHeld ?rap12
        case yap12 => intro w hSw; clear hSw; go_simp; with_reducible rfl
        simp only [Act.put, List.setIfInBounds_toArray, List.set_cons_zero, List.set_cons_succ]
        refine wpAnyH_take (i := 8) (v := ?vap13) (by simp; rfl) (by kernel_rfl) (by kernel_rfl) (by kernel_rfl) (fun _ _ _ h => h) (Or.inl ⟨by rfl, ?yap13⟩) hHeld ?rap13
        case yap13 => intro w hSw; clear hSw; go_simp; with_reducible rfl
        simp only [Act.put, List.setIfInBounds_toArray, List.set_cons_zero, List.set_cons_succ]
        refine wpAnyH_take (i := 9) (v := ?vap14) (by simp; rfl) (by kernel_rfl) (by kernel_rfl) (by kernel_rfl) (fun _ _ _ h => h) (Or.inl ⟨by rfl, ?yap14⟩) hHeld ?rap14
        case yap14 => intro w hSw; have z := HP0.out _ (below_then HB.out hSw); clear hSw; go_simp; with_reducible rfl
        simp only [Act.put, List.setIfInBounds_toArray, List.set_cons_zero, List.set_cons_succ]
        refine wpAnyH_take (i := 10) (v := ?vap15) (by simp; rfl) (by kernel_rfl) (by kernel_rfl) (by kernel_rfl) (fun _ _ _ h => h) (Or.inl ⟨by rfl, ?yap15⟩) hHeld ?rap15
        case yap15 => intro w hSw; clear hSw; go_simp; with_reducible rfl
        simp only [Act.put, List.setIfInBounds_toArray, List.set_cons_zero, List.set_cons_succ]
        refine wpAnyH_take (i := 11) (v := ?vap16) (by simp; rfl) (by kernel_rfl) (by kernel_rfl) (by kernel_rfl) (fun _ _ _ h => h) (Or.inl ⟨by rfl, ?yap16⟩) hHeld ?rap16
        case yap16 => intro w hSw; have z := HM.out _ (below_then HB.out hSw); clear hSw; go_simp; with_reducible rfl
        simp only [Act.put, List.setIfInBounds_toArray, List.set_cons_zero, List.set_cons_succ]
        refine wpAnyH_take (i := 12) (v := ?vap17) (by simp; rfl) (by kernel_rfl) (by kernel_rfl) (by kernel_rfl) (fun _ _ _ h => h) (Or.inl ⟨by rfl, ?yap17⟩) hHeld ?rap17
        case yap17 => intro w hSw; clear hSw; go_simp; with_reducible rfl
        simp only [Act.put, List.setIfInBounds_toArray, List.set_cons_zero, List.set_cons_succ]
        refine wpAnyH_take (i := 13) (v := ?vap18) (by simp; rfl) (by kernel_rfl) (by kernel_rfl) (by kernel_rfl) (fun _ _ _ h => h) (Or.inl ⟨by rfl, ?yap18⟩) hHeld ?rap18
        case yap18 => intro w hSw; clear hSw; go_simp; with_reducible rfl
        simp only [Act.put, List.setIfInBounds_toArray, List.set_cons_zero, List.set_cons_succ]
        refine wpAnyH_take (i := 14) (v := ?vap19) (by simp; rfl) (by kernel_rfl) (by kernel_rfl) (by kernel_rfl) (fun _ _ _ h => h) (Or.inl ⟨by rfl, ?yap19⟩) hHeld ?rap19
        case yap19 => intro w hSw; clear hSw; go_simp; with_reducible rfl
        simp only [Act.put, List.setIfInBounds_toArray, List.set_cons_zero, List.set_cons_succ]
        refine wpAnyH_take (i := 15) (v := ?vap20) (by simp; rfl) (by kernel_rfl) (by kernel_rfl) (by kernel_rfl) (fun _ _ _ h => h) (Or.inl ⟨by rfl, ?yap20⟩) hHeld ?rap20
        case yap20 => intro w hSw; have z := HP1.out _ (below_then HB.out hSw); clear hSw; go_simp; with_reducible rfl
        simp only [Act.put, List.setIfInBounds_toArray, List.set_cons_zero, List.set_cons_succ]
        refine wpAnyH_take (i := 16) (v := ?vap21) (by simp; rfl) (by kernel_rfl) (by kernel_rfl) (by kernel_rfl) (fun _ _ _ h => h) (Or.inl ⟨by rfl, ?yap21⟩) hHeld ?rap21
        case yap21 => intro w hSw; clear hSw; go_simp; with_reducible rfl
        simp only [Act.put, List.setIfInBounds_toArray, List.set_cons_zero, List.set_cons_succ]
        refine wpAnyH_take (i := 17) (v := ?vap22) (by simp; rfl) (by kernel_rfl) (by kernel_rfl) (by kernel_rfl) (fun _ _ _ h => h) (Or.inl ⟨by rfl, ?yap22⟩) hHeld ?rap22
        case yap22 => intro w hSw; clear hSw; go_simp; with_reducible rfl
        simp only [Act.put, List.setIfInBounds_toArray, List.set_cons_zero, List.set_cons_succ]
        clear hHeld
        refine wpAnyH_done (by kernel_rfl) (NoPanic.normal ?_) _
        have HB2 : Hid (Below w9.heap.size w9 wd) := below_then HB.out D1.out
        clear D1 HB
        go_wp2_with fail
        go_roundw
        case rel => exact ⟨j + 1 + 1, by omega, by go_num, HB2.out⟩
        case measure => simp [intOf]; omega
      · obtain rfl : N = k := by omega
        go_wp2_with fail
        refine wp_region_noPanic ?_
        refine wp_region_held_drew (S := fun w' => Below wr.heap.size wr w') (by kernel_rfl) (below_drawn 1) (fun hHeld => ?_)
        have D2 : Hid (Below wr.heap.size wr wr.drew) := hHeld
        generalize wr.drew = wd at *
        refine wpAnyH_take (i := 0) (v := ?vap23) (by simp; rfl) (by kernel_rfl) (by kernel_rfl) (by kernel_rfl) (fun _ _ _ h => h) (Or.inl ⟨by rfl, ?yap23⟩) hHeld ?rap23
        case yap23 => intro w hSw; clear hSw; go_simp; with_reducible rfl
        simp only [Act.put, List.setIfInBounds_toArray, List.set_cons_zero, List.set_cons_succ]
        refine wpAnyH_ready (rs := [1]) (by kernel_rfl) (by simp) ?_
        refine AllReadyH.cons (by simp; rfl) (fun Kc hKc => ?_) AllReadyH.nil
        go_simp
        refine (num_any _ _).mono ?_
        rintro e wn ⟨rfl, rfl⟩
        refine hKc.out _ _ D2.out (fun hHeld => ?_)
        clear hKc Kc
        refine wpAnyH_take (i := 2) (v := ?vap24) (by simp; rfl) (by kernel_rfl) (by kernel_rfl) (by kernel_rfl) (fun _ _ _ h => h) (Or.inl ⟨by rfl, ?yap24⟩) hHeld ?rap24
        case yap24 => intro w hSw; clear hSw; go_simp; with_reducible rfl
        simp only [Act.put, List.setIfInBounds_toArray, List.set_cons_zero, List.set_cons_succ]
        refine wpAnyH_take (i := 3) (v := ?vap25) (by simp; rfl) (by kernel_rfl) (by kernel_rfl) (by kernel_rfl) (fun _ _ _ h => h) (Or.inl ⟨by rfl, ?yap25⟩) hHeld ?rap25
        case yap25 => intro w hSw; clear hSw; go_simp; with_reducible rfl
        simp only [Act.put, List.setIfInBounds_toArray, List.set_cons_zero, List.set_cons_succ]
        refine wpAnyH_take (i := 4) (v := _) (by simp; rfl) (by kernel_rfl) (by kernel_rfl) (by kernel_rfl) (fun _ _ _ h => h) (yieldsIf_load_mid (by rfl) 66 (.tmp 12) rfl w8.heap.size 0 rfl (gcells 0 1 s.fin (.slice q8 N c8)) _ (fun _ h => LAt.range (LAt.later M9.out (below_then HB.out h))) Tryd.underlying66 rfl sizeLg) hHeld ?_
        simp only [Act.put, List.setIfInBounds_toArray, List.set_cons_zero, List.set_cons_succ]
        refine wpAnyH_take (i := 6) (v := _) (by simp; rfl) (by kernel_rfl) (by kernel_rfl) (by kernel_rfl) (fun _ _ _ h => h) (yieldsIf_load_mid (by rfl) 48 (.tmp 7) rfl w2.heap.size 0 rfl (gcells 0 1 s.fin (.slice q N d)) _ (fun _ h => LAt.range (LAt.later W9.out (below_then HB.out h))) Tryd.underlying48 rfl sizeR) hHeld ?_
        simp only [Act.put, List.setIfInBounds_toArray, List.set_cons_zero, List.set_cons_succ]
        refine wpAnyH_ready (rs := [5]) (by kernel_rfl) (by simp) ?_
        refine AllReadyH.cons (by simp; rfl) (fun Kc hKc => ?_) AllReadyH.nil
        go_simp
        refine (plain_any 0 1 s.fin q8 N c8 s.txs _ (X8.out.later (below_then HB.out D2.out)) hwf (by omega) hms).mono ?_
        rintro e wp ⟨qp, dp, vp, rfl, xp, bp⟩
        have D3 : Hid (Below wr.heap.size wr wp) := below_then D2.out bp
        have XP : Hid (XIn wp qp N s.txs) := by
          obtain ⟨a1, a2, a3, a4, -, -⟩ := XOwn.in xp
          rw [hN] at a3 a4
          cases a3
          exact a4
        refine hKc.out _ _ D3.out (fun hHeld => ?_)
        clear hKc Kc xp bp
        refine wpAnyH_ready (rs := [7]) (by kernel_rfl) (by simp) ?_
        refine AllReadyH.cons (by simp; rfl) (fun Kc hKc => ?_) AllReadyH.nil
        go_simp
        refine (same_eq 0 1 s.fin qp q N dp d s.txs wp XP.out (XW.out.later (below_then HB.out D3.out)) (by omega) hms).mono ?_
        rintro e wq ⟨rfl, bq⟩
        have D4 : Hid (Below wr.heap.size wr wq) := below_then D3.out bq
        refine hKc.out _ _ D4.out (fun hHeld => ?_)
        clear hKc Kc bq
        refine wpAnyH_take (i := 8) (v := ?vap26) (by simp; rfl) (by kernel_rfl) (by kernel_rfl) (by kernel_rfl) (fun _ _ _ h => h) (Or.inl ⟨by rfl, ?yap26⟩) hHeld ?rap26
        case yap26 => intro w hSw; clear hSw; go_simp; with_reducible rfl
        simp only [Act.put, List.setIfInBounds_toArray, List.set_cons_zero, List.set_cons_succ]
        refine wpAnyH_take (i := 9) (v := ?vap27) (by simp; rfl) (by kernel_rfl) (by kernel_rfl) (by kernel_rfl) (fun _ _ _ h => h) (Or.inl ⟨by rfl, ?yap27⟩) hHeld ?rap27
        case yap27 => intro w hSw; clear hSw; go_simp; with_reducible rfl
        simp only [Act.put, List.setIfInBounds_toArray, List.set_cons_zero, List.set_cons_succ]
        refine wpAnyH_take (i := 10) (v := ?vap28) (by simp; rfl) (by kernel_rfl) (by kernel_rfl) (by kernel_rfl) (fun _ _ _ h => h) (Or.inl ⟨by rfl, ?yap28⟩) hHeld ?rap28
        case yap28 => intro w hSw; clear hSw; go_simp; with_reducible rfl
        simp only [Act.put, List.setIfInBounds_toArray, List.set_cons_zero, List.set_cons_succ]
        refine wpAnyH_take (i := 11) (v := ?vap29) (by simp; rfl) (by kernel_rfl) (by kernel_rfl) (by kernel_rfl) (fun _ _ _ h => h) (Or.inl ⟨by rfl, ?yap29⟩) hHeld ?rap29
        case yap29 => intro w hSw; have z := HF.out _ (below_then HB.out hSw); clear hSw; go_simp; with_reducible rfl
        simp only [Act.put, List.setIfInBounds_toArray, List.set_cons_zero, List.set_cons_succ]
        refine wpAnyH_take (i := 12) (v := ?vap30) (by simp; rfl) (by kernel_rfl) (by kernel_rfl) (by kernel_rfl) (fun _ _ _ h => h) (Or.inl ⟨by rfl, ?yap30⟩) hHeld ?rap30
        case yap30 => intro w hSw; clear hSw; go_simp; with_reducible rfl
        simp only [Act.put, List.setIfInBounds_toArray, List.set_cons_zero, List.set_cons_succ]
        refine wpAnyH_take (i := 13) (v := ?vap31) (by simp; rfl) (by kernel_rfl) (by kernel_rfl) (by kernel_rfl) (fun _ _ _ h => h) (Or.inl ⟨by rfl, ?yap31⟩) hHeld ?rap31
        case yap31 => intro w hSw; have z := H0.out _ (below_then HB.out hSw); clear hSw; go_simp; with_reducible rfl
        simp only [Act.put, List.setIfInBounds_toArray, List.set_cons_zero, List.set_cons_succ]
        refine wpAnyH_take (i := 14) (v := ?vap32) (by simp; rfl) (by kernel_rfl) (by kernel_rfl) (by kernel_rfl) (fun _ _ _ h => h) (Or.inl ⟨by rfl, ?yap32⟩) hHeld ?rap32
        case yap32 => intro w hSw; clear hSw; go_simp; with_reducible rfl
        simp only [Act.put, List.setIfInBounds_toArray, List.set_cons_zero, List.set_cons_succ]
        refine wpAnyH_take (i := 15) (v := ?vap33) (by simp; rfl) (by kernel_rfl) (by kernel_rfl) (by kernel_rfl) (fun _ _ _ h => h) (Or.inl ⟨by rfl, ?yap33⟩) hHeld ?rap33
        case yap33 => intro w hSw; have z := HL.out _ (below_then HB.out hSw); clear hSw; go_simp; with_reducible rfl
        simp only [Act.put, List.setIfInBounds_toArray, List.set_cons_zero, List.set_cons_succ]
        refine wpAnyH_take (i := 16) (v := ?vap34) (by simp; rfl) (by kernel_rfl) (by kernel_rfl) (by kernel_rfl) (fun _ _ _ h => h) (Or.inl ⟨by rfl, ?yap34⟩) hHeld ?rap34
        case yap34 => intro w hSw; clear hSw; go_simp; with_reducible rfl
        simp only [Act.put, List.setIfInBounds_toArray, List.set_cons_zero, List.set_cons_succ]
        refine wpAnyH_take (i := 17) (v := ?vap35) (by simp; rfl) (by kernel_rfl) (by kernel_rfl) (by kernel_rfl) (fun _ _ _ h => h) (Or.inl ⟨by rfl, ?yap35⟩) hHeld ?rap35
        case yap35 => intro w hSw; clear hSw; go_simp; with_reducible rfl
        simp only [Act.put, List.setIfInBounds_toArray, List.set_cons_zero, List.set_cons_succ]
        refine wpAnyH_take (i := 18) (v := ?vap36) (by simp; rfl) (by kernel_rfl) (by kernel_rfl) (by kernel_rfl) (fun _ _ _ h => h) (Or.inl ⟨by rfl, ?yap36⟩) hHeld ?rap36
        case yap36 => intro w hSw; clear hSw; go_simp; with_reducible rfl
        simp only [Act.put, List.setIfInBounds_toArray, List.set_cons_zero, List.set_cons_succ]
        refine wpAnyH_take (i := 19) (v := ?vap37) (by simp; rfl) (by kernel_rfl) (by kernel_rfl) (by kernel_rfl) (fun _ _ _ h => h) (Or.inl ⟨by rfl, ?yap37⟩) hHeld ?rap37
        case yap37 => intro w hSw; clear hSw; go_simp; with_reducible rfl
        simp only [Act.put, List.setIfInBounds_toArray, List.set_cons_zero, List.set_cons_succ]
        refine wpAnyH_take (i := 20) (v := ?vap38) (by simp; rfl) (by kernel_rfl) (by kernel_rfl) (by kernel_rfl) (fun _ _ _ h => h) (Or.inl ⟨by rfl, ?yap38⟩) hHeld ?rap38
        case yap38 => intro w hSw; clear hSw; go_simp; with_reducible rfl
        simp only [Act.put, List.setIfInBounds_toArray, List.set_cons_zero, List.set_cons_succ]
        refine wpAnyH_take (i := 21) (v := ?vap39) (by simp; rfl) (by kernel_rfl) (by kernel_rfl) (by kernel_rfl) (fun _ _ _ h => h) (Or.inl ⟨by rfl, ?yap39⟩) hHeld ?rap39
        case yap39 => intro w hSw; clear hSw; go_simp; with_reducible rfl
        simp only [Act.put, List.setIfInBounds_toArray, List.set_cons_zero, List.set_cons_succ]
        refine wpAnyH_take (i := 22) (v := ?vap40) (by simp; rfl) (by kernel_rfl) (by kernel_rfl) (by kernel_rfl) (fun _ _ _ h => h) (Or.inl ⟨by rfl, ?yap40⟩) hHeld ?rap40
        case yap40 => intro w hSw; have z := HM.out _ (below_then HB.out hSw); clear hSw; go_simp; with_reducible rfl
        simp only [Act.put, List.setIfInBounds_toArray, List.set_cons_zero, List.set_cons_succ]
        refine wpAnyH_take (i := 23) (v := ?vap41) (by simp; rfl) (by kernel_rfl) (by kernel_rfl) (by kernel_rfl) (fun _ _ _ h => h) (Or.inl ⟨by rfl, ?yap41⟩) hHeld ?rap41
        case yap41 => intro w hSw; clear hSw; go_simp; with_reducible rfl
        simp only [Act.put, List.setIfInBounds_toArray, List.set_cons_zero, List.set_cons_succ]
        refine wpAnyH_take (i := 24) (v := ?vap42) (by simp; rfl) (by kernel_rfl) (by kernel_rfl) (by kernel_rfl) (fun _ _ _ h => h) (Or.inl ⟨by rfl, ?yap42⟩) hHeld ?rap42
        case yap42 => intro w hSw; clear hSw; go_simp; with_reducible rfl
        simp only [Act.put, List.setIfInBounds_toArray, List.set_cons_zero, List.set_cons_succ]
        refine wpAnyH_take (i := 25) (v := ?vap43) (by simp; rfl) (by kernel_rfl) (by kernel_rfl) (by kernel_rfl) (fun _ _ _ h => h) (Or.inl ⟨by rfl, ?yap43⟩) hHeld ?rap43
        case yap43 => intro w hSw; have z := HL.out _ (below_then HB.out hSw); clear hSw; go_simp; with_reducible rfl
        simp only [Act.put, List.setIfInBounds_toArray, List.set_cons_zero, List.set_cons_succ]
        refine wpAnyH_take (i := 26) (v := ?vap44) (by simp; rfl) (by kernel_rfl) (by kernel_rfl) (by kernel_rfl) (fun _ _ _ h => h) (Or.inl ⟨by rfl, ?yap44⟩) hHeld ?rap44
        case yap44 => intro w hSw; clear hSw; go_simp; with_reducible rfl
        simp only [Act.put, List.setIfInBounds_toArray, List.set_cons_zero, List.set_cons_succ]
        refine wpAnyH_take (i := 27) (v := ?vap45) (by simp; rfl) (by kernel_rfl) (by kernel_rfl) (by kernel_rfl) (fun _ _ _ h => h) (Or.inl ⟨by rfl, ?yap45⟩) hHeld ?rap45
        case yap45 => intro w hSw; clear hSw; go_simp; with_reducible rfl
        simp only [Act.put, List.setIfInBounds_toArray, List.set_cons_zero, List.set_cons_succ]
        refine wpAnyH_take (i := 28) (v := ?vap46) (by simp; rfl) (by kernel_rfl) (by kernel_rfl) (by kernel_rfl) (fun _ _ _ h => h) (Or.inl ⟨by rfl, ?yap46⟩) hHeld ?rap46
        case yap46 => intro w hSw; clear hSw; go_simp; with_reducible rfl
        simp only [Act.put, List.setIfInBounds_toArray, List.set_cons_zero, List.set_cons_succ]
        clear hHeld
        refine wpAnyH_done (by kernel_rfl) (NoPanic.normal ?_) _
        have FF : Hid (Below w.heap.size w wq) := below_then B9.out (below_then HB.out D4.out)
        clear D2 D3 D4
        go_wp2_with fail
        go_ret
        exact ⟨rfl, FF.out⟩
  | true =>
    go_wp2_with ((with_reducible refine at_ops ?_); (first | (refine wpList_alloc_is (by rfl) 48 rfl A2.out ?_) | (refine wpList_store_is (by rfl) 48 rfl rfl rfl T2.out ?_)); simp only [Act.put, List.setIfInBounds_toArray, List.set_cons_zero, List.set_cons_succ])
    refine (flush_B G3.out hwl).mono ?_
    rintro e w4 ⟨rfl, lb4, kt4⟩
    have hfit := G3.out.len
    have Y4 : Hid (rdL (cfgS s0) (cntS (cfgS s0)) (newest [] (settle (fun _ => true) ws (newS (cfgS s0)))) = (⟨0, 1, s.fin, s.txs⟩, 0) ∧ Sc.Ok (cfgS s0).mr 0 (cfgS s0).lc.toNat s) := HY.out.found (fun i hi => newest_settled hfit.1 hfit.2 (by rw [hsz]; exact hi)) (newest_bytes lb4.dsk)
    have G4 : Hid (Dsk w4 (fun k => B ≤ k ∧ k ≠ L) p (cntS (cfgS s0)) (settle (fun _ => true) ws (newS (cfgS s0))) []) := by rw [← hsz]; exact lb4.dsk
    have X4 : Hid (XIn w4 q N s.txs) := by
      obtain ⟨a1, a2, a3, a4, -, -⟩ := XOwn.in (xown_kt kt4 X3.out)
      rw [hN] at a3 a4
      cases a3
      exact a4
    have S4 : Hid (_) := lat_kt kt4 (by decide) S3.out
    have W4 : Hid (_) := lat_kt kt4 (by decide) W3.out
    have B4 : Hid (Below w.heap.size w w4) := B3.out.trans (kt4.low.mono hwB)
    have L4 : Hid (_) := stc_range S4.out
    clear G3 HY X3 S3 W3 B3 hsz hwB hwl A2 T2 hfit lb4 kt4
    go_wp2_with (first | (go_at_call 15; refine (num_any _ _).mono ?_; rintro e wn ⟨rfl, rfl⟩) | ((with_reducible refine at_ops ?_); (refine wpList_load_is (by rfl) 39 rfl rfl L4.out ?_); simp only [Act.put, List.setIfInBounds_toArray, List.set_cons_zero, List.set_cons_succ]))
    refine (config10_any s0 w4).mono ?_
    rintro e w6 ⟨rfl, b6⟩
    have A6 : Hid (_) := alloc23 w6
    have T6 : Hid (_) := store_new23 w6 (cfgS s0)
    obtain ⟨w7, hw7⟩ : ∃ y, y = w6.alloc (.cells (ccells (cfgS s0)).toArray 39) := ⟨_, rfl⟩
    rw [← hw7] at T6
    have b7 : Below w6.heap.size w6 w7 := by rw [hw7]; exact below_alloc w6 _
    have C7 : CAt w7 w6.heap.size (cfgS s0) := by rw [hw7]; exact LAt.new 39 w6 _
    have L7 : Hid (_) := CAt.load23 C7
    have b47 : Below w4.heap.size w4 w7 := below_then b6 b7
    have B7 : Hid (Below w.heap.size w w7) := below_then B4.out b47
    clear hw7 b6 b7 L4
    go_wp2_with ((with_reducible refine at_ops ?_); (first | (refine wpList_alloc_is (by rfl) 39 rfl A6.out ?_) | (refine wpList_store_is (by rfl) 39 rfl rfl rfl T6.out ?_) | (refine wpList_load_is (by rfl) 39 rfl rfl L7.out ?_)); simp only [Act.put, List.setIfInBounds_toArray, List.set_cons_zero, List.set_cons_succ])
    refine (read_any10 (G4.out.later b47) (HT.out.later B7.out) (cfgS s0)).mono ?_
    rintro e w8 ⟨q8, c8, vs8, rfl, x8, -, b8⟩
    rw [Y4.out.1] at x8 ⊢
    have X8' : XIn w8 q8 N s.txs := by
      obtain ⟨a1, a2, a3, a4, -, -⟩ := XOwn.in x8
      rw [show (((⟨0, 1, s.fin, s.txs⟩ : LogS), (0 : Int)).1.txs).length = N from hN] at a3 a4
      cases a3
      exact a4
    have A8 : Hid (_) := allocLg w8
    have T8 : Hid (_) := storeLg w8 0 1 s.fin (v := .slice q8 N c8) rfl
    obtain ⟨w9, hw9⟩ : ∃ y, y = w8.alloc (.cells (gcells 0 1 s.fin (.slice q8 N c8)).toArray 66) := ⟨_, rfl⟩
    rw [← hw9] at T8
    have b9 : Below w8.heap.size w8 w9 := by rw [hw9]; exact below_alloc w8 _
    have M9 : Hid (LAt 66 w9 w8.heap.size (gcells 0 1 s.fin (.slice q8 N c8))) := by rw [hw9]; exact LAt.new 66 w8 _
    have b79 : Below w7.heap.size w7 w9 := below_then b8 b9
    have b49 : Below w4.heap.size w4 w9 := below_then b47 b79
    have B9 : Hid (Below w.heap.size w w9) := below_then B7.out b79
    have C9 : Hid (CAt w9 w6.heap.size (cfgS s0)) := LAt.later C7 b79
    have W9 : Hid (LAt 48 w9 w2.heap.size (gcells 0 1 s.fin (.slice q N d))) := LAt.later W4.out b49
    have X8 : Hid (XIn w9 q8 N s.txs) := X8'.later b9
    have XW : Hid (XIn w9 q N s.txs) := X4.out.later b49
    have Z9 : w9.cell? ⟨w8.heap.size, 3, none⟩ = some (.slice q8 N c8) := LAt.cell M9.out 3
    have hok := Y4.out.2
    have hlc := (cfgS_may s0).2.1
    have hN64 : N ≤ 64 := by have := hok.tl; omega
    have hwf := hok.tw
    have hms : ∀ x ∈ s.txs, x.ims.length ≤ 100000 := fun x hx => by have := hok.cm x hx; have := (cfgS_may s0).2.2.1; omega
    have HUp : Hid (s.txs.Pairwise (fun x y => x.p < y.p)) := hok.up
    have hf0 := hok.f0
    have hf1 := hok.f1
    have htl := hok.tl
    clear hw9 b8 b9 b79 b49 b47 C7 L7 A6 x8 X8' hok S4 W4 X4 G4 B4 B7 Y4 T6 hlc
    obtain ⟨lc, hlc⟩ : ∃ lc : Nat, (cfgS s0).lc = lc := ⟨(cfgS s0).lc.toNat, by have := (cfgS_may s0).2.1; omega⟩
    have hlc64 : lc ≤ 64 := by have := (cfgS_may s0).2.1; omega
    have hfl : s.fin ≤ (lc : Int) := by omega
    have hNl : (N : Int) ≤ (lc : Int) := by omega
    rw [show ((⟨0, 1, s.fin, s.txs⟩ : LogS), (0 : Int)).1.txs.length = N from hN]
    go_wp2_with ((with_reducible refine at_ops ?_); (first | (refine wpList_alloc_is (by rfl) 66 rfl A8.out ?_) | (refine wpList_store_is (by rfl) 66 rfl rfl rfl T8.out ?_)); simp only [Act.put, List.setIfInBounds_toArray, List.set_cons_zero, List.set_cons_succ])
    clear A8 T8 Z9
    have HM : Hid (∀ W, Below w9.heap.size w9 W → W.cell? ⟨w8.heap.size, 3, none⟩ = some (.slice q8 N c8)) := fun W hW => LAt.cell (LAt.later M9.out hW) 3
    have HF : Hid (∀ W, Below w9.heap.size w9 W → W.cell? ⟨w8.heap.size, 2, none⟩ = some (.int .u64 s.fin)) := fun W hW => LAt.cell (LAt.later M9.out hW) 2
    have H0 : Hid (∀ W, Below w9.heap.size w9 W → W.cell? ⟨w8.heap.size, 0, none⟩ = some (.int .u64 0)) := fun W hW => LAt.cell (LAt.later M9.out hW) 0
    have HL : Hid (∀ W, Below w9.heap.size w9 W → W.cell? ⟨w6.heap.size, 1, none⟩ = some (.int .i64 (lc : Int))) := fun W hW => by rw [← hlc]; exact CAt.c1 (LAt.later C9.out hW)
    have hcv : IntKind.u64.wrap (lc : Int) = lc := G.wrap_u (by omega) (by omega)
    clear hf1 htl hlc
    go_loopw [47] (fun i wr => ∃ k : Nat, k ≤ N ∧ i = .int .i64 k ∧ Hid (Below w9.heap.size w9 wr)) (fun i _ => N - (intOf i).toNat)
    case atStart => exact ⟨0, Nat.zero_le _, rfl, Below.refl _ _⟩
    case round =>
      obtain ⟨k, hk, rfl, HB⟩ := hrel
      by_cases hlt : k < N
      · by_cases k0 : k = 0
        · subst k0
          go_wp2_with fail
          refine wp_region_noPanic ?_
          refine wp_region_held_drew (S := fun w' => Below wr.heap.size wr w') (by kernel_rfl) (below_drawn 1) (fun hHeld => ?_)
          have D1 : Hid (Below wr.heap.size wr wr.drew) := hHeld
          generalize wr.drew = wd at *
          refine wpAnyH_take (i := 0) (v := ?vaq1) (by simp; rfl) (by kernel_rfl) (by kernel_rfl) (by kernel_rfl) (fun _ _ _ h => h) (Or.inl ⟨by rfl, ?yaq1⟩) hHeld ?raq1
          case yaq1 => intro w hSw; clear hSw; go_simp; with_reducible rfl
          simp only [Act.put, List.setIfInBounds_toArray, List.set_cons_zero, List.set_cons_succ]
          refine wpAnyH_take (i := 1) (v := ?vaq2) (by simp; rfl) (by kernel_rfl) (by kernel_rfl) (by kernel_rfl) (fun _ _ _ h => h) (Or.inl ⟨by rfl, ?yaq2⟩) hHeld ?raq2
          case yaq2 => intro w hSw; clear hSw; go_simp; with_reducible rfl
          simp only [Act.put, List.setIfInBounds_toArray, List.set_cons_zero, List.set_cons_succ]
          refine wpAnyH_take (i := 2) (v := ?vaq3) (by simp; rfl) (by kernel_rfl) (by kernel_rfl) (by kernel_rfl) (fun _ _ _ h => h) (Or.inl ⟨by rfl, ?yaq3⟩) hHeld ?raq3
          case yaq3 => intro w hSw; clear hSw; go_simp; with_reducible rfl
          simp only [Act.put, List.setIfInBounds_toArray, List.set_cons_zero, List.set_cons_succ]
          refine wpAnyH_take (i := 3) (v := undef) (by simp; rfl) (by kernel_rfl) (by kernel_rfl) (by kernel_rfl) (fun _ _ _ h => h) (Or.inr ⟨by rfl, rfl⟩) hHeld ?_
          simp only [Act.put, List.setIfInBounds_toArray, List.set_cons_zero, List.set_cons_succ]
          refine wpAnyH_take (i := 4) (v := undef) (by simp; rfl) (by kernel_rfl) (by kernel_rfl) (by kernel_rfl) (fun _ _ _ h => h) (Or.inr ⟨by rfl, rfl⟩) hHeld ?_
          simp only [Act.put, List.setIfInBounds_toArray, List.set_cons_zero, List.set_cons_succ]
          refine wpAnyH_take (i := 5) (v := undef) (by simp; rfl) (by kernel_rfl) (by kernel_rfl) (by kernel_rfl) (fun _ _ _ h => h) (Or.inr ⟨by rfl, rfl⟩) hHeld ?_
          simp only [Act.put, List.setIfInBounds_toArray, List.set_cons_zero, List.set_cons_succ]
          refine wpAnyH_take (i := 6) (v := undef) (by simp; rfl) (by kernel_rfl) (by kernel_rfl) (by kernel_rfl) (fun _ _ _ h => h) (Or.inr ⟨by rfl, rfl⟩) hHeld ?_
          simp only [Act.put, List.setIfInBounds_toArray, List.set_cons_zero, List.set_cons_succ]
          refine wpAnyH_take (i := 7) (v := undef) (by simp; rfl) (by kernel_rfl) (by kernel_rfl) (by kernel_rfl) (fun _ _ _ h => h) (Or.inr ⟨by rfl, rfl⟩) hHeld ?_
          simp only [Act.put, List.setIfInBounds_toArray, List.set_cons_zero, List.set_cons_succ]
          refine wpAnyH_take (i := 8) (v := undef) (by simp; rfl) (by kernel_rfl) (by kernel_rfl) (by kernel_rfl) (fun _ _ _ h => h) (Or.inr ⟨by rfl, rfl⟩) hHeld ?_
          simp only [Act.put, List.setIfInBounds_toArray, List.set_cons_zero, List.set_cons_succ]
          refine wpAnyH_take (i := 9) (v := undef) (by simp; rfl) (by kernel_rfl) (by kernel_rfl) (by kernel_rfl) (fun _ _ _ h => h) (Or.inr ⟨by rfl, rfl⟩) hHeld ?_
          simp only [Act.put, List.setIfInBounds_toArray, List.set_cons_zero, List.set_cons_succ]
          refine wpAnyH_take (i := 10) (v := undef) (by simp; rfl) (by kernel_rfl) (by kernel_rfl) (by kernel_rfl) (fun _ _ _ h => h) (Or.inr ⟨by rfl, rfl⟩) hHeld ?_
          simp only [Act.put, List.setIfInBounds_toArray, List.set_cons_zero, List.set_cons_succ]
          refine wpAnyH_take (i := 11) (v := undef) (by simp; rfl) (by kernel_rfl) (by kernel_rfl) (by kernel_rfl) (fun _ _ _ h => h) (Or.inr ⟨by rfl, rfl⟩) hHeld ?_
          simp only [Act.put, List.setIfInBounds_toArray, List.set_cons_zero, List.set_cons_succ]
          refine wpAnyH_take (i := 12) (v := undef) (by simp; rfl) (by kernel_rfl) (by kernel_rfl) (by kernel_rfl) (fun _ _ _ h => h) (Or.inr ⟨by rfl, rfl⟩) hHeld ?_
          simp only [Act.put, List.setIfInBounds_toArray, List.set_cons_zero, List.set_cons_succ]
          refine wpAnyH_take (i := 13) (v := undef) (by simp; rfl) (by kernel_rfl) (by kernel_rfl) (by kernel_rfl) (fun _ _ _ h => h) (Or.inr ⟨by rfl, rfl⟩) hHeld ?_
          simp only [Act.put, List.setIfInBounds_toArray, List.set_cons_zero, List.set_cons_succ]
          refine wpAnyH_take (i := 14) (v := undef) (by simp; rfl) (by kernel_rfl) (by kernel_rfl) (by kernel_rfl) (fun _ _ _ h => h) (Or.inr ⟨by rfl, rfl⟩) hHeld ?_
          simp only [Act.put, List.setIfInBounds_toArray, List.set_cons_zero, List.set_cons_succ]
          refine wpAnyH_take (i := 15) (v := undef) (by simp; rfl) (by kernel_rfl) (by kernel_rfl) (by kernel_rfl) (fun _ _ _ h => h) (Or.inr ⟨by rfl, rfl⟩) hHeld ?_
          simp only [Act.put, List.setIfInBounds_toArray, List.set_cons_zero, List.set_cons_succ]
          refine wpAnyH_take (i := 16) (v := undef) (by simp; rfl) (by kernel_rfl) (by kernel_rfl) (by kernel_rfl) (fun _ _ _ h => h) (Or.inr ⟨by rfl, rfl⟩) hHeld ?_
          simp only [Act.put, List.setIfInBounds_toArray, List.set_cons_zero, List.set_cons_succ]
          refine wpAnyH_take (i := 17) (v := ?vaq4) (by simp; rfl) (by kernel_rfl) (by kernel_rfl) (by kernel_rfl) (fun _ _ _ h => h) (Or.inl ⟨by rfl, ?yaq4⟩) hHeld ?raq4
          case yaq4 => intro w hSw; clear hSw; go_simp; with_reducible rfl
          simp only [Act.put, List.setIfInBounds_toArray, List.set_cons_zero, List.set_cons_succ]
          clear hHeld
          refine wpAnyH_done (by kernel_rfl) (NoPanic.normal ?_) _
          have HB2 : Hid (Below w9.heap.size w9 wd) := below_then HB.out D1.out
          clear D1 HB
          go_wp2_with fail
          go_roundw
          case rel => exact ⟨1, by omega, by go_num, HB2.out⟩
          case measure => simp [intOf]; omega
        obtain ⟨j, rfl⟩ : ∃ j, k = j + 1 := ⟨k - 1, by omega⟩
        obtain ⟨gq, oq, rfl, hcs⟩ := X8.out.cells (by omega)
        have hlj : j + 1 < s.txs.length := by omega
        have e0 : s.txs[j]? = some (s.txs[j]'(by omega)) := List.getElem?_eq_getElem (by omega)
        have e1 : s.txs[j + 1]? = some (s.txs[j + 1]'hlj) := List.getElem?_eq_getElem hlj
        have hup : (s.txs[j]'(by omega)).p < (s.txs[j + 1]'hlj).p := List.pairwise_iff_getElem.1 HUp.out j (j + 1) (by omega) hlj (by omega)
        obtain ⟨-, -, r0, -⟩ := hcs j _ e0
        obtain ⟨-, -, r1, -⟩ := hcs (j + 1) _ e1
        generalize (s.txs[j]'(by omega)).p = x0 at *
        generalize (s.txs[j + 1]'hlj).p = x1 at *
        have HP0 : Hid (∀ W, Below w9.heap.size w9 W → W.cell? ⟨gq, oq + j * 2, none⟩ = some (.int .u64 x0)) := fun W hW => (hW.cell (p := ⟨gq, oq + j * 2, none⟩) (World.block_lt_of_cell? w9 _ r0)).trans r0
        have HP1 : Hid (∀ W, Below w9.heap.size w9 W → W.cell? ⟨gq, oq + (j + 1) * 2, none⟩ = some (.int .u64 x1)) := fun W hW => (hW.cell (p := ⟨gq, oq + (j + 1) * 2, none⟩) (World.block_lt_of_cell? w9 _ r1)).trans r1
        have hge : ¬ x1 ≤ x0 := by omega
        have g0 : (0 : Int) < (j : Int) + 1 := by omega
        have g1 : ((j + 1 : Nat) : Int) = (j : Int) + 1 := by omega
        have g2 : (j : Int) + 1 - 1 = j := by omega
        have g3 : IntKind.i64.wrap (j : Int) = j := wrap_nat j (by omega)
        have g4 : (j : Int) < N := by omega
        have g5 : ((j : Int) + 1).toNat = j + 1 := by omega
        have g6 : (0 : Int) ≤ (j : Int) + 1 := by omega
        have g7 : (j : Int) + 1 < N := by omega
        clear hcs e0 e1 r0 r1 hup
        go_wp2_with fail
        refine wp_region_noPanic ?_
        refine wp_region_held_drew (S := fun w' => Below wr.heap.size wr w') (by kernel_rfl) (below_drawn 1) (fun hHeld => ?_)
        have D1 : Hid (Below wr.heap.size wr wr.drew) := hHeld
        generalize wr.drew = wd at *
        refine wpAnyH_take (i := 0) (v := ?vaq5) (by simp; rfl) (by kernel_rfl) (by kernel_rfl) (by kernel_rfl) (fun _ _ _ h => h) (Or.inl ⟨by rfl, ?yaq5⟩) hHeld ?raq5
        case yaq5 => intro w hSw; clear hSw; go_simp; with_reducible rfl
        simp only [Act.put, List.setIfInBounds_toArray, List.set_cons_zero, List.set_cons_succ]
        refine wpAnyH_take (i := 1) (v := ?vaq6) (by simp; rfl) (by kernel_rfl) (by kernel_rfl) (by kernel_rfl) (fun _ _ _ h => h) (Or.inl ⟨by rfl, ?yaq6⟩) hHeld ?raq6
        case yaq6 => intro w hSw; clear hSw; go_simp; with_reducible rfl
        simp only [Act.put, List.setIfInBounds_toArray, List.set_cons_zero, List.set_cons_succ]
        refine wpAnyH_take (i := 2) (v := ?vaq7) (by simp; rfl) (by kernel_rfl) (by kernel_rfl) (by kernel_rfl) (fun _ _ _ h => h) (Or.inl ⟨by rfl, ?yaq7⟩) hHeld ?raq7
        case yaq7 => intro w hSw; clear hSw; go_simp; with_reducible rfl
        simp only [Act.put, List.setIfInBounds_toArray, List.set_cons_zero, List.set_cons_succ]
        refine wpAnyH_take (i := 3) (v := ?vaq8) (by simp; rfl) (by kernel_rfl) (by kernel_rfl) (by kernel_rfl) (fun _ _ _ h => h) (Or.inl ⟨by rfl, ?yaq8⟩) hHeld ?raq8
        case yaq8 => intro w hSw; clear hSw; go_simp; with_reducible rfl
        simp only [Act.put, List.setIfInBounds_toArray, List.set_cons_zero, List.set_cons_succ]
        refine wpAnyH_take (i := 4) (v := ?vaq9) (by simp; rfl) (by kernel_rfl) (by kernel_rfl) (by kernel_rfl) (fun _ _ _ h => h) (Or.inl ⟨by rfl, ?yaq9⟩) hHeld ?raq9
        case yaq9 => intro w hSw; have z := HM.out _ (below_then HB.out hSw); clear hSw; go_simp; with_reducible rfl
        simp only [Act.put, List.setIfInBounds_toArray, List.set_cons_zero, List.set_cons_succ]
        refine wpAnyH_take (i := 5) (v := ?vaq10) (by simp; rfl) (by kernel_rfl) (by kernel_rfl) (by kernel_rfl) (fun _ _ _ h => h) (Or.inl ⟨by rfl, ?yaq10⟩) hHeld ?raq10
        case yaq10 => intro w hSw; clear hSw; go_simp; with_reducible rfl
        simp only [Act.put, List.setIfInBounds_toArray, List.set_cons_zero, List.set_cons_succ]
        refine wpAnyH_take (i := 6) (v := ?vaq11) (by simp; rfl) (by kernel_rfl) (by kernel_rfl) (by kernel_rfl) (fun _ _ _ h => h) (Or.inl ⟨by rfl, ?yaq11⟩) hHeld ?raq11
        case yaq11 => intro w hSw; clear hSw; go_simp; with_reducible rfl
        simp only [Act.put, List.setIfInBounds_toArray, List.set_cons_zero, List.set_cons_succ]
        refine wpAnyH_take (i := 7) (v := ?vaq12) (by simp; rfl) (by kernel_rfl) (by kernel_rfl) (by kernel_rfl) (fun _ _ _ h => h) (Or.inl ⟨by rfl, ?yaq12⟩) hHeld ?raq12
        case yaq12 => intro w hSw; clear hSw; go_simp; with_reducible rfl
        simp only [Act.put, List.setIfInBounds_toArray, List.set_cons_zero, List.set_cons_succ]
        refine wpAnyH_take (i := 8) (v := ?vaq13) (by simp; rfl) (by kernel_rfl) (by kernel_rfl) (by kernel_rfl) (fun _ _ _ h => h) (Or.inl ⟨by rfl, ?yaq13⟩) hHeld ?raq13
        case yaq13 => intro w hSw; clear hSw; go_simp; with_reducible rfl
        simp only [Act.put, List.setIfInBounds_toArray, List.set_cons_zero, List.set_cons_succ]
        refine wpAnyH_take (i := 9) (v := ?vaq14) (by simp; rfl) (by kernel_rfl) (by kernel_rfl) (by kernel_rfl) (fun _ _ _ h => h) (Or.inl ⟨by rfl, ?yaq14⟩) hHeld ?raq14
        case yaq14 => intro w hSw; have z := HP0.out _ (below_then HB.out hSw); clear hSw; go_simp; with_reducible rfl
        simp only [Act.put, List.setIfInBounds_toArray, List.set_cons_zero, List.set_cons_succ]
        refine wpAnyH_take (i := 10) (v := ?vaq15) (by simp; rfl) (by kernel_rfl) (by kernel_rfl) (by kernel_rfl) (fun _ _ _ h => h) (Or.inl ⟨by rfl, ?yaq15⟩) hHeld ?raq15
        case yaq15 => intro w hSw; clear hSw; go_simp; with_reducible rfl
        simp only [Act.put, List.setIfInBounds_toArray, List.set_cons_zero, List.set_cons_succ]
        refine wpAnyH_take (i := 11) (v := ?vaq16) (by simp; rfl) (by kernel_rfl) (by kernel_rfl) (by kernel_rfl) (fun _ _ _ h => h) (Or.inl ⟨by rfl, ?yaq16⟩) hHeld ?raq16
        case yaq16 => intro w hSw; have z := HM.out _ (below_then HB.out hSw); clear hSw; go_simp; with_reducible rfl
        simp only [Act.put, List.setIfInBounds_toArray, List.set_cons_zero, List.set_cons_succ]
        refine wpAnyH_take (i := 12) (v := ?vaq17) (by simp; rfl) (by kernel_rfl) (by kernel_rfl) (by kernel_rfl) (fun _ _ _ h => h) (Or.inl ⟨by rfl, ?yaq17⟩) hHeld ?raq17
        case yaq17 => intro w hSw; clear hSw; go_simp; with_reducible rfl
        simp only [Act.put, List.setIfInBounds_toArray, List.set_cons_zero, List.set_cons_succ]
        refine wpAnyH_take (i := 13) (v := ?vaq18) (by simp; rfl) (by kernel_rfl) (by kernel_rfl) (by kernel_rfl) (fun _ _ _ h => h) (Or.inl ⟨by rfl, ?yaq18⟩) hHeld ?raq18
        case yaq18 => intro w hSw; clear hSw; go_simp; with_reducible rfl
        simp only [Act.put, List.setIfInBounds_toArray, List.set_cons_zero, List.set_cons_succ]
        refine wpAnyH_take (i := 14) (v := ?vaq19) (by simp; rfl) (by kernel_rfl) (by kernel_rfl) (by kernel_rfl) (fun _ _ _ h => h) (Or.inl ⟨by rfl, ?yaq19⟩) hHeld ?raq19
        case yaq19 => intro w hSw; clear hSw; go_simp; with_reducible rfl
        simp only [Act.put, List.setIfInBounds_toArray, List.set_cons_zero, List.set_cons_succ]
        refine wpAnyH_take (i := 15) (v := ?vaq20) (by simp; rfl) (by kernel_rfl) (by kernel_rfl) (by kernel_rfl) (fun _ _ _ h => h) (Or.inl ⟨by rfl, ?yaq20⟩) hHeld ?raq20
        case yaq20 => intro w hSw; have z := HP1.out _ (below_then HB.out hSw); clear hSw; go_simp; with_reducible rfl
        simp only [Act.put, List.setIfInBounds_toArray, List.set_cons_zero, List.set_cons_succ]
        refine wpAnyH_take (i := 16) (v := ?vaq21) (by simp; rfl) (by kernel_rfl) (by kernel_rfl) (by kernel_rfl) (fun _ _ _ h => h) (Or.inl ⟨by rfl, ?yaq21⟩) hHeld ?raq21
        case yaq21 => intro w hSw; clear hSw; go_simp; with_reducible rfl
        simp only [Act.put, List.setIfInBounds_toArray, List.set_cons_zero, List.set_cons_succ]
        refine wpAnyH_take (i := 17) (v := ?vaq22) (by simp; rfl) (by kernel_rfl) (by kernel_rfl) (by kernel_rfl) (fun _ _ _ h => h) (Or.inl ⟨by rfl, ?yaq22⟩) hHeld ?raq22
        case yaq22 => intro w hSw; clear hSw; go_simp; with_reducible rfl
        simp only [Act.put, List.setIfInBounds_toArray, List.set_cons_zero, List.set_cons_succ]
        clear hHeld
        refine wpAnyH_done (by kernel_rfl) (NoPanic.normal ?_) _
        have HB2 : Hid (Below w9.heap.size w9 wd) := below_then HB.out D1.out
        clear D1 HB
        go_wp2_with fail
        go_roundw
        case rel => exact ⟨j + 1 + 1, by omega, by go_num, HB2.out⟩
        case measure => simp [intOf]; omega
      · obtain rfl : N = k := by omega
        go_wp2_with fail
        refine wp_region_noPanic ?_
        refine wp_region_held_drew (S := fun w' => Below wr.heap.size wr w') (by kernel_rfl) (below_drawn 1) (fun hHeld => ?_)
        have D2 : Hid (Below wr.heap.size wr wr.drew) := hHeld
        generalize wr.drew = wd at *
        refine wpAnyH_take (i := 0) (v := ?vaq23) (by simp; rfl) (by kernel_rfl) (by kernel_rfl) (by kernel_rfl) (fun _ _ _ h => h) (Or.inl ⟨by rfl, ?yaq23⟩) hHeld ?raq23
        case yaq23 => intro w hSw; clear hSw; go_simp; with_reducible rfl
        simp only [Act.put, List.setIfInBounds_toArray, List.set_cons_zero, List.set_cons_succ]
        refine wpAnyH_ready (rs := [1]) (by kernel_rfl) (by simp) ?_
        refine AllReadyH.cons (by simp; rfl) (fun Kc hKc => ?_) AllReadyH.nil
        go_simp
        refine (num_any _ _).mono ?_
        rintro e wn ⟨rfl, rfl⟩
        refine hKc.out _ _ D2.out (fun hHeld => ?_)
        clear hKc Kc
        refine wpAnyH_take (i := 2) (v := ?vaq24) (by simp; rfl) (by kernel_rfl) (by kernel_rfl) (by kernel_rfl) (fun _ _ _ h => h) (Or.inl ⟨by rfl, ?yaq24⟩) hHeld ?raq24
        case yaq24 => intro w hSw; clear hSw; go_simp; with_reducible rfl
        simp only [Act.put, List.setIfInBounds_toArray, List.set_cons_zero, List.set_cons_succ]
        refine wpAnyH_take (i := 3) (v := ?vaq25) (by simp; rfl) (by kernel_rfl) (by kernel_rfl) (by kernel_rfl) (fun _ _ _ h => h) (Or.inl ⟨by rfl, ?yaq25⟩) hHeld ?raq25
        case yaq25 => intro w hSw; clear hSw; go_simp; with_reducible rfl
        simp only [Act.put, List.setIfInBounds_toArray, List.set_cons_zero, List.set_cons_succ]
        refine wpAnyH_take (i := 4) (v := _) (by simp; rfl) (by kernel_rfl) (by kernel_rfl) (by kernel_rfl) (fun _ _ _ h => h) (yieldsIf_load_mid (by rfl) 66 (.tmp 12) rfl w8.heap.size 0 rfl (gcells 0 1 s.fin (.slice q8 N c8)) _ (fun _ h => LAt.range (LAt.later M9.out (below_then HB.out h))) Tryd.underlying66 rfl sizeLg) hHeld ?_
        simp only [Act.put, List.setIfInBounds_toArray, List.set_cons_zero, List.set_cons_succ]
        refine wpAnyH_take (i := 6) (v := _) (by simp; rfl) (by kernel_rfl) (by kernel_rfl) (by kernel_rfl) (fun _ _ _ h => h) (yieldsIf_load_mid (by rfl) 48 (.tmp 7) rfl w2.heap.size 0 rfl (gcells 0 1 s.fin (.slice q N d)) _ (fun _ h => LAt.range (LAt.later W9.out (below_then HB.out h))) Tryd.underlying48 rfl sizeR) hHeld ?_
        simp only [Act.put, List.setIfInBounds_toArray, List.set_cons_zero, List.set_cons_succ]
        refine wpAnyH_ready (rs := [5]) (by kernel_rfl) (by simp) ?_
        refine AllReadyH.cons (by simp; rfl) (fun Kc hKc => ?_) AllReadyH.nil
        go_simp
        refine (plain_any 0 1 s.fin q8 N c8 s.txs _ (X8.out.later (below_then HB.out D2.out)) hwf (by omega) hms).mono ?_
        rintro e wp ⟨qp, dp, vp, rfl, xp, bp⟩
        have D3 : Hid (Below wr.heap.size wr wp) := below_then D2.out bp
        have XP : Hid (XIn wp qp N s.txs) := by
          obtain ⟨a1, a2, a3, a4, -, -⟩ := XOwn.in xp
          rw [hN] at a3 a4
          cases a3
          exact a4
        refine hKc.out _ _ D3.out (fun hHeld => ?_)
        clear hKc Kc xp bp
        refine wpAnyH_ready (rs := [7]) (by kernel_rfl) (by simp) ?_
        refine AllReadyH.cons (by simp; rfl) (fun Kc hKc => ?_) AllReadyH.nil
        go_simp
        refine (same_eq 0 1 s.fin qp q N dp d s.txs wp XP.out (XW.out.later (below_then HB.out D3.out)) (by omega) hms).mono ?_
        rintro e wq ⟨rfl, bq⟩
        have D4 : Hid (Below wr.heap.size wr wq) := below_then D3.out bq
        refine hKc.out _ _ D4.out (fun hHeld => ?_)
        clear hKc Kc bq
        refine wpAnyH_take (i := 8) (v := ?vaq26) (by simp; rfl) (by kernel_rfl) (by kernel_rfl) (by kernel_rfl) (fun _ _ _ h => h) (Or.inl ⟨by rfl, ?yaq26⟩) hHeld ?raq26
        case yaq26 => intro w hSw; clear hSw; go_simp; with_reducible rfl
        simp only [Act.put, List.setIfInBounds_toArray, List.set_cons_zero, List.set_cons_succ]
        refine wpAnyH_take (i := 9) (v := ?vaq27) (by simp; rfl) (by kernel_rfl) (by kernel_rfl) (by kernel_rfl) (fun _ _ _ h => h) (Or.inl ⟨by rfl, ?yaq27⟩) hHeld ?raq27
        case yaq27 => intro w hSw; clear hSw; go_simp; with_reducible rfl
        simp only [Act.put, List.setIfInBounds_toArray, List.set_cons_zero, List.set_cons_succ]
        refine wpAnyH_take (i := 10) (v := ?vaq28) (by simp; rfl) (by kernel_rfl) (by kernel_rfl) (by kernel_rfl) (fun _ _ _ h => h) (Or.inl ⟨by rfl, ?yaq28⟩) hHeld ?raq28
        case yaq28 => intro w hSw; clear hSw; go_simp; with_reducible rfl
        simp only [Act.put, List.setIfInBounds_toArray, List.set_cons_zero, List.set_cons_succ]
        refine wpAnyH_take (i := 11) (v := ?vaq29) (by simp; rfl) (by kernel_rfl) (by kernel_rfl) (by kernel_rfl) (fun _ _ _ h => h) (Or.inl ⟨by rfl, ?yaq29⟩) hHeld ?raq29
        case yaq29 => intro w hSw; have z := HF.out _ (below_then HB.out hSw); clear hSw; go_simp; with_reducible rfl
        simp only [Act.put, List.setIfInBounds_toArray, List.set_cons_zero, List.set_cons_succ]
        refine wpAnyH_take (i := 12) (v := ?vaq30) (by simp; rfl) (by kernel_rfl) (by kernel_rfl) (by kernel_rfl) (fun _ _ _ h => h) (Or.inl ⟨by rfl, ?yaq30⟩) hHeld ?raq30
        case yaq30 => intro w hSw; clear hSw; go_simp; with_reducible rfl
        simp only [Act.put, List.setIfInBounds_toArray, List.set_cons_zero, List.set_cons_succ]
        refine wpAnyH_take (i := 13) (v := ?vaq31) (by simp; rfl) (by kernel_rfl) (by kernel_rfl) (by kernel_rfl) (fun _ _ _ h => h) (Or.inl ⟨by rfl, ?yaq31⟩) hHeld ?raq31
        case yaq31 => intro w hSw; have z := H0.out _ (below_then HB.out hSw); clear hSw; go_simp; with_reducible rfl
        simp only [Act.put, List.setIfInBounds_toArray, List.set_cons_zero, List.set_cons_succ]
        refine wpAnyH_take (i := 14) (v := ?vaq32) (by simp; rfl) (by kernel_rfl) (by kernel_rfl) (by kernel_rfl) (fun _ _ _ h => h) (Or.inl ⟨by rfl, ?yaq32⟩) hHeld ?raq32
        case yaq32 => intro w hSw; clear hSw; go_simp; with_reducible rfl
        simp only [Act.put, List.setIfInBounds_toArray, List.set_cons_zero, List.set_cons_succ]
        refine wpAnyH_take (i := 15) (v := ?vaq33) (by simp; rfl) (by kernel_rfl) (by kernel_rfl) (by kernel_rfl) (fun _ _ _ h => h) (Or.inl ⟨by rfl, ?yaq33⟩) hHeld ?raq33
        case yaq33 => intro w hSw; have z := HL.out _ (below_then HB.out hSw); clear hSw; go_simp; with_reducible rfl
        simp only [Act.put, List.setIfInBounds_toArray, List.set_cons_zero, List.set_cons_succ]
        refine wpAnyH_take (i := 16) (v := ?vaq34) (by simp; rfl) (by kernel_rfl) (by kernel_rfl) (by kernel_rfl) (fun _ _ _ h => h) (Or.inl ⟨by rfl, ?yaq34⟩) hHeld ?raq34
        case yaq34 => intro w hSw; clear hSw; go_simp; with_reducible rfl
        simp only [Act.put, List.setIfInBounds_toArray, List.set_cons_zero, List.set_cons_succ]
        refine wpAnyH_take (i := 17) (v := ?vaq35) (by simp; rfl) (by kernel_rfl) (by kernel_rfl) (by kernel_rfl) (fun _ _ _ h => h) (Or.inl ⟨by rfl, ?yaq35⟩) hHeld ?raq35
        case yaq35 => intro w hSw; clear hSw; go_simp; with_reducible rfl
        simp only [Act.put, List.setIfInBounds_toArray, List.set_cons_zero, List.set_cons_succ]
        refine wpAnyH_take (i := 18) (v := ?vaq36) (by simp; rfl) (by kernel_rfl) (by kernel_rfl) (by kernel_rfl) (fun _ _ _ h => h) (Or.inl ⟨by rfl, ?yaq36⟩) hHeld ?raq36
        case yaq36 => intro w hSw; clear hSw; go_simp; with_reducible rfl
        simp only [Act.put, List.setIfInBounds_toArray, List.set_cons_zero, List.set_cons_succ]
        refine wpAnyH_take (i := 19) (v := ?vaq37) (by simp; rfl) (by kernel_rfl) (by kernel_rfl) (by kernel_rfl) (fun _ _ _ h => h) (Or.inl ⟨by rfl, ?yaq37⟩) hHeld ?raq37
        case yaq37 => intro w hSw; clear hSw; go_simp; with_reducible rfl
        simp only [Act.put, List.setIfInBounds_toArray, List.set_cons_zero, List.set_cons_succ]
        refine wpAnyH_take (i := 20) (v := ?vaq38) (by simp; rfl) (by kernel_rfl) (by kernel_rfl) (by kernel_rfl) (fun _ _ _ h => h) (Or.inl ⟨by rfl, ?yaq38⟩) hHeld ?raq38
        case yaq38 => intro w hSw; clear hSw; go_simp; with_reducible rfl
        simp only [Act.put, List.setIfInBounds_toArray, List.set_cons_zero, List.set_cons_succ]
        refine wpAnyH_take (i := 21) (v := ?vaq39) (by simp; rfl) (by kernel_rfl) (by kernel_rfl) (by kernel_rfl) (fun _ _ _ h => h) (Or.inl ⟨by rfl, ?yaq39⟩) hHeld ?raq39
        case yaq39 => intro w hSw; clear hSw; go_simp; with_reducible rfl
        simp only [Act.put, List.setIfInBounds_toArray, List.set_cons_zero, List.set_cons_succ]
        refine wpAnyH_take (i := 22) (v := ?vaq40) (by simp; rfl) (by kernel_rfl) (by kernel_rfl) (by kernel_rfl) (fun _ _ _ h => h) (Or.inl ⟨by rfl, ?yaq40⟩) hHeld ?raq40
        case yaq40 => intro w hSw; have z := HM.out _ (below_then HB.out hSw); clear hSw; go_simp; with_reducible rfl
        simp only [Act.put, List.setIfInBounds_toArray, List.set_cons_zero, List.set_cons_succ]
        refine wpAnyH_take (i := 23) (v := ?vaq41) (by simp; rfl) (by kernel_rfl) (by kernel_rfl) (by kernel_rfl) (fun _ _ _ h => h) (Or.inl ⟨by rfl, ?yaq41⟩) hHeld ?raq41
        case yaq41 => intro w hSw; clear hSw; go_simp; with_reducible rfl
        simp only [Act.put, List.setIfInBounds_toArray, List.set_cons_zero, List.set_cons_succ]
        refine wpAnyH_take (i := 24) (v := ?vaq42) (by simp; rfl) (by kernel_rfl) (by kernel_rfl) (by kernel_rfl) (fun _ _ _ h => h) (Or.inl ⟨by rfl, ?yaq42⟩) hHeld ?raq42
        case yaq42 => intro w hSw; clear hSw; go_simp; with_reducible rfl
        simp only [Act.put, List.setIfInBounds_toArray, List.set_cons_zero, List.set_cons_succ]
        refine wpAnyH_take (i := 25) (v := ?vaq43) (by simp; rfl) (by kernel_rfl) (by kernel_rfl) (by kernel_rfl) (fun _ _ _ h => h) (Or.inl ⟨by rfl, ?yaq43⟩) hHeld ?raq43
        case yaq43 => intro w hSw; have z := HL.out _ (below_then HB.out hSw); clear hSw; go_simp; with_reducible rfl
        simp only [Act.put, List.setIfInBounds_toArray, List.set_cons_zero, List.set_cons_succ]
        refine wpAnyH_take (i := 26) (v := ?vaq44) (by simp; rfl) (by kernel_rfl) (by kernel_rfl) (by kernel_rfl) (fun _ _ _ h => h) (Or.inl ⟨by rfl, ?yaq44⟩) hHeld ?raq44
        case yaq44 => intro w hSw; clear hSw; go_simp; with_reducible rfl
        simp only [Act.put, List.setIfInBounds_toArray, List.set_cons_zero, List.set_cons_succ]
        refine wpAnyH_take (i := 27) (v := ?vaq45) (by simp; rfl) (by kernel_rfl) (by kernel_rfl) (by kernel_rfl) (fun _ _ _ h => h) (Or.inl ⟨by rfl, ?yaq45⟩) hHeld ?raq45
        case yaq45 => intro w hSw; clear hSw; go_simp; with_reducible rfl
        simp only [Act.put, List.setIfInBounds_toArray, List.set_cons_zero, List.set_cons_succ]
        refine wpAnyH_take (i := 28) (v := ?vaq46) (by simp; rfl) (by kernel_rfl) (by kernel_rfl) (by kernel_rfl) (fun _ _ _ h => h) (Or.inl ⟨by rfl, ?yaq46⟩) hHeld ?raq46
        case yaq46 => intro w hSw; clear hSw; go_simp; with_reducible rfl
        simp only [Act.put, List.setIfInBounds_toArray, List.set_cons_zero, List.set_cons_succ]
        clear hHeld
        refine wpAnyH_done (by kernel_rfl) (NoPanic.normal ?_) _
        have FF : Hid (Below w.heap.size w wq) := below_then B9.out (below_then HB.out D4.out)
        clear D2 D3 D4
        go_wp2_with fail
        go_ret
        exact ⟨rfl, FF.out⟩
end Go.Proofs.YtefnkjajjidfaaaDoor
