/-
  The laws' own: told.
-/
import Derived.Test.YtefnkjajjidfaaaDoorEp
import Derived.BigQuiet
import Derived.Deep.RegionHeld3
namespace Go.Proofs.YtefnkjajjidfaaaDoor
open Go.RowKit


section
variable {P : Program} {ops : Array Oper} {o : Oper} {a : Act} {w w' : World} {Q : Exit → Act → World → Prop} {K : Act → World → Prop}
theorem sq_store (hgd : Region.wanted o (yielded ops a.tmps) = true) (ty : TypeId) {x y : Operand} (ho : o.op = .store ty x y) {p v : Value} (hx : a.eval x = p) (hy : a.eval y = v) (hrun : (Instr.storeAt ty p v).run P w = .ok () w') (h : K (a.put o.dst undef) w') : if Region.wanted o (yielded ops a.tmps) = true then Oper.wp P o a w K Q else K (a.put o.dst undef) w := by
  rw [if_pos hgd]
  unfold Oper.wp
  have e : (execOp a.eval o).run P w = .ok .skip w' := by unfold execOp; simp only [ho, hx, hy, Sem.run_bind, hrun, Result.andThen_ok, Sem.run_pure]
  rw [e]
  exact h
end
theorem wrap_two {f n : Nat} (hf : f ≤ 13) (hn : n ≤ 6) : IntKind.i64.wrap (IntKind.i64.wrap ((f : Int) + (n : Int)) + 1) = (f : Int) + n + 1 := by
  rw [IntKind.wrap_i64, IntKind.wrap_i64]; omega
theorem lused0 {w W W' : World} {Bs Br Bc Bw B L p : Nat} {stl : List Value} {c : Sup} {g : Lg} {ws : List Wr} {al : List R.Rec} {s : Sc} {v : Value} {vs : List Value} (h : TS w W Bs Br Bc Bw B L p stl c g ws al s v vs) (hb : Below W.heap.size W W') : Calls Tryd.prog 13 #[.pointer (some ⟨L, 0, none⟩)] W' fun e w' => e = .returned (.int .i64 (al.length : Int)) ∧ W' = w' := by
  refine (lused_at (LAt.later h.lb.log hb) h.sty.ok).mono ?_
  rintro e w' ⟨rfl, rfl⟩
  refine ⟨?_, rfl⟩
  rw [h.sty.gt, h.sty.fin_is.1]
  simp
theorem Sty.more {c : Sup} {g : Lg} {ws : List Wr} {al : List R.Rec} {s : Sc} (h : Sty c g ws al s) (hl : (al.length : Int) < c.lc) : moreS g = 0 := by
  have h1 := h.fin_is.1; have h2 := h.mc.2.1
  refine moreS_ok (by omega) ?_
  rw [h.gt, h.gc]; omega
theorem TS.told {w W : World} {Bs Br Bc Bw B L p : Nat} {stl : List Value} {c : Sup} {g : Lg} {ws : List Wr} {al : List R.Rec} {s : Sc} {v : Value} {vs : List Value} (h : TS w W Bs Br Bc Bw B L p stl c g ws al s v vs) :
    LAt 48 (W.setRow Br (gcells 0 1 s.fin v).toArray) Br (gcells 0 1 s.fin v) ∧ LB (W.setRow Br (gcells 0 1 s.fin v).toArray) B L p (newS c) ws g ∧ Sty c g ws al s ∧ ws.length = al.length ∧ XOwn 28 (W.setRow Br (gcells 0 1 s.fin v).toArray) w.heap.size v s.txs vs ∧ w.heap.size ≤ B ∧ Below w.heap.size w (W.setRow Br (gcells 0 1 s.fin v).toArray) := by
  refine ⟨LAt.stored h.rs _, ?_, h.sty, h.wl, ?_, h.b0, below_setRow h.low h.r0 _⟩
  · refine h.lb.side (T := fun k => k = Br) ⟨rfl, rfl, rfl, by rw [size_setRow]; exact Nat.le_refl _, fun k _ hk => setRow_other W Br k _ hk⟩ fun k hk _ => ?_
    subst hk
    exact ⟨_, _, _, by decide, h.rs⟩
  · refine h.tx.kept (grownBy_setRow W Br _) (.inr (lat_not_row h.rs (by decide) h.tx.row)) fun u hu => ?_
    obtain ⟨j, hj, rfl⟩ := List.getElem_of_mem hu
    have hj' : j < s.txs.length := by rw [← h.tx.len]; exact hj
    exact .inr (lat_not_row h.rs (by decide) (h.tx.each j s.txs[j] vs[j] (List.getElem?_eq_getElem hj') (List.getElem?_eq_getElem hj)))
theorem results_told {fn : Func} {a b p u : Tmp} {ty : TypeId} (h : fn.results = #[.tmp a, .tmp b, .cell p ty, .tmp u]) (tmps : Array Value) (w : World) (g : Nat) (t : TypeId) (cs : List Value) (d : TypeDesc)
    (hp : tmps.getD p undef = .pointer (some ⟨g, 0, none⟩)) (hg : LAt t w g cs) (hu : Tryd.prog.underlying ty = some d) (hd : d.isRow = true) (hi : (Tryd.prog.info? ty).map (·.size) = some cs.length) :
    (results fn tmps).run Tryd.prog w = .ok (.tuple #[tmps.getD a undef, tmps.getD b undef, .agg cs.toArray, tmps.getD u undef]) w := by
  have hl := run_loadVar_mid w g 0 ty _ d (LAt.range hg) hu hd hi
  rw [Array.getD_eq_getD_getElem?] at hp
  simp only [results, h]
  simp [Result.andThen, hp, asAddr, hl]
/-- numbers of 16 bits that can be read -/
structure UIn (w : World) (p : Option Addr) (n : Nat) (l : List Int) : Prop where
  len : l.length = n
  cells : 0 < n → ∃ b o, p = some ⟨b, o, none⟩ ∧ ∀ (k : Nat) (x : Int), l[k]? = some x → w.cell? ⟨b, o + k, none⟩ = some (.int .u16 x)
  bd : ∀ x ∈ l, 0 ≤ x ∧ x < 65536
theorem UIn.later {w w' : World} {p : Option Addr} {n : Nat} {l : List Int} (h : UIn w p n l) (hb : Below w.heap.size w w') : UIn w' p n l :=
  ⟨h.len, fun h0 => by
    obtain ⟨b, o, e, hc⟩ := h.cells h0
    exact ⟨b, o, e, fun k x hk => (World.cell?_of_block (a := ⟨b, o + k, none⟩) (hb.block b (World.block_lt_of_cell? w _ (hc k x hk)))).trans (hc k x hk)⟩, h.bd⟩
theorem stc_range {t : TypeId} {w : World} {g : Nat} {c : Sup} {ps : Option Addr} {n cs : Nat} {sd : Int} {op : Bool} {pl : Option Addr} {m cl : Nat} (h : LAt t w g (stc c ps n cs sd op pl m cl)) : (Instr.loadAt 39 (.pointer (some ⟨g, 0, none⟩))).run Tryd.prog w = .ok (.agg (ccells c).toArray) w := by
  refine run_loadAt_mid w g 0 39 (ccells c) _ (fun j v hv => ?_) Tryd.underlying39 rfl (by rw [size23, ccells_len])
  rw [Nat.zero_add, LAt.cell h j]
  have hj := (List.getElem?_eq_some_iff.1 hv).1
  unfold stc
  rw [List.getElem?_append_left hj]; exact hv
/-- images that rise -/
def RiseI (l : List Im) : Prop := (blks l).Pairwise (· < ·)
theorem RiseI.snoc {l : List Im} (h : RiseI l) {i : Im} (hi : ∀ x ∈ l, x.b < i.b) : RiseI (l ++ [i]) := by
  unfold RiseI blks
  rw [List.map_append]
  refine List.pairwise_append.2 ⟨h, List.pairwise_singleton _ _, fun x hx y hy => ?_⟩
  obtain ⟨z, hz, rfl⟩ := List.mem_map.1 hx
  rw [List.mem_singleton.1 hy]
  exact hi z hz
theorem RiseI.last {l : List Im} (h : RiseI l) {j : Nat} {i : Im} (hj : l[j]? = some i) (h0 : (l.take j).length ≠ 0) : lastB (l.take j) < i.b := by
  have hjl := (List.getElem?_eq_some_iff.1 hj).1
  have hlj : (l.take j).length = j := by rw [List.length_take]; omega
  have h0' : 0 < j := by omega
  obtain ⟨x, hx⟩ : ∃ x, l[j - 1]? = some x := ⟨_, List.getElem?_eq_getElem (by omega)⟩
  have e : lastB (l.take j) = x.b := by
    unfold lastB
    rw [hlj, List.getD, List.getElem?_take, if_pos (by omega), hx]; rfl
  rw [e]
  have hp := List.pairwise_iff_getElem.1 h (j - 1) j (by simp; omega) (by simpa using hjl) (by omega)
  simp only [List.getElem_map] at hp
  obtain ⟨_, e1⟩ := List.getElem?_eq_some_iff.1 hx
  obtain ⟨_, e2⟩ := List.getElem?_eq_some_iff.1 hj
  rw [e1, e2] at hp
  exact hp
theorem bytes3 {x y : Int} (hx : 0 ≤ x ∧ x < 256) (hy : 0 ≤ y ∧ y < 256) : Bytes (x :: y :: 3 :: zs 29) := Bytes.cons hx (Bytes.cons hy (Bytes.cons (by omega) (zs_bytes 29)))
set_option maxHeartbeats 8000000 in
set_option maxRecDepth 100000 in
theorem told_any (s0 : Sup) (ps : Option Addr) (n cs : Nat) (sets : List Int) (sd : Int) (op : Bool) (pl : Option Addr) (m cl : Nat) (w : World) (ht : Tab w) (hS : UIn w ps n sets) (hn : n ≤ 140737488355328) :
    Calls Tryd.prog 11 #[.agg (stc s0 ps n cs sd op pl m cl).toArray] w fun e w' => ∃ p L q d vs B g ws al s, e = .returned (.tuple #[.pointer (some ⟨p, 0, none⟩), .pointer (some ⟨L, 0, none⟩), .agg (gcells 0 1 s.fin (.slice q s.txs.length d)).toArray, .bool true]) ∧ LB w' B L p (newS (cfgS s0)) ws g ∧ Sty (cfgS s0) g ws al s ∧ ws.length = al.length ∧ XOwn 28 w' w.heap.size (.slice q s.txs.length d) s.txs vs ∧ w.heap.size ≤ B ∧ Below w.heap.size w w' := by
  have HT : Hid (Tab w) := ht
  have HU : Hid (UIn w ps n sets) := hS
  have HC : Hid (MayC (cfgS s0)) := cfgS_may s0
  have hsl := hS.len
  obtain ⟨wa, hwa⟩ : ∃ y, y = w.alloc (.cells (stc s0 ps n cs sd op pl m cl).toArray 43) := ⟨_, rfl⟩
  obtain ⟨wb, hwb⟩ : ∃ y, y = wa.alloc (.cells (gcells 0 0 0 (.slice none 0 0)).toArray 48) := ⟨_, rfl⟩
  have ewa := hwa.symm
  have sa : wa.heap.size = w.heap.size + 1 := by rw [hwa]; simp
  have A1 : Hid (_) := allocR wa
  rw [← hwb, sa] at A1
  have bwa : Below w.heap.size w wa := by rw [hwa]; exact below_alloc w _
  have bab : Below wa.heap.size wa wb := by rw [hwb]; exact below_alloc wa _
  have S0 : LAt 43 wb w.heap.size (stc s0 ps n cs sd op pl m cl) := by
    refine LAt.later ?_ bab
    rw [hwa]; exact LAt.new 43 w _
  have R0 : LAt 48 wb (w.heap.size + 1) (gcells 0 0 0 (.slice none 0 0)) := by rw [hwb, ← sa]; exact LAt.new 48 wa _
  have L0 : Hid (_) := stc_range S0
  have B0 : Below w.heap.size w wb := below_then bwa bab
  clear hwa hwb bwa bab ht hS
  go_enter Tryd.func11, Tryd.ntmps11
  go_wp2_with ((with_reducible refine at_ops ?_); (first | (refine wpList_alloc_is (by rfl) 48 rfl A1.out ?_) | (refine wpList_load_is (by rfl) 39 rfl rfl L0.out ?_)); simp only [Act.put, List.setIfInBounds_toArray, List.set_cons_zero, List.set_cons_succ])
  refine (config10_any s0 wb).mono ?_
  rintro e w1 ⟨rfl, b1⟩
  clear A1 L0 ewa
  have A2 : Hid (_) := alloc23 w1
  have T2 : Hid (_) := store_new23 w1 (cfgS s0)
  obtain ⟨w2, hw2⟩ : ∃ y, y = w1.alloc (.cells (ccells (cfgS s0)).toArray 39) := ⟨_, rfl⟩
  rw [← hw2] at T2
  have s2 : w2.heap.size = w1.heap.size + 1 := by rw [hw2]; simp
  have b2 : Below w1.heap.size w1 w2 := by rw [hw2]; exact below_alloc w1 _
  have C2 : CAt w2 w1.heap.size (cfgS s0) := by rw [hw2]; exact LAt.new 39 w1 _
  have U3 : Hid (_) := buildR1 w2 1
  have A3 : Hid (_) := allocR w2
  have T3 : Hid (_) := store_newR w2 0 1 0 (v := .slice none 0 0) rfl
  obtain ⟨w3, hw3⟩ : ∃ y, y = w2.alloc (.cells (gcells 0 1 0 (.slice none 0 0)).toArray 48) := ⟨_, rfl⟩
  rw [← hw3, s2] at T3
  rw [s2] at A3
  have s3 : w3.heap.size = w1.heap.size + 1 + 1 := by rw [hw3, ← s2]; simp
  have b3 : Below w2.heap.size w2 w3 := by rw [hw3]; exact below_alloc w2 _
  have W3 : LAt 48 w3 (w1.heap.size + 1) (gcells 0 1 0 (.slice none 0 0)) := by rw [hw3, ← s2]; exact LAt.new 48 w2 _
  have C3 : CAt w3 w1.heap.size (cfgS s0) := LAt.later C2 b3
  have L3 : Hid (_) := CAt.load23 C3
  have bb3 : Below wb.heap.size wb w3 := below_then b1 (below_then b2 b3)
  have B3 : Below w.heap.size w w3 := below_then B0 bb3
  have S3 := LAt.later S0 bb3
  have R3 := LAt.later R0 bb3
  have hb1 : w.heap.size + 2 ≤ w1.heap.size := by have := LAt.lt R0; have := b1.size; omega
  clear hw2 hw3 b2 b3 C2 b1
  go_wp2_with ((with_reducible refine at_ops ?_); (first | (refine wpList_alloc_is (by rfl) 39 rfl A2.out ?_) | (refine wpList_store_is (by rfl) 39 rfl rfl rfl T2.out ?_) | (refine wpList_build_is (vs := [(1, .int .u64 1)]) (by rfl) 48 rfl (by rfl) U3.out ?_) | (refine wpList_alloc_is (by rfl) 48 rfl A3.out ?_) | (refine wpList_store_is (by rfl) 48 rfl rfl rfl T3.out ?_) | (refine wpList_load_is (by rfl) 39 rfl rfl L3.out ?_)); simp only [Act.put, List.setIfInBounds_toArray, List.set_cons_zero, List.set_cons_succ])
  refine (hnew_good (cfgS s0) HC.out w3 (HT.out.later B3)).mono ?_
  rintro e w4 ⟨p, rfl, d4, b4⟩
  have C4 := LAt.later C3 b4
  have L4 : Hid (_) := CAt.load23 C4
  have hop : opnS (cfgS s0) (cntS (cfgS s0) : Nat) 0 1 = 0 := opnS_ok HC.out (cntS_is HC.out) (by omega) (by omega)
  clear A2 T2 U3 A3 T3 L3
  go_wp2_with (first | (go_at_call 15; refine (num_any _ _).mono ?_; rintro e wn ⟨rfl, rfl⟩) | ((with_reducible refine at_ops ?_); (refine wpList_load_is (by rfl) 39 rfl rfl L4.out ?_); simp only [Act.put, List.setIfInBounds_toArray, List.set_cons_zero, List.set_cons_succ]))
  refine (open_ok (cfgS s0) 0 1 (by omega) (by omega) d4 hop).mono ?_
  rintro e w5 ⟨L, rfl, hL, l5, b5⟩
  have b35 : Below w3.heap.size w3 w5 := below_then b4 b5
  have s34 := b4.size
  have TS5 : Hid (TS w w5 w.heap.size (w.heap.size + 1) w1.heap.size (w1.heap.size + 1) (w1.heap.size + 1 + 1) L p (stc s0 ps n cs sd op pl m cl) (cfgS s0) (opnG (cfgS s0) 0 1) [] [] ⟨[], 0, []⟩ (.slice none 0 0) []) := by
    refine ⟨LAt.later S3 b35, LAt.later R3 b35, LAt.later C3 b35, LAt.later W3 b35, XOwn.nil _ _ _, ?_, Sty.start HC.out, rfl, below_then B3 b35, by omega, by omega, by omega, by omega⟩
    exact l5.mono fun k _ hk => hk.elim (fun h => by show _ ≤ k; omega) (fun h => by show _ ≤ k; omega)
  clear d4 b4 b5 l5 L4 C4 S3 R3 C3 W3 B3 B0 S0 R0 bb3 b35 hop
  go_wp2_with (go_at_call 15; refine (num_any _ _).mono ?_; rintro e wn ⟨rfl, rfl⟩)
  obtain ⟨bl, hbl⟩ : ∃ bl : Nat, (cfgS s0).bl = bl := ⟨(cfgS s0).bl.toNat, by have := HC.out.1; omega⟩
  obtain ⟨mr, hmr⟩ : ∃ mr : Nat, (cfgS s0).mr = mr := ⟨(cfgS s0).mr.toNat, by have := HC.out.2.2.1; omega⟩
  obtain ⟨lc, hlc⟩ : ∃ lc : Nat, (cfgS s0).lc = lc := ⟨(cfgS s0).lc.toNat, by have := HC.out.2.1; omega⟩
  have hbl6 : bl ≤ 6 := by have := (cfgS_small s0).2; omega
  have hmrl : mr ≤ bl := by have := HC.out.2.2.1; omega
  have hlc13 : lc ≤ 13 := by have := (cfgS_small s0).1; omega
  clear hb1 s2 s3 s34 hL sa
  go_loopw [12] (fun i wr => ∃ k : Nat, k ≤ n ∧ i = .int .i64 k ∧ Hid (∃ g ws al s v vs, TS w wr w.heap.size (w.heap.size + 1) w1.heap.size (w1.heap.size + 1) (w1.heap.size + 1 + 1) L p (stc s0 ps n cs sd op pl m cl) (cfgS s0) g ws al s v vs ∧ s.come = [])) (fun i _ => n - (intOf i).toNat)
  case atStart => exact ⟨0, Nat.zero_le _, rfl, _, _, _, _, _, _, TS5.out, rfl⟩
  case round =>
    obtain ⟨k, hk, rfl, HI⟩ := hrel
    obtain ⟨wo, hwo⟩ : ∃ wo, wo = wr := ⟨_, rfl⟩
    subst hwo
    obtain ⟨g, ws, al, s, v, vs, hts, hcome⟩ := HI.out
    clear HI TS5
    have c5 : wo.cell? ⟨w.heap.size, 5, none⟩ = some (.slice ps n cs) := LAt.cell hts.st 5
    have TR : Hid (TS w wo w.heap.size (w.heap.size + 1) w1.heap.size (w1.heap.size + 1) (w1.heap.size + 1 + 1) L p (stc s0 ps n cs sd op pl m cl) (cfgS s0) g ws al s v vs) := hts
    by_cases hlt : k < n
    · obtain ⟨x, hx⟩ : ∃ x, sets[k]? = some x := ⟨_, List.getElem?_eq_getElem (by omega)⟩
      clear hts
      go_wp2_with fail
      go_loopw [13, 14] (fun vi ib wr2 => ∃ (b : Nat) (ims : List Im), b ≤ bl ∧ ib = .int .i64 b ∧ Hid (IOwn wr2 wo.heap.size vi ims ∧ RiseI ims ∧ (∀ i ∈ ims, 0 ≤ i.b ∧ i.b < b) ∧ ImsWf ims ∧ ims.length ≤ mr ∧ Below wo.heap.size wo wr2)) (fun _ ib _ => bl - (intOf ib).toNat)
      case atStart => exact ⟨0, [], Nat.zero_le _, rfl, World.ownsRow_nil _ _ _ _, List.Pairwise.nil, fun i h => (by cases h), ImsWf.nil, Nat.zero_le _, Below.refl _ _⟩
      case round =>
        obtain ⟨b, ims, hb, rfl, HJ⟩ := hrel
        obtain ⟨i1, i2, i3, i4, i5, i6⟩ := HJ.out
        clear HJ
        obtain ⟨q13, c13, rfl, m13, m13a, m13b⟩ := IOwn.in i1 i4
        have T2' := TR.out.later i6
        have f0 := CAt.c0 T2'.cf
        have f2 := CAt.c2 T2'.cf
        rw [hbl] at f0
        rw [hmr] at f2
        have k5 : wr.cell? ⟨w.heap.size, 5, none⟩ = some (.slice ps n cs) := LAt.cell T2'.st 5
        have k6 : wr.cell? ⟨w.heap.size, 6, none⟩ = some (.int .u8 sd) := LAt.cell T2'.st 6
        by_cases hbl' : b < bl
        · by_cases hml : ims.length < mr
          · obtain ⟨gs, os, rfl, hcs⟩ := (HU.out.later T2'.low).cells (by omega)
            have kx := hcs k x hx
            clear hcs T2'
            cases hbit : (bits BinOp.and IntKind.u16 (x / 2 ^ b) 1 == 1) with
            | true =>
              have hxv : (((sd + (k : Int)) % 256) :: (b : Int) :: 3 :: zs 29).length = 32 := rfl
              have VB : Hid (_) := buildV3 wr ((sd + (k : Int)) % 256) (b : Int) 3
              have UI : Hid (_) := buildI wr (b : Int) (((sd + (k : Int)) % 256) :: (b : Int) :: 3 :: zs 29) hxv
              have SL : Hid (_) := build_im wr ⟨(b : Int), ((sd + (k : Int)) % 256) :: (b : Int) :: 3 :: zs 29⟩ hxv
              obtain ⟨i0, hi0, hz0, hz1, hz2⟩ := info_parts infoI
              have h65 : (65 : Nat) ≤ maxLen := by decide
              obtain ⟨v4, w4', hrun4, own4, grow4, -⟩ := run_append_own (P := Tryd.prog) (wr.alloc (.cells (icells ⟨(b : Int), ((sd + (k : Int)) % 256) :: (b : Int) :: 3 :: zs 29⟩).toArray 32)) wo.heap.size 26 26 32 i0 _ 33 40 Tryd.underlying26 hi0 hz0 hz1 hz2 rfl (by decide) _ ims.length (IC ims) (i1.alloc _) ⟨wr.heap.size, 0, none⟩ 1 1 (icells ⟨(b : Int), ((sd + (k : Int)) % 256) :: (b : Int) :: 3 :: zs 29⟩) (by rw [icells_len hxv]) (fun j u hu => by
                rw [Addr.add_mid, Nat.zero_add, LAt.cell (LAt.new 32 wr (icells ⟨(b : Int), ((sd + (k : Int)) % 256) :: (b : Int) :: 3 :: zs 29⟩)) j]; exact hu) (icells_ones _) (by omega) (by omega) (by have := i6.size; simp; omega)
              have AP4 : Hid (_) := hrun4
              have F4 : Hid (IOwn w4' wo.heap.size v4 (ims ++ [⟨(b : Int), ((sd + (k : Int)) % 256) :: (b : Int) :: 3 :: zs 29⟩]) ∧ RiseI (ims ++ [⟨(b : Int), ((sd + (k : Int)) % 256) :: (b : Int) :: 3 :: zs 29⟩]) ∧ (∀ i ∈ ims ++ [(⟨(b : Int), ((sd + (k : Int)) % 256) :: (b : Int) :: 3 :: zs 29⟩ : Im)], 0 ≤ i.b ∧ i.b < ((b + 1 : Nat) : Int)) ∧ ImsWf (ims ++ [⟨(b : Int), ((sd + (k : Int)) % 256) :: (b : Int) :: 3 :: zs 29⟩]) ∧ (ims ++ [(⟨(b : Int), ((sd + (k : Int)) % 256) :: (b : Int) :: 3 :: zs 29⟩ : Im)]).length ≤ mr ∧ Below wo.heap.size wo w4') := by
                refine ⟨?_, i2.snoc (fun x hx => (i3 x hx).2), fun i hi => ?_, i4.snoc ⟨⟨by show (-9223372036854775808 : Int) ≤ b; omega, by show (b : Int) ≤ _; omega⟩, hxv, bytes3 (by omega) (by omega)⟩, by rw [List.length_append, List.length_singleton]; omega, ?_⟩
                · rw [IOwn, IC_snoc, List.length_append, List.length_singleton]; exact own4
                · rcases List.mem_append.1 hi with hi | hi
                  · have := i3 i hi; omega
                  · rw [List.mem_singleton.1 hi]; show (0 : Int) ≤ b ∧ (b : Int) < ((b + 1 : Nat) : Int); omega
                · exact (i6.alloc i6.size _).grown grow4 (by have := i6.size; simp; omega) fun j ej => (i1.lt j ej).1
              clear hrun4 own4 grow4 i1 i2 i3 i4 i5 i6 m13
              go_wp2_with ((with_reducible refine at_ops ?_); (first | (refine wpList_build_is (vs := [(0, .int .u8 ((sd + (k : Int)) % 256)), (1, .int .u8 (b : Int)), (2, .int .u8 3)]) (by rfl) 30 rfl (by rfl) VB.out ?_) | (refine wpList_build_is (vs := [(0, .int .i64 (b : Int)), (1, .agg (U8 (((sd + (k : Int)) % 256) :: (b : Int) :: 3 :: zs 29)).toArray)]) (by rfl) 32 rfl (by rfl) UI.out ?_) | (refine wpList_slice_is (u := .agg (icells ⟨(b : Int), ((sd + (k : Int)) % 256) :: (b : Int) :: 3 :: zs 29⟩).toArray) (by rfl) 26 rfl rfl SL.out ?_) | (refine wpList_append_is (u1 := .slice q13 ims.length c13) (u2 := .slice (some ⟨wr.heap.size, 0, none⟩) 1 1) (by rfl) rfl rfl rfl rfl AP4.out ?_)); simp only [Act.put, List.setIfInBounds_toArray, List.set_cons_zero, List.set_cons_succ])
              go_roundw
              case rel => exact ⟨b + 1, _, by omega, by go_num, F4.out⟩
              case measure => simp [intOf]; omega
            | false =>
              have F4 : Hid (IOwn wr wo.heap.size (.slice q13 ims.length c13) ims ∧ RiseI ims ∧ (∀ i ∈ ims, 0 ≤ i.b ∧ i.b < ((b + 1 : Nat) : Int)) ∧ ImsWf ims ∧ ims.length ≤ mr ∧ Below wo.heap.size wo wr) := ⟨i1, i2, fun i hi => by have := i3 i hi; omega, i4, i5, i6⟩
              clear i1 i2 i3 i4 i5 i6 m13
              go_wp2_with fail
              go_roundw
              case rel => exact ⟨b + 1, _, by omega, by go_num, F4.out⟩
              case measure => simp [intOf]; omega
          · clear m13
            have TU : Hid (TS w wr w.heap.size (w.heap.size + 1) w1.heap.size (w1.heap.size + 1) (w1.heap.size + 1 + 1) L p (stc s0 ps n cs sd op pl m cl) (cfgS s0) g ws al s v vs) := T2'
            have O2 : Hid (IOwn wr wo.heap.size (.slice q13 ims.length c13) ims) := i1
            have hwo : w.heap.size ≤ wo.heap.size := TR.out.low.size
            have hwr : wo.heap.size ≤ wr.heap.size := i6.size
            have hfl := T2'.sty.fin_is
            have hl0 : al.length ≤ 13 := by omega
            obtain ⟨f, hf⟩ : ∃ f : Nat, al.length = f := ⟨_, rfl⟩
            rw [hf] at hl0
            have hil : ims.length ≤ 6 := by omega
            obtain ⟨wv, hwv⟩ : ∃ wv, wv = wr := ⟨_, rfl⟩
            subst hwv
            have HLC : Hid (∀ W, Below wv.heap.size wv W → W.cell? ⟨w1.heap.size, 1, none⟩ = some (.int .i64 (lc : Int))) := fun W hW => by rw [← hlc]; exact CAt.c1 (LAt.later TU.out.cf hW)
            clear T2' i1 hfl
            go_wp2_with fail
            clear f0 f2 k5 k6
            refine wp_region_noPanic ?_
            refine wp_region_held_drew (S := fun w' => Below wv.heap.size wv w') (by kernel_rfl) (below_drawn 1) (fun hHeld => ?_)
            have D1 : Hid (Below wv.heap.size wv wv.drew) := hHeld
            generalize wv.drew = wu at *
            refine wpAnyH_take (i := 0) (v := ?va1) (by simp; rfl) (by kernel_rfl) (by kernel_rfl) (by kernel_rfl) (fun _ _ _ h => h) (Or.inl ⟨by rfl, ?ya1⟩) hHeld ?ra1
            case ya1 => intro w hSw; clear hSw; go_simp; with_reducible rfl
            simp only [Act.put, List.setIfInBounds_toArray, List.set_cons_zero, List.set_cons_succ]
            refine wpAnyH_take (i := 2) (v := ?va2) (by simp; rfl) (by kernel_rfl) (by kernel_rfl) (by kernel_rfl) (fun _ _ _ h => h) (Or.inl ⟨by rfl, ?ya2⟩) hHeld ?ra2
            case ya2 => intro w hSw; clear hSw; go_simp; with_reducible rfl
            simp only [Act.put, List.setIfInBounds_toArray, List.set_cons_zero, List.set_cons_succ]
            refine wpAnyH_take (i := 3) (v := ?va3) (by simp; rfl) (by kernel_rfl) (by kernel_rfl) (by kernel_rfl) (fun _ _ _ h => h) (Or.inl ⟨by rfl, ?ya3⟩) hHeld ?ra3
            case ya3 => intro w hSw; clear hSw; go_simp; with_reducible rfl
            simp only [Act.put, List.setIfInBounds_toArray, List.set_cons_zero, List.set_cons_succ]
            refine wpAnyH_take (i := 6) (v := ?va4) (by simp; rfl) (by kernel_rfl) (by kernel_rfl) (by kernel_rfl) (fun _ _ _ h => h) (Or.inl ⟨by rfl, ?ya4⟩) hHeld ?ra4
            case ya4 => intro w hSw; clear hSw; go_simp; with_reducible rfl
            simp only [Act.put, List.setIfInBounds_toArray, List.set_cons_zero, List.set_cons_succ]
            refine wpAnyH_take (i := 7) (v := ?va5) (by simp; rfl) (by kernel_rfl) (by kernel_rfl) (by kernel_rfl) (fun _ _ _ h => h) (Or.inl ⟨by rfl, ?ya5⟩) hHeld ?ra5
            case ya5 => intro w hSw; have z := HLC.out _ hSw; clear hSw; go_simp; with_reducible rfl
            simp only [Act.put, List.setIfInBounds_toArray, List.set_cons_zero, List.set_cons_succ]
            refine wpAnyH_ready (rs := [1]) (by kernel_rfl) (by simp) ?_
            refine AllReadyH.cons (by simp; rfl) (fun Kc hKc => ?_) AllReadyH.nil
            go_simp
            refine (lused0 TU.out D1.out).mono ?_
            rintro e wn ⟨rfl, rfl⟩
            refine hKc.out _ _ D1.out (fun hHeld => ?_)
            clear hKc Kc
            refine wpAnyH_take (i := 4) (v := ?va6) (by simp; rfl) (by kernel_rfl) (by kernel_rfl) (by kernel_rfl) (fun _ _ _ h => h) (Or.inl ⟨by rfl, ?ya6⟩) hHeld ?ra6
            case ya6 => intro w hSw; clear hSw; go_simp; with_reducible rfl
            simp only [Act.put, List.setIfInBounds_toArray, List.set_cons_zero, List.set_cons_succ]
            refine wpAnyH_take (i := 5) (v := ?va7) (by simp; rfl) (by kernel_rfl) (by kernel_rfl) (by kernel_rfl) (fun _ _ _ h => h) (Or.inl ⟨by rfl, ?ya7⟩) hHeld ?ra7
            case ya7 => intro w hSw; clear hSw; go_simp; with_reducible rfl
            simp only [Act.put, List.setIfInBounds_toArray, List.set_cons_zero, List.set_cons_succ]
            refine wpAnyH_take (i := 8) (v := ?va8) (by simp; rfl) (by kernel_rfl) (by kernel_rfl) (by kernel_rfl) (fun _ _ _ h => h) (Or.inl ⟨by rfl, ?ya8⟩) hHeld ?ra8
            case ya8 => intro w hSw; clear hSw; go_simp; with_reducible rfl
            simp only [Act.put, List.setIfInBounds_toArray, List.set_cons_zero, List.set_cons_succ]
            clear hHeld
            refine wpAnyH_done (by kernel_rfl) (NoPanic.normal ?_) _
            have TU2 : Hid (TS w wu w.heap.size (w.heap.size + 1) w1.heap.size (w1.heap.size + 1) (w1.heap.size + 1 + 1) L p (stc s0 ps n cs sd op pl m cl) (cfgS s0) g ws al s v vs) := TU.out.later D1.out
            have O3 : Hid (IOwn wu wo.heap.size (.slice q13 ims.length c13) ims) := O2.out.later D1.out
            have hwu : wo.heap.size ≤ wu.heap.size := by have := D1.out.size; omega
            clear TU O2 HLC D1
            have hwrp : IntKind.i64.wrap (IntKind.i64.wrap ((f : Int) + (ims.length : Int)) + 1) = (f : Int) + ims.length + 1 := wrap_two hl0 hil
            by_cases hfull : (lc : Int) < (f : Int) + ims.length + 1
            · have hq2 : (lc : Int) < IntKind.i64.wrap (IntKind.i64.wrap ((f : Int) + (ims.length : Int)) + 1) := by rw [hwrp]; exact hfull
              go_wp2_with fail
              obtain ⟨qe, ce, hve, -, -, -⟩ := XOwn.in TU2.out.tx
              have TV := TU2.out
              rw [hve] at TV
              have TX : Hid (_) := TV
              clear TV
              refine wp_region_noPanic ?_
              refine wp_region_held_drew (S := fun W => LAt 48 W (w1.heap.size + 1) (gcells 0 1 (s).fin (.slice qe (s).txs.length ce))) (by kernel_rfl) (TX.out.later (below_drawn 1)).wt (fun hHeld => ?_)
              have TD : Hid (_) := TX.out.later (show Below (wu).heap.size (wu) (wu).drew from below_drawn 1)
              clear TX
              generalize (wu).drew = wd at *
              have TE : Hid (_) := LAt.store (ds := gcells 0 1 (s).fin (.slice qe (s).txs.length ce)) TD.out.rs sizeR rfl (all_oneCell_toArray (gcells_ones rfl 0 1 (s).fin))
              refine wpAnyH_take (i := 0) (v := ?va9) (by simp; rfl) (by kernel_rfl) (by kernel_rfl) (by kernel_rfl) (fun _ _ _ h => h) (Or.inl ⟨by rfl, ?ya9⟩) hHeld ?ra9
              case ya9 => intro w hSw; clear hSw; go_simp; with_reducible rfl
              simp only [Act.put, List.setIfInBounds_toArray, List.set_cons_zero, List.set_cons_succ]
              refine wpAnyH_take (i := 1) (v := ?va10) (by simp; rfl) (by kernel_rfl) (by kernel_rfl) (by kernel_rfl) (fun _ _ _ h => h) (Or.inl ⟨by rfl, ?ya10⟩) hHeld ?ra10
              case ya10 => intro w hSw; clear hSw; go_simp; with_reducible rfl
              simp only [Act.put, List.setIfInBounds_toArray, List.set_cons_zero, List.set_cons_succ]
              refine wpAnyH_take (i := 2) (v := _) (by simp; rfl) (by kernel_rfl) (by kernel_rfl) (by kernel_rfl) (fun _ _ _ h => h) (yieldsIf_load_mid (by rfl) 48 (.tmp 7) rfl (w1.heap.size + 1) 0 rfl (gcells 0 1 (s).fin (.slice qe (s).txs.length ce)) _ (fun _ h => LAt.range h) Tryd.underlying48 rfl sizeR) hHeld ?_
              simp only [Act.put, List.setIfInBounds_toArray, List.set_cons_zero, List.set_cons_succ]
              refine wpAnyH_take (i := 3) (v := ?va11) (by simp; rfl) (by kernel_rfl) (by kernel_rfl) (by kernel_rfl) (fun _ _ _ h => h) (Or.inl ⟨by rfl, ?ya11⟩) hHeld ?ra11
              case ya11 => intro w hSw; clear hSw; go_simp; with_reducible rfl
              simp only [Act.put, List.setIfInBounds_toArray, List.set_cons_zero, List.set_cons_succ]
              refine wpAnyH_take (i := 4) (v := ?va12) (by simp; rfl) (by kernel_rfl) (by kernel_rfl) (by kernel_rfl) (fun _ _ _ h => h) (Or.inl ⟨by rfl, ?ya12⟩) hHeld ?ra12
              case ya12 => intro w hSw; clear hSw; go_simp; with_reducible rfl
              simp only [Act.put, List.setIfInBounds_toArray, List.set_cons_zero, List.set_cons_succ]
              refine wpAnyH_ready (rs := [5]) (by kernel_rfl) (by simp) ?_
              refine AllReadyH.cons (by simp; rfl) (fun Kc hKc => ?_) AllReadyH.nil
              refine sq_store (p := .pointer (some ⟨w.heap.size + 1, 0, none⟩)) (v := .agg (gcells 0 1 (s).fin (.slice qe (s).txs.length ce)).toArray) (by rfl) 48 rfl rfl rfl TE.out ?_
              refine hKc.out _ _ (LAt.other hHeld _ TD.out.ne.symm) (fun hHeld => ?_)
              clear hKc Kc
              simp only [Act.put]
              refine wpAnyH_take (i := 6) (v := ?va13) (by simp; rfl) (by kernel_rfl) (by kernel_rfl) (by kernel_rfl) (fun _ _ _ h => h) (Or.inl ⟨by rfl, ?ya13⟩) hHeld ?ra13
              case ya13 => intro w hSw; clear hSw; go_simp; with_reducible rfl
              simp only [Act.put, List.setIfInBounds_toArray, List.set_cons_zero, List.set_cons_succ]
              clear hHeld
              refine wpAnyH_done (by kernel_rfl) (NoPanic.normal ?_) _
              have FF : Hid (_) := TD.out.told
              clear TD TE
              go_wp2_with fail
              exact bodyPost_ret (results_told Tryd.results11 _ _ (w.heap.size + 1) 48 _ _ (by rfl) FF.out.1 Tryd.underlying48 rfl sizeR) rfl ⟨p, L, qe, ce, _, _, _, _, _, s, rfl, FF.out.2.1, FF.out.2.2.1, FF.out.2.2.2.1, FF.out.2.2.2.2.1, FF.out.2.2.2.2.2.1, FF.out.2.2.2.2.2.2⟩
            · have hq2 : ¬ (lc : Int) < IntKind.i64.wrap (IntKind.i64.wrap ((f : Int) + (ims.length : Int)) + 1) := by rw [hwrp]; exact hfull
              go_wp2_with fail
              go_loopw [105] (fun ij wr3 => ∃ j : Nat, j ≤ ims.length ∧ ij = .int .i64 j ∧ Hid (∃ g3 ws3 al3, TS w wr3 w.heap.size (w.heap.size + 1) w1.heap.size (w1.heap.size + 1) (w1.heap.size + 1 + 1) L p (stc s0 ps n cs sd op pl m cl) (cfgS s0) g3 ws3 al3 ⟨s.txs, s.fin, ims.take j⟩ v vs ∧ al3.length = f + j ∧ IOwn wr3 wo.heap.size (.slice q13 ims.length c13) ims)) (fun ij _ => ims.length - (intOf ij).toNat)
              case atStart => exact ⟨0, Nat.zero_le _, rfl, g, ws, al, by have := TU2.out; rw [show s = ⟨s.txs, s.fin, []⟩ from by rw [← hcome]] at this; exact this, hf, O3.out⟩
              case round =>
                obtain ⟨j, hj, rfl, HK⟩ := hrel
                obtain ⟨g3, ws3, al3, h3, hal, o3⟩ := HK.out
                clear HK TU2 O3
                have m3 : MIn wr q13 ims.length ims := by
                  obtain ⟨q', c', e', mi, -, -⟩ := IOwn.in o3 i4
                  cases e'
                  exact mi
                by_cases hjl : j < ims.length
                · obtain ⟨y, hy⟩ : ∃ y, ims[j]? = some y := ⟨_, List.getElem?_eq_getElem hjl⟩
                  have hyw := i4 y (List.mem_of_getElem? hy)
                  have hyb := i3 y (List.mem_of_getElem? hy)
                  obtain ⟨gq, oq, rfl, -⟩ := m3.cells (by omega)
                  have L8 : Hid (_) := m3.load hy
                  have A8 : Hid (_) := allocI wr
                  have T8 : Hid (_) := store_newI wr y hyw.len
                  obtain ⟨w8, hw8⟩ : ∃ z, z = wr.alloc (.cells (icells y).toArray 32) := ⟨_, rfl⟩
                  rw [← hw8] at T8
                  have l8 : LAt 32 w8 wr.heap.size (icells y) := by rw [hw8]; exact LAt.new 32 wr _
                  have c80 : w8.cell? ⟨wr.heap.size, 0, none⟩ = some (.int .i64 y.b) := LAt.cell l8 0
                  have LV8 : Hid (_) := LAt.loadIv l8 hyw.len
                  have b8 : Below wr.heap.size wr w8 := by rw [hw8]; exact below_alloc wr _
                  have H8 : Hid (TS w w8 w.heap.size (w.heap.size + 1) w1.heap.size (w1.heap.size + 1) (w1.heap.size + 1 + 1) L p (stc s0 ps n cs sd op pl m cl) (cfgS s0) g3 ws3 al3 ⟨s.txs, s.fin, ims.take j⟩ v vs) := h3.later b8
                  have O8 : Hid (IOwn w8 wo.heap.size (.slice (some ⟨gq, oq, none⟩) ims.length c13) ims) := o3.later b8
                  have himg : imgS g3 y.b = 0 := by
                    refine imgS_ok (h3.sty.more (by rw [hlc]; omega)) fun hbad => ?_
                    have e1 := h3.sty.imgs
                    have hlj : (ims.take j).length = j := by rw [List.length_take]; omega
                    have e1' : g3.imgs = j := by rw [e1]; show ((ims.take j).length : Int) = j; rw [hlj]
                    have e2 : g3.c = cfgS s0 := h3.sty.gc
                    rcases hbad with hb1 | hb1 | hb1
                    · by_cases j0 : j = 0
                      · have := h3.sty.lst0 (by show (ims.take j).length = 0; omega)
                        omega
                      · have e3 := h3.sty.last (by show (ims.take j).length ≠ 0; omega)
                        have e4 := i2.last hy (by omega)
                        have e3' : g3.last = lastB (ims.take j) := e3
                        omega
                    · rw [e2, hbl] at hb1; omega
                    · rw [e2, hmr, e1'] at hb1; omega
                  have HTk : Hid (ims.take (j + 1) = ims.take j ++ [y]) := by show _ = _; rw [List.take_add_one, hy]; rfl
                  clear hw8 l8 b8 h3 o3 m3
                  go_wp2_with ((with_reducible refine at_ops ?_); (first | (refine wpList_load_is (by rfl) 32 rfl rfl L8.out ?_) | (refine wpList_load_is (by rfl) 30 rfl rfl LV8.out ?_) | (refine wpList_alloc_is (by rfl) 32 rfl A8.out ?_) | (refine wpList_store_is (by rfl) 32 rfl rfl rfl T8.out ?_)); simp only [Act.put, List.setIfInBounds_toArray, List.set_cons_zero, List.set_cons_succ])
                  refine (image_B H8.out.lb (by have := H8.out.fin_le; omega) (HT.out.later H8.out.low) y.b y.v hyw.len hyw.byte himg).mono ?_
                  rintro e w9 ⟨rfl, lb9, kt9⟩
                  have F9 : Hid (∃ g3 ws3 al3, TS w w9 w.heap.size (w.heap.size + 1) w1.heap.size (w1.heap.size + 1) (w1.heap.size + 1 + 1) L p (stc s0 ps n cs sd op pl m cl) (cfgS s0) g3 ws3 al3 ⟨s.txs, s.fin, ims.take (j + 1)⟩ v vs ∧ al3.length = f + (j + 1) ∧ IOwn w9 wo.heap.size (.slice (some ⟨gq, oq, none⟩) ims.length c13) ims) := by
                    rw [HTk.out]
                    exact ⟨_, _, _, H8.out.img himg hyw.len hyw.byte lb9 kt9, by rw [List.length_append, hal]; rfl, own_kt kt9 (by decide) O8.out⟩
                  clear lb9 kt9 H8 O8 himg
                  go_wp2_with (go_at_call 15; refine (num_any _ _).mono ?_; rintro e wn ⟨rfl, rfl⟩)
                  go_roundw
                  case rel => exact ⟨j + 1, by omega, by go_num, F9.out⟩
                  case measure => simp [intOf]; omega
                · obtain rfl : ims.length = j := by omega
                  rw [List.take_length] at h3
                  have d5 : wr.cell? ⟨w.heap.size, 5, none⟩ = some (.slice ps n cs) := LAt.cell h3.st 5
                  have d7 : wr.cell? ⟨w.heap.size, 7, none⟩ = some (.bool op) := LAt.cell h3.st 7
                  clear m3
                  cases op with
                  | true =>
                    by_cases hkn : (k : Int) = (n : Int) - 1
                    · have hq : ((k : Int) == (n : Int) - 1) = true := by simp [hkn]
                      have T3 : Hid (_) := h3
                      clear h3 o3
                      go_wp2_with fail
                      obtain ⟨qe, ce, hve, -, -, -⟩ := XOwn.in T3.out.tx
                      have TV := T3.out
                      rw [hve] at TV
                      have TX : Hid (_) := TV
                      clear TV
                      refine wp_region_noPanic ?_
                      refine wp_region_held_drew (S := fun W => LAt 48 W (w1.heap.size + 1) (gcells 0 1 ((⟨s.txs, s.fin, ims⟩ : Sc)).fin (.slice qe ((⟨s.txs, s.fin, ims⟩ : Sc)).txs.length ce))) (by kernel_rfl) (TX.out.later (below_drawn 1)).wt (fun hHeld => ?_)
                      have TD : Hid (_) := TX.out.later (show Below (wr).heap.size (wr) (wr).drew from below_drawn 1)
                      clear TX
                      generalize (wr).drew = wd at *
                      have TE : Hid (_) := LAt.store (ds := gcells 0 1 ((⟨s.txs, s.fin, ims⟩ : Sc)).fin (.slice qe ((⟨s.txs, s.fin, ims⟩ : Sc)).txs.length ce)) TD.out.rs sizeR rfl (all_oneCell_toArray (gcells_ones rfl 0 1 ((⟨s.txs, s.fin, ims⟩ : Sc)).fin))
                      refine wpAnyH_take (i := 0) (v := ?va14) (by simp; rfl) (by kernel_rfl) (by kernel_rfl) (by kernel_rfl) (fun _ _ _ h => h) (Or.inl ⟨by rfl, ?ya14⟩) hHeld ?ra14
                      case ya14 => intro w hSw; clear hSw; go_simp; with_reducible rfl
                      simp only [Act.put, List.setIfInBounds_toArray, List.set_cons_zero, List.set_cons_succ]
                      refine wpAnyH_take (i := 1) (v := ?va15) (by simp; rfl) (by kernel_rfl) (by kernel_rfl) (by kernel_rfl) (fun _ _ _ h => h) (Or.inl ⟨by rfl, ?ya15⟩) hHeld ?ra15
                      case ya15 => intro w hSw; clear hSw; go_simp; with_reducible rfl
                      simp only [Act.put, List.setIfInBounds_toArray, List.set_cons_zero, List.set_cons_succ]
                      refine wpAnyH_take (i := 2) (v := _) (by simp; rfl) (by kernel_rfl) (by kernel_rfl) (by kernel_rfl) (fun _ _ _ h => h) (yieldsIf_load_mid (by rfl) 48 (.tmp 7) rfl (w1.heap.size + 1) 0 rfl (gcells 0 1 ((⟨s.txs, s.fin, ims⟩ : Sc)).fin (.slice qe ((⟨s.txs, s.fin, ims⟩ : Sc)).txs.length ce)) _ (fun _ h => LAt.range h) Tryd.underlying48 rfl sizeR) hHeld ?_
                      simp only [Act.put, List.setIfInBounds_toArray, List.set_cons_zero, List.set_cons_succ]
                      refine wpAnyH_take (i := 3) (v := ?va16) (by simp; rfl) (by kernel_rfl) (by kernel_rfl) (by kernel_rfl) (fun _ _ _ h => h) (Or.inl ⟨by rfl, ?ya16⟩) hHeld ?ra16
                      case ya16 => intro w hSw; clear hSw; go_simp; with_reducible rfl
                      simp only [Act.put, List.setIfInBounds_toArray, List.set_cons_zero, List.set_cons_succ]
                      refine wpAnyH_take (i := 4) (v := ?va17) (by simp; rfl) (by kernel_rfl) (by kernel_rfl) (by kernel_rfl) (fun _ _ _ h => h) (Or.inl ⟨by rfl, ?ya17⟩) hHeld ?ra17
                      case ya17 => intro w hSw; clear hSw; go_simp; with_reducible rfl
                      simp only [Act.put, List.setIfInBounds_toArray, List.set_cons_zero, List.set_cons_succ]
                      refine wpAnyH_ready (rs := [5]) (by kernel_rfl) (by simp) ?_
                      refine AllReadyH.cons (by simp; rfl) (fun Kc hKc => ?_) AllReadyH.nil
                      refine sq_store (p := .pointer (some ⟨w.heap.size + 1, 0, none⟩)) (v := .agg (gcells 0 1 ((⟨s.txs, s.fin, ims⟩ : Sc)).fin (.slice qe ((⟨s.txs, s.fin, ims⟩ : Sc)).txs.length ce)).toArray) (by rfl) 48 rfl rfl rfl TE.out ?_
                      refine hKc.out _ _ (LAt.other hHeld _ TD.out.ne.symm) (fun hHeld => ?_)
                      clear hKc Kc
                      simp only [Act.put]
                      refine wpAnyH_take (i := 6) (v := ?va18) (by simp; rfl) (by kernel_rfl) (by kernel_rfl) (by kernel_rfl) (fun _ _ _ h => h) (Or.inl ⟨by rfl, ?ya18⟩) hHeld ?ra18
                      case ya18 => intro w hSw; clear hSw; go_simp; with_reducible rfl
                      simp only [Act.put, List.setIfInBounds_toArray, List.set_cons_zero, List.set_cons_succ]
                      clear hHeld
                      refine wpAnyH_done (by kernel_rfl) (NoPanic.normal ?_) _
                      have FF : Hid (_) := TD.out.told
                      clear TD TE
                      go_wp2_with fail
                      exact bodyPost_ret (results_told Tryd.results11 _ _ (w.heap.size + 1) 48 _ _ (by rfl) FF.out.1 Tryd.underlying48 rfl sizeR) rfl ⟨p, L, qe, ce, _, _, _, _, _, (⟨s.txs, s.fin, ims⟩ : Sc), rfl, FF.out.2.1, FF.out.2.2.1, FF.out.2.2.2.1, FF.out.2.2.2.2.1, FF.out.2.2.2.2.2.1, FF.out.2.2.2.2.2.2⟩
                    · have hq : ((k : Int) == (n : Int) - 1) = false := by simp [hkn]
                      go_wp2_with fail
                      have hm0 : moreS g3 = 0 := h3.sty.more (by have := h3.sty.fin_is; rw [hlc]; omega)
                      have hcw3 : ImsWf ims := i4
                      refine (commit_B h3.lb (by have := h3.fin_le; omega) (HT.out.later h3.low) hm0).mono ?_
                      rintro e w6 ⟨rfl, lb6, kt6⟩
                      obtain ⟨q7, c7, V7, hrun7, lg7, ts7⟩ := h3.com hm0 lb6 kt6 (q := q13) (k := ims.length) (m := c13) hcw3 (own_at (own_kt kt6 (by decide) o3) (fun g' hg' => Nat.le_trans hwo (o3.lt g' hg').1) rfl)
                      obtain ⟨qv, cv, hvv, -, -, -⟩ := XOwn.in h3.tx
                      have hfin3 : g3.fin = (al3.length : Int) := h3.sty.fin_is.1
                      have hal3 : al3.length ≤ 64 := by have := h3.sty.fin_is.2; omega
                      have z3 : w6.cell? ⟨w1.heap.size + 1, 3, none⟩ = some (.slice qv s.txs.length cv) := by rw [← hvv]; exact LAt.cell (lat_kt kt6 (by decide) h3.wt) 3
                      rw [hvv] at hrun7
                      have UX : Hid (_) := buildX w6 g3.fin q13 ims.length c13
                      have SX : Hid (_) := build_rtx w6 g3.fin q13 ims.length c13
                      have AP7 : Hid (_) := hrun7
                      have y3 : V7.cell? ⟨w1.heap.size + 1, 3, none⟩ = some v := LAt.cell lg7 3
                      have y3f := LAt.free lg7 3
                      have lg8 := LAt.set lg7 3 (.slice q7 (s.txs.length + 1) c7)
                      have y2 : (V7.setCell ⟨w1.heap.size + 1, 3, none⟩ (.slice q7 (s.txs.length + 1) c7)).cell? ⟨w1.heap.size + 1, 2, none⟩ = some (.int .u64 s.fin) := LAt.cell lg8 2
                      have y2f := LAt.free lg8 2
                      have T7 : Hid (_) := ts7
                      have hadd : IntKind.u64.wrap (g3.fin + 1) = g3.fin + 1 := G.wrap_u (by omega) (by omega)
                      clear hrun7 lg7 lg8 ts7 lb6 kt6 h3 o3 hvv hfin3
                      go_wp2_with (first | (go_at_call 15; refine (num_any _ _).mono ?_; rintro e wn ⟨rfl, rfl⟩) | ((with_reducible refine at_ops ?_); (first | (refine wpList_build_is (vs := [(0, .int .u64 g3.fin), (1, .slice q13 ims.length c13)]) (by rfl) 28 rfl (by rfl) UX.out ?_) | (refine wpList_slice_is (u := .agg #[.int .u64 g3.fin, .slice q13 ims.length c13]) (by rfl) 22 rfl rfl SX.out ?_) | (refine wpList_append_is (u1 := .slice qv s.txs.length cv) (u2 := .slice (some ⟨w6.heap.size, 0, none⟩) 1 1) (by rfl) rfl rfl rfl rfl AP7.out ?_)); simp only [Act.put, List.setIfInBounds_toArray, List.set_cons_zero, List.set_cons_succ]))
                      go_roundw
                      case rel => exact ⟨k + 1, by omega, by go_num, _, _, _, _, _, _, T7.out, rfl⟩
                      case measure => simp [intOf]; omega
                  | false =>
                    go_wp2_with fail
                    have hm0 : moreS g3 = 0 := h3.sty.more (by have := h3.sty.fin_is; rw [hlc]; omega)
                    have hcw3 : ImsWf ims := i4
                    refine (commit_B h3.lb (by have := h3.fin_le; omega) (HT.out.later h3.low) hm0).mono ?_
                    rintro e w6 ⟨rfl, lb6, kt6⟩
                    obtain ⟨q7, c7, V7, hrun7, lg7, ts7⟩ := h3.com hm0 lb6 kt6 (q := q13) (k := ims.length) (m := c13) hcw3 (own_at (own_kt kt6 (by decide) o3) (fun g' hg' => Nat.le_trans hwo (o3.lt g' hg').1) rfl)
                    obtain ⟨qv, cv, hvv, -, -, -⟩ := XOwn.in h3.tx
                    have hfin3 : g3.fin = (al3.length : Int) := h3.sty.fin_is.1
                    have hal3 : al3.length ≤ 64 := by have := h3.sty.fin_is.2; omega
                    have z3 : w6.cell? ⟨w1.heap.size + 1, 3, none⟩ = some (.slice qv s.txs.length cv) := by rw [← hvv]; exact LAt.cell (lat_kt kt6 (by decide) h3.wt) 3
                    rw [hvv] at hrun7
                    have UX : Hid (_) := buildX w6 g3.fin q13 ims.length c13
                    have SX : Hid (_) := build_rtx w6 g3.fin q13 ims.length c13
                    have AP7 : Hid (_) := hrun7
                    have y3 : V7.cell? ⟨w1.heap.size + 1, 3, none⟩ = some v := LAt.cell lg7 3
                    have y3f := LAt.free lg7 3
                    have lg8 := LAt.set lg7 3 (.slice q7 (s.txs.length + 1) c7)
                    have y2 : (V7.setCell ⟨w1.heap.size + 1, 3, none⟩ (.slice q7 (s.txs.length + 1) c7)).cell? ⟨w1.heap.size + 1, 2, none⟩ = some (.int .u64 s.fin) := LAt.cell lg8 2
                    have y2f := LAt.free lg8 2
                    have T7 : Hid (_) := ts7
                    have hadd : IntKind.u64.wrap (g3.fin + 1) = g3.fin + 1 := G.wrap_u (by omega) (by omega)
                    clear hrun7 lg7 lg8 ts7 lb6 kt6 h3 o3 hvv hfin3
                    go_wp2_with (first | (go_at_call 15; refine (num_any _ _).mono ?_; rintro e wn ⟨rfl, rfl⟩) | ((with_reducible refine at_ops ?_); (first | (refine wpList_build_is (vs := [(0, .int .u64 g3.fin), (1, .slice q13 ims.length c13)]) (by rfl) 28 rfl (by rfl) UX.out ?_) | (refine wpList_slice_is (u := .agg #[.int .u64 g3.fin, .slice q13 ims.length c13]) (by rfl) 22 rfl rfl SX.out ?_) | (refine wpList_append_is (u1 := .slice qv s.txs.length cv) (u2 := .slice (some ⟨w6.heap.size, 0, none⟩) 1 1) (by rfl) rfl rfl rfl rfl AP7.out ?_)); simp only [Act.put, List.setIfInBounds_toArray, List.set_cons_zero, List.set_cons_succ]))
                    go_roundw
                    case rel => exact ⟨k + 1, by omega, by go_num, _, _, _, _, _, _, T7.out, rfl⟩
                    case measure => simp [intOf]; omega
        · clear m13
          have TU : Hid (TS w wr w.heap.size (w.heap.size + 1) w1.heap.size (w1.heap.size + 1) (w1.heap.size + 1 + 1) L p (stc s0 ps n cs sd op pl m cl) (cfgS s0) g ws al s v vs) := T2'
          have O2 : Hid (IOwn wr wo.heap.size (.slice q13 ims.length c13) ims) := i1
          have hwo : w.heap.size ≤ wo.heap.size := TR.out.low.size
          have hwr : wo.heap.size ≤ wr.heap.size := i6.size
          have hfl := T2'.sty.fin_is
          have hl0 : al.length ≤ 13 := by omega
          obtain ⟨f, hf⟩ : ∃ f : Nat, al.length = f := ⟨_, rfl⟩
          rw [hf] at hl0
          have hil : ims.length ≤ 6 := by omega
          obtain ⟨wv, hwv⟩ : ∃ wv, wv = wr := ⟨_, rfl⟩
          subst hwv
          have HLC : Hid (∀ W, Below wv.heap.size wv W → W.cell? ⟨w1.heap.size, 1, none⟩ = some (.int .i64 (lc : Int))) := fun W hW => by rw [← hlc]; exact CAt.c1 (LAt.later TU.out.cf hW)
          clear T2' i1 hfl
          go_wp2_with fail
          clear f0 f2 k5 k6
          refine wp_region_noPanic ?_
          refine wp_region_held_drew (S := fun w' => Below wv.heap.size wv w') (by kernel_rfl) (below_drawn 1) (fun hHeld => ?_)
          have D1 : Hid (Below wv.heap.size wv wv.drew) := hHeld
          generalize wv.drew = wu at *
          refine wpAnyH_take (i := 0) (v := ?vab1) (by simp; rfl) (by kernel_rfl) (by kernel_rfl) (by kernel_rfl) (fun _ _ _ h => h) (Or.inl ⟨by rfl, ?yab1⟩) hHeld ?rab1
          case yab1 => intro w hSw; clear hSw; go_simp; with_reducible rfl
          simp only [Act.put, List.setIfInBounds_toArray, List.set_cons_zero, List.set_cons_succ]
          refine wpAnyH_take (i := 2) (v := ?vab2) (by simp; rfl) (by kernel_rfl) (by kernel_rfl) (by kernel_rfl) (fun _ _ _ h => h) (Or.inl ⟨by rfl, ?yab2⟩) hHeld ?rab2
          case yab2 => intro w hSw; clear hSw; go_simp; with_reducible rfl
          simp only [Act.put, List.setIfInBounds_toArray, List.set_cons_zero, List.set_cons_succ]
          refine wpAnyH_take (i := 3) (v := ?vab3) (by simp; rfl) (by kernel_rfl) (by kernel_rfl) (by kernel_rfl) (fun _ _ _ h => h) (Or.inl ⟨by rfl, ?yab3⟩) hHeld ?rab3
          case yab3 => intro w hSw; clear hSw; go_simp; with_reducible rfl
          simp only [Act.put, List.setIfInBounds_toArray, List.set_cons_zero, List.set_cons_succ]
          refine wpAnyH_take (i := 6) (v := ?vab4) (by simp; rfl) (by kernel_rfl) (by kernel_rfl) (by kernel_rfl) (fun _ _ _ h => h) (Or.inl ⟨by rfl, ?yab4⟩) hHeld ?rab4
          case yab4 => intro w hSw; clear hSw; go_simp; with_reducible rfl
          simp only [Act.put, List.setIfInBounds_toArray, List.set_cons_zero, List.set_cons_succ]
          refine wpAnyH_take (i := 7) (v := ?vab5) (by simp; rfl) (by kernel_rfl) (by kernel_rfl) (by kernel_rfl) (fun _ _ _ h => h) (Or.inl ⟨by rfl, ?yab5⟩) hHeld ?rab5
          case yab5 => intro w hSw; have z := HLC.out _ hSw; clear hSw; go_simp; with_reducible rfl
          simp only [Act.put, List.setIfInBounds_toArray, List.set_cons_zero, List.set_cons_succ]
          refine wpAnyH_ready (rs := [1]) (by kernel_rfl) (by simp) ?_
          refine AllReadyH.cons (by simp; rfl) (fun Kc hKc => ?_) AllReadyH.nil
          go_simp
          refine (lused0 TU.out D1.out).mono ?_
          rintro e wn ⟨rfl, rfl⟩
          refine hKc.out _ _ D1.out (fun hHeld => ?_)
          clear hKc Kc
          refine wpAnyH_take (i := 4) (v := ?vab6) (by simp; rfl) (by kernel_rfl) (by kernel_rfl) (by kernel_rfl) (fun _ _ _ h => h) (Or.inl ⟨by rfl, ?yab6⟩) hHeld ?rab6
          case yab6 => intro w hSw; clear hSw; go_simp; with_reducible rfl
          simp only [Act.put, List.setIfInBounds_toArray, List.set_cons_zero, List.set_cons_succ]
          refine wpAnyH_take (i := 5) (v := ?vab7) (by simp; rfl) (by kernel_rfl) (by kernel_rfl) (by kernel_rfl) (fun _ _ _ h => h) (Or.inl ⟨by rfl, ?yab7⟩) hHeld ?rab7
          case yab7 => intro w hSw; clear hSw; go_simp; with_reducible rfl
          simp only [Act.put, List.setIfInBounds_toArray, List.set_cons_zero, List.set_cons_succ]
          refine wpAnyH_take (i := 8) (v := ?vab8) (by simp; rfl) (by kernel_rfl) (by kernel_rfl) (by kernel_rfl) (fun _ _ _ h => h) (Or.inl ⟨by rfl, ?yab8⟩) hHeld ?rab8
          case yab8 => intro w hSw; clear hSw; go_simp; with_reducible rfl
          simp only [Act.put, List.setIfInBounds_toArray, List.set_cons_zero, List.set_cons_succ]
          clear hHeld
          refine wpAnyH_done (by kernel_rfl) (NoPanic.normal ?_) _
          have TU2 : Hid (TS w wu w.heap.size (w.heap.size + 1) w1.heap.size (w1.heap.size + 1) (w1.heap.size + 1 + 1) L p (stc s0 ps n cs sd op pl m cl) (cfgS s0) g ws al s v vs) := TU.out.later D1.out
          have O3 : Hid (IOwn wu wo.heap.size (.slice q13 ims.length c13) ims) := O2.out.later D1.out
          have hwu : wo.heap.size ≤ wu.heap.size := by have := D1.out.size; omega
          clear TU O2 HLC D1
          have hwrp : IntKind.i64.wrap (IntKind.i64.wrap ((f : Int) + (ims.length : Int)) + 1) = (f : Int) + ims.length + 1 := wrap_two hl0 hil
          by_cases hfull : (lc : Int) < (f : Int) + ims.length + 1
          · have hq2 : (lc : Int) < IntKind.i64.wrap (IntKind.i64.wrap ((f : Int) + (ims.length : Int)) + 1) := by rw [hwrp]; exact hfull
            go_wp2_with fail
            obtain ⟨qe, ce, hve, -, -, -⟩ := XOwn.in TU2.out.tx
            have TV := TU2.out
            rw [hve] at TV
            have TX : Hid (_) := TV
            clear TV
            refine wp_region_noPanic ?_
            refine wp_region_held_drew (S := fun W => LAt 48 W (w1.heap.size + 1) (gcells 0 1 (s).fin (.slice qe (s).txs.length ce))) (by kernel_rfl) (TX.out.later (below_drawn 1)).wt (fun hHeld => ?_)
            have TD : Hid (_) := TX.out.later (show Below (wu).heap.size (wu) (wu).drew from below_drawn 1)
            clear TX
            generalize (wu).drew = wd at *
            have TE : Hid (_) := LAt.store (ds := gcells 0 1 (s).fin (.slice qe (s).txs.length ce)) TD.out.rs sizeR rfl (all_oneCell_toArray (gcells_ones rfl 0 1 (s).fin))
            refine wpAnyH_take (i := 0) (v := ?vab9) (by simp; rfl) (by kernel_rfl) (by kernel_rfl) (by kernel_rfl) (fun _ _ _ h => h) (Or.inl ⟨by rfl, ?yab9⟩) hHeld ?rab9
            case yab9 => intro w hSw; clear hSw; go_simp; with_reducible rfl
            simp only [Act.put, List.setIfInBounds_toArray, List.set_cons_zero, List.set_cons_succ]
            refine wpAnyH_take (i := 1) (v := ?vab10) (by simp; rfl) (by kernel_rfl) (by kernel_rfl) (by kernel_rfl) (fun _ _ _ h => h) (Or.inl ⟨by rfl, ?yab10⟩) hHeld ?rab10
            case yab10 => intro w hSw; clear hSw; go_simp; with_reducible rfl
            simp only [Act.put, List.setIfInBounds_toArray, List.set_cons_zero, List.set_cons_succ]
            refine wpAnyH_take (i := 2) (v := _) (by simp; rfl) (by kernel_rfl) (by kernel_rfl) (by kernel_rfl) (fun _ _ _ h => h) (yieldsIf_load_mid (by rfl) 48 (.tmp 7) rfl (w1.heap.size + 1) 0 rfl (gcells 0 1 (s).fin (.slice qe (s).txs.length ce)) _ (fun _ h => LAt.range h) Tryd.underlying48 rfl sizeR) hHeld ?_
            simp only [Act.put, List.setIfInBounds_toArray, List.set_cons_zero, List.set_cons_succ]
            refine wpAnyH_take (i := 3) (v := ?vab11) (by simp; rfl) (by kernel_rfl) (by kernel_rfl) (by kernel_rfl) (fun _ _ _ h => h) (Or.inl ⟨by rfl, ?yab11⟩) hHeld ?rab11
            case yab11 => intro w hSw; clear hSw; go_simp; with_reducible rfl
            simp only [Act.put, List.setIfInBounds_toArray, List.set_cons_zero, List.set_cons_succ]
            refine wpAnyH_take (i := 4) (v := ?vab12) (by simp; rfl) (by kernel_rfl) (by kernel_rfl) (by kernel_rfl) (fun _ _ _ h => h) (Or.inl ⟨by rfl, ?yab12⟩) hHeld ?rab12
            case yab12 => intro w hSw; clear hSw; go_simp; with_reducible rfl
            simp only [Act.put, List.setIfInBounds_toArray, List.set_cons_zero, List.set_cons_succ]
            refine wpAnyH_ready (rs := [5]) (by kernel_rfl) (by simp) ?_
            refine AllReadyH.cons (by simp; rfl) (fun Kc hKc => ?_) AllReadyH.nil
            refine sq_store (p := .pointer (some ⟨w.heap.size + 1, 0, none⟩)) (v := .agg (gcells 0 1 (s).fin (.slice qe (s).txs.length ce)).toArray) (by rfl) 48 rfl rfl rfl TE.out ?_
            refine hKc.out _ _ (LAt.other hHeld _ TD.out.ne.symm) (fun hHeld => ?_)
            clear hKc Kc
            simp only [Act.put]
            refine wpAnyH_take (i := 6) (v := ?vab13) (by simp; rfl) (by kernel_rfl) (by kernel_rfl) (by kernel_rfl) (fun _ _ _ h => h) (Or.inl ⟨by rfl, ?yab13⟩) hHeld ?rab13
            case yab13 => intro w hSw; clear hSw; go_simp; with_reducible rfl
            simp only [Act.put, List.setIfInBounds_toArray, List.set_cons_zero, List.set_cons_succ]
            clear hHeld
            refine wpAnyH_done (by kernel_rfl) (NoPanic.normal ?_) _
            have FF : Hid (_) := TD.out.told
            clear TD TE
            go_wp2_with fail
            exact bodyPost_ret (results_told Tryd.results11 _ _ (w.heap.size + 1) 48 _ _ (by rfl) FF.out.1 Tryd.underlying48 rfl sizeR) rfl ⟨p, L, qe, ce, _, _, _, _, _, s, rfl, FF.out.2.1, FF.out.2.2.1, FF.out.2.2.2.1, FF.out.2.2.2.2.1, FF.out.2.2.2.2.2.1, FF.out.2.2.2.2.2.2⟩
          · have hq2 : ¬ (lc : Int) < IntKind.i64.wrap (IntKind.i64.wrap ((f : Int) + (ims.length : Int)) + 1) := by rw [hwrp]; exact hfull
            go_wp2_with fail
            go_loopw [105] (fun ij wr3 => ∃ j : Nat, j ≤ ims.length ∧ ij = .int .i64 j ∧ Hid (∃ g3 ws3 al3, TS w wr3 w.heap.size (w.heap.size + 1) w1.heap.size (w1.heap.size + 1) (w1.heap.size + 1 + 1) L p (stc s0 ps n cs sd op pl m cl) (cfgS s0) g3 ws3 al3 ⟨s.txs, s.fin, ims.take j⟩ v vs ∧ al3.length = f + j ∧ IOwn wr3 wo.heap.size (.slice q13 ims.length c13) ims)) (fun ij _ => ims.length - (intOf ij).toNat)
            case atStart => exact ⟨0, Nat.zero_le _, rfl, g, ws, al, by have := TU2.out; rw [show s = ⟨s.txs, s.fin, []⟩ from by rw [← hcome]] at this; exact this, hf, O3.out⟩
            case round =>
              obtain ⟨j, hj, rfl, HK⟩ := hrel
              obtain ⟨g3, ws3, al3, h3, hal, o3⟩ := HK.out
              clear HK TU2 O3
              have m3 : MIn wr q13 ims.length ims := by
                obtain ⟨q', c', e', mi, -, -⟩ := IOwn.in o3 i4
                cases e'
                exact mi
              by_cases hjl : j < ims.length
              · obtain ⟨y, hy⟩ : ∃ y, ims[j]? = some y := ⟨_, List.getElem?_eq_getElem hjl⟩
                have hyw := i4 y (List.mem_of_getElem? hy)
                have hyb := i3 y (List.mem_of_getElem? hy)
                obtain ⟨gq, oq, rfl, -⟩ := m3.cells (by omega)
                have L8 : Hid (_) := m3.load hy
                have A8 : Hid (_) := allocI wr
                have T8 : Hid (_) := store_newI wr y hyw.len
                obtain ⟨w8, hw8⟩ : ∃ z, z = wr.alloc (.cells (icells y).toArray 32) := ⟨_, rfl⟩
                rw [← hw8] at T8
                have l8 : LAt 32 w8 wr.heap.size (icells y) := by rw [hw8]; exact LAt.new 32 wr _
                have c80 : w8.cell? ⟨wr.heap.size, 0, none⟩ = some (.int .i64 y.b) := LAt.cell l8 0
                have LV8 : Hid (_) := LAt.loadIv l8 hyw.len
                have b8 : Below wr.heap.size wr w8 := by rw [hw8]; exact below_alloc wr _
                have H8 : Hid (TS w w8 w.heap.size (w.heap.size + 1) w1.heap.size (w1.heap.size + 1) (w1.heap.size + 1 + 1) L p (stc s0 ps n cs sd op pl m cl) (cfgS s0) g3 ws3 al3 ⟨s.txs, s.fin, ims.take j⟩ v vs) := h3.later b8
                have O8 : Hid (IOwn w8 wo.heap.size (.slice (some ⟨gq, oq, none⟩) ims.length c13) ims) := o3.later b8
                have himg : imgS g3 y.b = 0 := by
                  refine imgS_ok (h3.sty.more (by rw [hlc]; omega)) fun hbad => ?_
                  have e1 := h3.sty.imgs
                  have hlj : (ims.take j).length = j := by rw [List.length_take]; omega
                  have e1' : g3.imgs = j := by rw [e1]; show ((ims.take j).length : Int) = j; rw [hlj]
                  have e2 : g3.c = cfgS s0 := h3.sty.gc
                  rcases hbad with hb1 | hb1 | hb1
                  · by_cases j0 : j = 0
                    · have := h3.sty.lst0 (by show (ims.take j).length = 0; omega)
                      omega
                    · have e3 := h3.sty.last (by show (ims.take j).length ≠ 0; omega)
                      have e4 := i2.last hy (by omega)
                      have e3' : g3.last = lastB (ims.take j) := e3
                      omega
                  · rw [e2, hbl] at hb1; omega
                  · rw [e2, hmr, e1'] at hb1; omega
                have HTk : Hid (ims.take (j + 1) = ims.take j ++ [y]) := by show _ = _; rw [List.take_add_one, hy]; rfl
                clear hw8 l8 b8 h3 o3 m3
                go_wp2_with ((with_reducible refine at_ops ?_); (first | (refine wpList_load_is (by rfl) 32 rfl rfl L8.out ?_) | (refine wpList_load_is (by rfl) 30 rfl rfl LV8.out ?_) | (refine wpList_alloc_is (by rfl) 32 rfl A8.out ?_) | (refine wpList_store_is (by rfl) 32 rfl rfl rfl T8.out ?_)); simp only [Act.put, List.setIfInBounds_toArray, List.set_cons_zero, List.set_cons_succ])
                refine (image_B H8.out.lb (by have := H8.out.fin_le; omega) (HT.out.later H8.out.low) y.b y.v hyw.len hyw.byte himg).mono ?_
                rintro e w9 ⟨rfl, lb9, kt9⟩
                have F9 : Hid (∃ g3 ws3 al3, TS w w9 w.heap.size (w.heap.size + 1) w1.heap.size (w1.heap.size + 1) (w1.heap.size + 1 + 1) L p (stc s0 ps n cs sd op pl m cl) (cfgS s0) g3 ws3 al3 ⟨s.txs, s.fin, ims.take (j + 1)⟩ v vs ∧ al3.length = f + (j + 1) ∧ IOwn w9 wo.heap.size (.slice (some ⟨gq, oq, none⟩) ims.length c13) ims) := by
                  rw [HTk.out]
                  exact ⟨_, _, _, H8.out.img himg hyw.len hyw.byte lb9 kt9, by rw [List.length_append, hal]; rfl, own_kt kt9 (by decide) O8.out⟩
                clear lb9 kt9 H8 O8 himg
                go_wp2_with (go_at_call 15; refine (num_any _ _).mono ?_; rintro e wn ⟨rfl, rfl⟩)
                go_roundw
                case rel => exact ⟨j + 1, by omega, by go_num, F9.out⟩
                case measure => simp [intOf]; omega
              · obtain rfl : ims.length = j := by omega
                rw [List.take_length] at h3
                have d5 : wr.cell? ⟨w.heap.size, 5, none⟩ = some (.slice ps n cs) := LAt.cell h3.st 5
                have d7 : wr.cell? ⟨w.heap.size, 7, none⟩ = some (.bool op) := LAt.cell h3.st 7
                clear m3
                cases op with
                | true =>
                  by_cases hkn : (k : Int) = (n : Int) - 1
                  · have hq : ((k : Int) == (n : Int) - 1) = true := by simp [hkn]
                    have T3 : Hid (_) := h3
                    clear h3 o3
                    go_wp2_with fail
                    obtain ⟨qe, ce, hve, -, -, -⟩ := XOwn.in T3.out.tx
                    have TV := T3.out
                    rw [hve] at TV
                    have TX : Hid (_) := TV
                    clear TV
                    refine wp_region_noPanic ?_
                    refine wp_region_held_drew (S := fun W => LAt 48 W (w1.heap.size + 1) (gcells 0 1 ((⟨s.txs, s.fin, ims⟩ : Sc)).fin (.slice qe ((⟨s.txs, s.fin, ims⟩ : Sc)).txs.length ce))) (by kernel_rfl) (TX.out.later (below_drawn 1)).wt (fun hHeld => ?_)
                    have TD : Hid (_) := TX.out.later (show Below (wr).heap.size (wr) (wr).drew from below_drawn 1)
                    clear TX
                    generalize (wr).drew = wd at *
                    have TE : Hid (_) := LAt.store (ds := gcells 0 1 ((⟨s.txs, s.fin, ims⟩ : Sc)).fin (.slice qe ((⟨s.txs, s.fin, ims⟩ : Sc)).txs.length ce)) TD.out.rs sizeR rfl (all_oneCell_toArray (gcells_ones rfl 0 1 ((⟨s.txs, s.fin, ims⟩ : Sc)).fin))
                    refine wpAnyH_take (i := 0) (v := ?vab14) (by simp; rfl) (by kernel_rfl) (by kernel_rfl) (by kernel_rfl) (fun _ _ _ h => h) (Or.inl ⟨by rfl, ?yab14⟩) hHeld ?rab14
                    case yab14 => intro w hSw; clear hSw; go_simp; with_reducible rfl
                    simp only [Act.put, List.setIfInBounds_toArray, List.set_cons_zero, List.set_cons_succ]
                    refine wpAnyH_take (i := 1) (v := ?vab15) (by simp; rfl) (by kernel_rfl) (by kernel_rfl) (by kernel_rfl) (fun _ _ _ h => h) (Or.inl ⟨by rfl, ?yab15⟩) hHeld ?rab15
                    case yab15 => intro w hSw; clear hSw; go_simp; with_reducible rfl
                    simp only [Act.put, List.setIfInBounds_toArray, List.set_cons_zero, List.set_cons_succ]
                    refine wpAnyH_take (i := 2) (v := _) (by simp; rfl) (by kernel_rfl) (by kernel_rfl) (by kernel_rfl) (fun _ _ _ h => h) (yieldsIf_load_mid (by rfl) 48 (.tmp 7) rfl (w1.heap.size + 1) 0 rfl (gcells 0 1 ((⟨s.txs, s.fin, ims⟩ : Sc)).fin (.slice qe ((⟨s.txs, s.fin, ims⟩ : Sc)).txs.length ce)) _ (fun _ h => LAt.range h) Tryd.underlying48 rfl sizeR) hHeld ?_
                    simp only [Act.put, List.setIfInBounds_toArray, List.set_cons_zero, List.set_cons_succ]
                    refine wpAnyH_take (i := 3) (v := ?vab16) (by simp; rfl) (by kernel_rfl) (by kernel_rfl) (by kernel_rfl) (fun _ _ _ h => h) (Or.inl ⟨by rfl, ?yab16⟩) hHeld ?rab16
                    case yab16 => intro w hSw; clear hSw; go_simp; with_reducible rfl
                    simp only [Act.put, List.setIfInBounds_toArray, List.set_cons_zero, List.set_cons_succ]
                    refine wpAnyH_take (i := 4) (v := ?vab17) (by simp; rfl) (by kernel_rfl) (by kernel_rfl) (by kernel_rfl) (fun _ _ _ h => h) (Or.inl ⟨by rfl, ?yab17⟩) hHeld ?rab17
                    case yab17 => intro w hSw; clear hSw; go_simp; with_reducible rfl
                    simp only [Act.put, List.setIfInBounds_toArray, List.set_cons_zero, List.set_cons_succ]
                    refine wpAnyH_ready (rs := [5]) (by kernel_rfl) (by simp) ?_
                    refine AllReadyH.cons (by simp; rfl) (fun Kc hKc => ?_) AllReadyH.nil
                    refine sq_store (p := .pointer (some ⟨w.heap.size + 1, 0, none⟩)) (v := .agg (gcells 0 1 ((⟨s.txs, s.fin, ims⟩ : Sc)).fin (.slice qe ((⟨s.txs, s.fin, ims⟩ : Sc)).txs.length ce)).toArray) (by rfl) 48 rfl rfl rfl TE.out ?_
                    refine hKc.out _ _ (LAt.other hHeld _ TD.out.ne.symm) (fun hHeld => ?_)
                    clear hKc Kc
                    simp only [Act.put]
                    refine wpAnyH_take (i := 6) (v := ?vab18) (by simp; rfl) (by kernel_rfl) (by kernel_rfl) (by kernel_rfl) (fun _ _ _ h => h) (Or.inl ⟨by rfl, ?yab18⟩) hHeld ?rab18
                    case yab18 => intro w hSw; clear hSw; go_simp; with_reducible rfl
                    simp only [Act.put, List.setIfInBounds_toArray, List.set_cons_zero, List.set_cons_succ]
                    clear hHeld
                    refine wpAnyH_done (by kernel_rfl) (NoPanic.normal ?_) _
                    have FF : Hid (_) := TD.out.told
                    clear TD TE
                    go_wp2_with fail
                    exact bodyPost_ret (results_told Tryd.results11 _ _ (w.heap.size + 1) 48 _ _ (by rfl) FF.out.1 Tryd.underlying48 rfl sizeR) rfl ⟨p, L, qe, ce, _, _, _, _, _, (⟨s.txs, s.fin, ims⟩ : Sc), rfl, FF.out.2.1, FF.out.2.2.1, FF.out.2.2.2.1, FF.out.2.2.2.2.1, FF.out.2.2.2.2.2.1, FF.out.2.2.2.2.2.2⟩
                  · have hq : ((k : Int) == (n : Int) - 1) = false := by simp [hkn]
                    go_wp2_with fail
                    have hm0 : moreS g3 = 0 := h3.sty.more (by have := h3.sty.fin_is; rw [hlc]; omega)
                    have hcw3 : ImsWf ims := i4
                    refine (commit_B h3.lb (by have := h3.fin_le; omega) (HT.out.later h3.low) hm0).mono ?_
                    rintro e w6 ⟨rfl, lb6, kt6⟩
                    obtain ⟨q7, c7, V7, hrun7, lg7, ts7⟩ := h3.com hm0 lb6 kt6 (q := q13) (k := ims.length) (m := c13) hcw3 (own_at (own_kt kt6 (by decide) o3) (fun g' hg' => Nat.le_trans hwo (o3.lt g' hg').1) rfl)
                    obtain ⟨qv, cv, hvv, -, -, -⟩ := XOwn.in h3.tx
                    have hfin3 : g3.fin = (al3.length : Int) := h3.sty.fin_is.1
                    have hal3 : al3.length ≤ 64 := by have := h3.sty.fin_is.2; omega
                    have z3 : w6.cell? ⟨w1.heap.size + 1, 3, none⟩ = some (.slice qv s.txs.length cv) := by rw [← hvv]; exact LAt.cell (lat_kt kt6 (by decide) h3.wt) 3
                    rw [hvv] at hrun7
                    have UX : Hid (_) := buildX w6 g3.fin q13 ims.length c13
                    have SX : Hid (_) := build_rtx w6 g3.fin q13 ims.length c13
                    have AP7 : Hid (_) := hrun7
                    have y3 : V7.cell? ⟨w1.heap.size + 1, 3, none⟩ = some v := LAt.cell lg7 3
                    have y3f := LAt.free lg7 3
                    have lg8 := LAt.set lg7 3 (.slice q7 (s.txs.length + 1) c7)
                    have y2 : (V7.setCell ⟨w1.heap.size + 1, 3, none⟩ (.slice q7 (s.txs.length + 1) c7)).cell? ⟨w1.heap.size + 1, 2, none⟩ = some (.int .u64 s.fin) := LAt.cell lg8 2
                    have y2f := LAt.free lg8 2
                    have T7 : Hid (_) := ts7
                    have hadd : IntKind.u64.wrap (g3.fin + 1) = g3.fin + 1 := G.wrap_u (by omega) (by omega)
                    clear hrun7 lg7 lg8 ts7 lb6 kt6 h3 o3 hvv hfin3
                    go_wp2_with (first | (go_at_call 15; refine (num_any _ _).mono ?_; rintro e wn ⟨rfl, rfl⟩) | ((with_reducible refine at_ops ?_); (first | (refine wpList_build_is (vs := [(0, .int .u64 g3.fin), (1, .slice q13 ims.length c13)]) (by rfl) 28 rfl (by rfl) UX.out ?_) | (refine wpList_slice_is (u := .agg #[.int .u64 g3.fin, .slice q13 ims.length c13]) (by rfl) 22 rfl rfl SX.out ?_) | (refine wpList_append_is (u1 := .slice qv s.txs.length cv) (u2 := .slice (some ⟨w6.heap.size, 0, none⟩) 1 1) (by rfl) rfl rfl rfl rfl AP7.out ?_)); simp only [Act.put, List.setIfInBounds_toArray, List.set_cons_zero, List.set_cons_succ]))
                    go_roundw
                    case rel => exact ⟨k + 1, by omega, by go_num, _, _, _, _, _, _, T7.out, rfl⟩
                    case measure => simp [intOf]; omega
                | false =>
                  go_wp2_with fail
                  have hm0 : moreS g3 = 0 := h3.sty.more (by have := h3.sty.fin_is; rw [hlc]; omega)
                  have hcw3 : ImsWf ims := i4
                  refine (commit_B h3.lb (by have := h3.fin_le; omega) (HT.out.later h3.low) hm0).mono ?_
                  rintro e w6 ⟨rfl, lb6, kt6⟩
                  obtain ⟨q7, c7, V7, hrun7, lg7, ts7⟩ := h3.com hm0 lb6 kt6 (q := q13) (k := ims.length) (m := c13) hcw3 (own_at (own_kt kt6 (by decide) o3) (fun g' hg' => Nat.le_trans hwo (o3.lt g' hg').1) rfl)
                  obtain ⟨qv, cv, hvv, -, -, -⟩ := XOwn.in h3.tx
                  have hfin3 : g3.fin = (al3.length : Int) := h3.sty.fin_is.1
                  have hal3 : al3.length ≤ 64 := by have := h3.sty.fin_is.2; omega
                  have z3 : w6.cell? ⟨w1.heap.size + 1, 3, none⟩ = some (.slice qv s.txs.length cv) := by rw [← hvv]; exact LAt.cell (lat_kt kt6 (by decide) h3.wt) 3
                  rw [hvv] at hrun7
                  have UX : Hid (_) := buildX w6 g3.fin q13 ims.length c13
                  have SX : Hid (_) := build_rtx w6 g3.fin q13 ims.length c13
                  have AP7 : Hid (_) := hrun7
                  have y3 : V7.cell? ⟨w1.heap.size + 1, 3, none⟩ = some v := LAt.cell lg7 3
                  have y3f := LAt.free lg7 3
                  have lg8 := LAt.set lg7 3 (.slice q7 (s.txs.length + 1) c7)
                  have y2 : (V7.setCell ⟨w1.heap.size + 1, 3, none⟩ (.slice q7 (s.txs.length + 1) c7)).cell? ⟨w1.heap.size + 1, 2, none⟩ = some (.int .u64 s.fin) := LAt.cell lg8 2
                  have y2f := LAt.free lg8 2
                  have T7 : Hid (_) := ts7
                  have hadd : IntKind.u64.wrap (g3.fin + 1) = g3.fin + 1 := G.wrap_u (by omega) (by omega)
                  clear hrun7 lg7 lg8 ts7 lb6 kt6 h3 o3 hvv hfin3
                  go_wp2_with (first | (go_at_call 15; refine (num_any _ _).mono ?_; rintro e wn ⟨rfl, rfl⟩) | ((with_reducible refine at_ops ?_); (first | (refine wpList_build_is (vs := [(0, .int .u64 g3.fin), (1, .slice q13 ims.length c13)]) (by rfl) 28 rfl (by rfl) UX.out ?_) | (refine wpList_slice_is (u := .agg #[.int .u64 g3.fin, .slice q13 ims.length c13]) (by rfl) 22 rfl rfl SX.out ?_) | (refine wpList_append_is (u1 := .slice qv s.txs.length cv) (u2 := .slice (some ⟨w6.heap.size, 0, none⟩) 1 1) (by rfl) rfl rfl rfl rfl AP7.out ?_)); simp only [Act.put, List.setIfInBounds_toArray, List.set_cons_zero, List.set_cons_succ]))
                  go_roundw
                  case rel => exact ⟨k + 1, by omega, by go_num, _, _, _, _, _, _, T7.out, rfl⟩
                  case measure => simp [intOf]; omega
    · obtain rfl : n = k := by omega
      clear hts
      go_wp2_with fail
      obtain ⟨qe, ce, hve, -, -, -⟩ := XOwn.in TR.out.tx
      have TV := TR.out
      rw [hve] at TV
      have TX : Hid (_) := TV
      clear TV
      refine wp_region_noPanic ?_
      refine wp_region_held_drew (S := fun W => LAt 48 W (w1.heap.size + 1) (gcells 0 1 (s).fin (.slice qe (s).txs.length ce))) (by kernel_rfl) (TX.out.later (below_drawn 1)).wt (fun hHeld => ?_)
      have TD : Hid (_) := TX.out.later (show Below (wo).heap.size (wo) (wo).drew from below_drawn 1)
      clear TX
      generalize (wo).drew = wd at *
      have TE : Hid (_) := LAt.store (ds := gcells 0 1 (s).fin (.slice qe (s).txs.length ce)) TD.out.rs sizeR rfl (all_oneCell_toArray (gcells_ones rfl 0 1 (s).fin))
      refine wpAnyH_take (i := 0) (v := ?va19) (by simp; rfl) (by kernel_rfl) (by kernel_rfl) (by kernel_rfl) (fun _ _ _ h => h) (Or.inl ⟨by rfl, ?ya19⟩) hHeld ?ra19
      case ya19 => intro w hSw; clear hSw; go_simp; with_reducible rfl
      simp only [Act.put, List.setIfInBounds_toArray, List.set_cons_zero, List.set_cons_succ]
      refine wpAnyH_take (i := 1) (v := ?va20) (by simp; rfl) (by kernel_rfl) (by kernel_rfl) (by kernel_rfl) (fun _ _ _ h => h) (Or.inl ⟨by rfl, ?ya20⟩) hHeld ?ra20
      case ya20 => intro w hSw; clear hSw; go_simp; with_reducible rfl
      simp only [Act.put, List.setIfInBounds_toArray, List.set_cons_zero, List.set_cons_succ]
      refine wpAnyH_take (i := 2) (v := _) (by simp; rfl) (by kernel_rfl) (by kernel_rfl) (by kernel_rfl) (fun _ _ _ h => h) (yieldsIf_load_mid (by rfl) 48 (.tmp 7) rfl (w1.heap.size + 1) 0 rfl (gcells 0 1 (s).fin (.slice qe (s).txs.length ce)) _ (fun _ h => LAt.range h) Tryd.underlying48 rfl sizeR) hHeld ?_
      simp only [Act.put, List.setIfInBounds_toArray, List.set_cons_zero, List.set_cons_succ]
      refine wpAnyH_take (i := 3) (v := ?va21) (by simp; rfl) (by kernel_rfl) (by kernel_rfl) (by kernel_rfl) (fun _ _ _ h => h) (Or.inl ⟨by rfl, ?ya21⟩) hHeld ?ra21
      case ya21 => intro w hSw; clear hSw; go_simp; with_reducible rfl
      simp only [Act.put, List.setIfInBounds_toArray, List.set_cons_zero, List.set_cons_succ]
      refine wpAnyH_take (i := 4) (v := ?va22) (by simp; rfl) (by kernel_rfl) (by kernel_rfl) (by kernel_rfl) (fun _ _ _ h => h) (Or.inl ⟨by rfl, ?ya22⟩) hHeld ?ra22
      case ya22 => intro w hSw; clear hSw; go_simp; with_reducible rfl
      simp only [Act.put, List.setIfInBounds_toArray, List.set_cons_zero, List.set_cons_succ]
      refine wpAnyH_ready (rs := [5]) (by kernel_rfl) (by simp) ?_
      refine AllReadyH.cons (by simp; rfl) (fun Kc hKc => ?_) AllReadyH.nil
      refine sq_store (p := .pointer (some ⟨w.heap.size + 1, 0, none⟩)) (v := .agg (gcells 0 1 (s).fin (.slice qe (s).txs.length ce)).toArray) (by rfl) 48 rfl rfl rfl TE.out ?_
      refine hKc.out _ _ (LAt.other hHeld _ TD.out.ne.symm) (fun hHeld => ?_)
      clear hKc Kc
      simp only [Act.put]
      refine wpAnyH_take (i := 6) (v := ?va23) (by simp; rfl) (by kernel_rfl) (by kernel_rfl) (by kernel_rfl) (fun _ _ _ h => h) (Or.inl ⟨by rfl, ?ya23⟩) hHeld ?ra23
      case ya23 => intro w hSw; clear hSw; go_simp; with_reducible rfl
      simp only [Act.put, List.setIfInBounds_toArray, List.set_cons_zero, List.set_cons_succ]
      clear hHeld
      refine wpAnyH_done (by kernel_rfl) (NoPanic.normal ?_) _
      have FF : Hid (_) := TD.out.told
      clear TD TE
      go_wp2_with fail
      exact bodyPost_ret (results_told Tryd.results11 _ _ (w.heap.size + 1) 48 _ _ (by rfl) FF.out.1 Tryd.underlying48 rfl sizeR) rfl ⟨p, L, qe, ce, _, _, _, _, _, s, rfl, FF.out.2.1, FF.out.2.2.1, FF.out.2.2.2.1, FF.out.2.2.2.2.1, FF.out.2.2.2.2.2.1, FF.out.2.2.2.2.2.2⟩
end Go.Proofs.YtefnkjajjidfaaaDoor
