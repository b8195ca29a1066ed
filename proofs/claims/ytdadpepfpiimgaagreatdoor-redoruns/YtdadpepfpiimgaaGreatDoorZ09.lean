import Derived.Test.YtdadpepfpiimgaaGreatDoorZ07
import Derived.Test.YtdadpepfpiimgaaGreatDoorZ08
import Derived.RangeFuncNested
import Derived.RangeFuncBound
import Derived.Shelf.RegionOpen
import Derived.OwnWalkIn
import Derived.LoopNIn
import Derived.LoopIn
set_option maxHeartbeats 20000000
set_option maxRecDepth 100000
namespace Go.Proofs.YtdadpepfpiimgaaGreatDoor
theorem may_wf (s : Sup) (h : May s) (h1 : 0 ≤ s.tail) : s.Wf := by
  obtain ⟨⟨a1, a2, a3, a4, a5⟩, a6, a7, a8⟩ := h
  refine ⟨?_, ?_, ?_, ?_, ?_, ?_, ?_⟩ <;> first | (simp only [i64]; omega) | (simp only [u64]; omega)
end Go.Proofs.YtdadpepfpiimgaaGreatDoor
namespace Go.Proofs.YtdadpepfpiimgaaGreatDoor
theorem newk_length {ws : List Wr} {d : List Int} {n i : Nat} (hd : d.length = 64 * n) (hw : Fit n ws) (hi : i < n) : ∀ k, (newk ws d i k).length = 64
  | 0 => sec_length hd hi
  | k + 1 => by
    by_cases hk : k < ws.length
    · rw [newk_step ws d i k hk]
      split
      · exact (hw.at k hk).2.1
      · exact newk_length hd hw hi k
    · simp [newk, List.getElem?_eq_none (show ws.length ≤ k by omega)]; exact newk_length hd hw hi k
end Go.Proofs.YtdadpepfpiimgaaGreatDoor
namespace Go.Proofs.YtdadpepfpiimgaaGreatDoor
def hbody (b : Int) (v : List Int) : List Int := [72, 79, 77, 69, 1, b] ++ (zs 22 ++ v)
def homeS (b : Int) (v : List Int) : List Int := hbody b v ++ digits 4 (crc (hbody b v) : Nat)
abbrev inB (b : Int) : Prop := 0 ≤ b ∧ b < 64
theorem hbody_len {v : List Int} (b : Int) (h : v.length = 32) : (hbody b v).length = 60 := by simp [hbody, zs_len, h]
theorem homeS_len {v : List Int} (b : Int) (h : v.length = 32) : (homeS b v).length = 64 := by simp [homeS, hbody_len b h, digits_length]
theorem hbody_bytes {b : Int} {v : List Int} (hb : inB b) (hv : Bytes v) : Bytes (hbody b v) := by
  unfold hbody
  refine Bytes.append ?_ ((zs_bytes 22).append hv)
  intro x hx; simp at hx; omega
theorem homeS_bytes {b : Int} {v : List Int} (hb : inB b) (hv : Bytes v) : Bytes (homeS b v) := (hbody_bytes hb hv).append (digits_bytes _ _)
def cutV (bs : List Int) : List Int := (bs.drop 28).take 32
theorem cutV_len {bs : List Int} (h : bs.length = 64) : (cutV bs).length = 32 := by simp [cutV]; omega
theorem cutV_bytes {bs : List Int} (h : Bytes bs) : Bytes (cutV bs) := (h.drop _).take _
def hdec (bs : List Int) (b : Int) : List Int × Int := if inB b then (if bs.length = 64 then (if homeS b (cutV bs) = bs then (cutV bs, 0) else (zs 32, 80)) else (zs 32, 2)) else (zs 32, 51)
theorem hdec_out (bs : List Int) {b : Int} (h : ¬ inB b) : hdec bs b = (zs 32, 51) := if_neg h
theorem hdec_short {bs : List Int} {b : Int} (h : inB b) (hl : bs.length ≠ 64) : hdec bs b = (zs 32, 2) := by unfold hdec; rw [if_pos h, if_neg hl]
theorem hdec_ok {bs : List Int} {b : Int} (h : inB b) (hl : bs.length = 64) (he : homeS b (cutV bs) = bs) : hdec bs b = (cutV bs, 0) := by unfold hdec; rw [if_pos h, if_pos hl, if_pos he]
theorem hdec_bad {bs : List Int} {b : Int} (h : inB b) (hl : bs.length = 64) (he : ¬ homeS b (cutV bs) = bs) : hdec bs b = (zs 32, 80) := by unfold hdec; rw [if_pos h, if_pos hl, if_neg he]
theorem hdec_cases (bs : List Int) (b : Int) : (hdec bs b = (zs 32, 51) ∧ ¬ inB b) ∨ (hdec bs b = (zs 32, 2) ∧ inB b ∧ bs.length ≠ 64) ∨ (hdec bs b = (cutV bs, 0) ∧ inB b ∧ bs.length = 64 ∧ homeS b (cutV bs) = bs) ∨ (hdec bs b = (zs 32, 80) ∧ inB b ∧ bs.length = 64 ∧ ¬ homeS b (cutV bs) = bs) := by
  by_cases h : inB b
  · by_cases hl : bs.length = 64
    · by_cases he : homeS b (cutV bs) = bs
      · exact .inr (.inr (.inl ⟨hdec_ok h hl he, h, hl, he⟩))
      · exact .inr (.inr (.inr ⟨hdec_bad h hl he, h, hl, he⟩))
    · exact .inr (.inl ⟨hdec_short h hl, h, hl⟩)
  · exact .inl ⟨hdec_out bs h, h⟩
theorem hdec_len (bs : List Int) (b : Int) : (hdec bs b).1.length = 32 := by
  rcases hdec_cases bs b with ⟨e, _⟩ | ⟨e, _⟩ | ⟨e, _, h, _⟩ | ⟨e, _⟩ <;> rw [e]
  · exact zs_len 32
  · exact zs_len 32
  · exact cutV_len h
  · exact zs_len 32
def sup1 (s : Sup) : Sup := ⟨s.bl, s.lc, s.mr, s.hi, s.cl, 0, 1⟩
theorem sup1_mayT (s : Sup) : MayT (sup1 s) := ⟨by show (0 : Int) ≤ _; omega, by show (1 : Int) ≤ 1; omega, by show (1 : Int) ≤ _; omega⟩
theorem sup1_chk (s : Sup) : chk (sup1 s) = cfg s := by
  unfold chk cfg
  by_cases h : MayC s
  · rw [if_pos (show MayC (sup1 s) from h), if_pos (sup1_mayT s), if_pos h]
  · rw [if_neg (show ¬ MayC (sup1 s) from h), if_neg h]
theorem sup1_may {s : Sup} (h : MayC s) : May (sup1 s) := ⟨h, sup1_mayT s⟩
theorem sup1_wf {s : Sup} (h : MayC s) : (sup1 s).Wf := may_wf _ (sup1_may h) (by show (0 : Int) ≤ 0; omega)
def homes (n : Nat) : List Int := ((List.range n).map fun (i : Nat) => homeS (i : Int) (zs 32)).flatten
theorem homes_succ (n : Nat) : homes (n + 1) = homes n ++ homeS (n : Int) (zs 32) := by simp [homes, List.range_succ]
theorem homes_bytes (n : Nat) (h : n ≤ 64) : Bytes (homes n) := by
  induction n with
  | zero => exact Bytes.nil
  | succ n ih => rw [homes_succ]; exact (ih (by omega)).append (homeS_bytes ⟨by omega, by omega⟩ (zs_bytes 32))
def newS (s : Sup) : List Int := encS (sup1 s) ++ homes s.bl.toNat ++ zs (64 * s.lc.toNat)
def cntS (s : Sup) : Nat := 1 + s.bl.toNat + s.lc.toNat
theorem cntS_bd {s : Sup} (h : MayC s) : 4 ≤ cntS s ∧ cntS s ≤ 129 := by have := h.1; have := h.2.1; unfold cntS; omega
theorem newS_bytes {s : Sup} (h : MayC s) : Bytes (newS s) := by
  have := h.1
  exact ((encS_bytes _).append (homes_bytes _ (by omega))).append (zs_bytes _)
def rfS (s : Sup) (n : Int) : Int := if MayC s then (if n = 1 + s.bl + s.lc then 0 else 40) else 3
theorem rfS_no {s : Sup} (n : Int) (h : ¬ MayC s) : rfS s n = 3 := if_neg h
theorem rfS_len {s : Sup} {n : Int} (h : MayC s) (h2 : ¬ n = 1 + s.bl + s.lc) : rfS s n = 40 := by unfold rfS; rw [if_pos h, if_neg h2]
theorem rfS_ok {s : Sup} {n : Int} (h : MayC s) (h2 : n = 1 + s.bl + s.lc) : rfS s n = 0 := by unfold rfS; rw [if_pos h, if_pos h2]
theorem rfS_zero {s : Sup} {n : Int} (h : rfS s n = 0) : MayC s ∧ n = 1 + s.bl + s.lc := by
  unfold rfS at h
  by_cases c : MayC s
  · rw [if_pos c] at h
    by_cases c2 : n = 1 + s.bl + s.lc
    · exact ⟨c, c2⟩
    · rw [if_neg c2] at h; omega
  · rw [if_neg c] at h; omega
def rbS (s : Sup) (n : Int) (b : Int) : Int := if rfS s n = 0 then (if 0 ≤ b ∧ b < s.bl then 0 else 51) else rfS s n
theorem rbS_no {s : Sup} {n : Int} (b : Int) (h : ¬ rfS s n = 0) : rbS s n b = rfS s n := if_neg h
theorem rbS_out {s : Sup} {n b : Int} (h : rfS s n = 0) (h2 : ¬ (0 ≤ b ∧ b < s.bl)) : rbS s n b = 51 := by unfold rbS; rw [if_pos h, if_neg h2]
theorem rbS_ok {s : Sup} {n b : Int} (h : rfS s n = 0) (h2 : 0 ≤ b ∧ b < s.bl) : rbS s n b = 0 := by unfold rbS; rw [if_pos h, if_pos h2]
theorem rbS_zero {s : Sup} {n b : Int} (h : rbS s n b = 0) : rfS s n = 0 ∧ 0 ≤ b ∧ b < s.bl := by
  unfold rbS at h
  by_cases c : rfS s n = 0
  · rw [if_pos c] at h
    by_cases c2 : 0 ≤ b ∧ b < s.bl
    · exact ⟨c, c2⟩
    · rw [if_neg c2] at h; omega
  · rw [if_neg c] at h; exact absurd h c
theorem rbS_in {s : Sup} {n b : Int} (h : rbS s n b = 0) : inB b ∧ 0 ≤ 1 + b ∧ 1 + b < n := by
  obtain ⟨h1, h2, h3⟩ := rbS_zero h
  obtain ⟨h4, h5⟩ := rfS_zero h1
  have := h4.1; have := h4.2.1
  refine ⟨⟨?_, ?_⟩, ?_, ?_⟩ <;> omega
def svW (s : Sup) (n : Int) (ws : List Wr) (b : Int) (v : List Int) : List Wr := if rbS s n b = 0 then ws ++ [⟨(1 + b).toNat, homeS b v⟩] else ws
theorem svW_yes {s : Sup} {n b : Int} (ws : List Wr) (v : List Int) (h : rbS s n b = 0) : svW s n ws b v = ws ++ [⟨(1 + b).toNat, homeS b v⟩] := if_pos h
theorem svW_no {s : Sup} {n b : Int} (ws : List Wr) (v : List Int) (h : ¬ rbS s n b = 0) : svW s n ws b v = ws := if_neg h
def ldS (s : Sup) (n : Int) (ws : List Wr) (d : List Int) (b : Int) : List Int × Int := if rbS s n b = 0 then hdec (newest ws d (1 + b).toNat) b else (zs 32, rbS s n b)
theorem ldS_yes {s : Sup} {n b : Int} (ws : List Wr) (d : List Int) (h : rbS s n b = 0) : ldS s n ws d b = hdec (newest ws d (1 + b).toNat) b := if_pos h
theorem ldS_no {s : Sup} {n b : Int} (ws : List Wr) (d : List Int) (h : ¬ rbS s n b = 0) : ldS s n ws d b = (zs 32, rbS s n b) := if_neg h
theorem ldS_len (s : Sup) (n : Int) (ws : List Wr) (d : List Int) (b : Int) : (ldS s n ws d b).1.length = 32 := by
  by_cases h : rbS s n b = 0
  · rw [ldS_yes ws d h]; exact hdec_len _ _
  · rw [ldS_no ws d h]; exact zs_len 32
def vals (s : Sup) (n : Int) (ws : List Wr) (d : List Int) (k : Nat) : List (List Int) := (List.range k).map fun (i : Nat) => (ldS s n ws d (i : Int)).1
theorem vals_succ (s : Sup) (n : Int) (ws : List Wr) (d : List Int) (k : Nat) : vals s n ws d (k + 1) = vals s n ws d k ++ [(ldS s n ws d (k : Int)).1] := by simp [vals, List.range_succ]
theorem vals_length (s : Sup) (n : Int) (ws : List Wr) (d : List Int) (k : Nat) : (vals s n ws d k).length = k := by simp [vals]
theorem vals_each (s : Sup) (n : Int) (ws : List Wr) (d : List Int) (k : Nat) : ∀ l ∈ vals s n ws d k, l.length = 32 := fun l hl => by
  obtain ⟨i, _, rfl⟩ := List.mem_map.1 hl
  exact ldS_len _ _ _ _ _
abbrev allB (s : Sup) (n : Int) (ws : List Wr) (d : List Int) (k : Nat) : Prop := (List.range k).all (fun (i : Nat) => decide ((ldS s n ws d (i : Int)).2 = 0)) = true
theorem allB_iff {s : Sup} {n : Int} {ws : List Wr} {d : List Int} {k : Nat} : allB s n ws d k ↔ ∀ i : Nat, i < k → (ldS s n ws d (i : Int)).2 = 0 := by simp [allB]
theorem allB_succ {s : Sup} {n : Int} {ws : List Wr} {d : List Int} {k : Nat} (h : allB s n ws d k) (hk : (ldS s n ws d (k : Int)).2 = 0) : allB s n ws d (k + 1) := allB_iff.2 fun i hi => by
  by_cases c : i < k
  · exact allB_iff.1 h i c
  · obtain rfl : i = k := by omega
    exact hk
def alS (s : Sup) (n : Int) (ws : List Wr) (d : List Int) : List (List Int) × Int := if rfS s n = 0 then (if allB s n ws d s.bl.toNat then (vals s n ws d s.bl.toNat, 0) else ([], 80)) else ([], rfS s n)
theorem alS_no {s : Sup} {n : Int} (ws : List Wr) (d : List Int) (h : ¬ rfS s n = 0) : alS s n ws d = ([], rfS s n) := if_neg h
theorem alS_ok {s : Sup} {n : Int} {ws : List Wr} {d : List Int} (h : rfS s n = 0) (h2 : allB s n ws d s.bl.toNat) : alS s n ws d = (vals s n ws d s.bl.toNat, 0) := by unfold alS; rw [if_pos h, if_pos h2]
theorem alS_bad {s : Sup} {n : Int} {ws : List Wr} {d : List Int} (h : rfS s n = 0) (k : Nat) (hk : k < s.bl.toNat) (h2 : ¬ (ldS s n ws d (k : Int)).2 = 0) : alS s n ws d = ([], 80) := by unfold alS; rw [if_pos h, if_neg (fun a => h2 (allB_iff.1 a k hk))]
theorem ldS_err {s : Sup} {n : Nat} {ws : List Wr} {d : List Int} {b : Int} (hd : d.length = 64 * n) (hf : Fit n ws) (hr : rbS s n b = 0) (h : ¬ (ldS s n ws d b).2 = 0) : (ldS s n ws d b).2 = 80 := by
  obtain ⟨h1, h2, h3⟩ := rbS_in hr
  rw [ldS_yes ws d hr] at h ⊢
  have hl : (newest ws d (1 + b).toNat).length = 64 := newk_length hd hf (by omega) _
  rcases hdec_cases (newest ws d (1 + b).toNat) b with ⟨e, c⟩ | ⟨e, _, c⟩ | ⟨e, _⟩ | ⟨e, _⟩
  · exact absurd h1 c
  · exact absurd hl c
  · rw [e] at h; exact absurd rfl h
  · rw [e]
end Go.Proofs.YtdadpepfpiimgaaGreatDoor
namespace Go.Proofs.YtdadpepfpiimgaaGreatDoor
open Go.RowKit
theorem places29 : placesOf Tryz.prog 121 = some plS := by kernel_rfl
theorem zero29 : (Tryz.prog.info? 121).bind (·.zero) = some (.agg (scells sup0).toArray) := by kernel_rfl
theorem fill_cfg (r s : Sup) (rest : List (Nat × Value)) : Instr.fill (plS.toArray[·]?) (scells r).toArray ((0, .agg (ccells s).toArray) :: rest) = Instr.fill (plS.toArray[·]?) (scells ⟨s.bl, s.lc, s.mr, s.hi, s.cl, r.tail, r.life⟩).toArray rest :=
  fill_step 0 5 0 rfl _ (ccells s) _ rfl rfl (by rw [scells_len]; omega) rest
theorem fill_tail (r : Sup) (x : Int) (rest : List (Nat × Value)) : Instr.fill (plS.toArray[·]?) (scells r).toArray ((1, .int .u64 x) :: rest) = Instr.fill (plS.toArray[·]?) (scells ⟨r.bl, r.lc, r.mr, r.hi, r.cl, x, r.life⟩).toArray rest :=
  fill_step 5 1 1 rfl _ [.int .u64 x] _ rfl rfl (by rw [scells_len]; omega) rest
theorem fill_life (r : Sup) (x : Int) (rest : List (Nat × Value)) : Instr.fill (plS.toArray[·]?) (scells r).toArray ((2, .int .u64 x) :: rest) = Instr.fill (plS.toArray[·]?) (scells ⟨r.bl, r.lc, r.mr, r.hi, r.cl, r.tail, x⟩).toArray rest :=
  fill_step 6 1 2 rfl _ [.int .u64 x] _ rfl rfl (by rw [scells_len]; omega) rest
theorem fill_all (s : Sup) : Instr.fill (plS.toArray[·]?) (scells sup0).toArray [(0, .agg (ccells s).toArray), (1, .int .u64 s.tail), (2, .int .u64 s.life)] = some (scells s).toArray := by
  rw [fill_cfg, fill_tail, fill_life]; rfl
theorem build29 (w : World) (parts : Array (Nat × Value)) (r : Sup) (h : Instr.fill (plS.toArray[·]?) (scells sup0).toArray parts.toList = some (scells r).toArray) : (Instr.build 121 parts).run Tryz.prog w = .ok (.agg (scells r).toArray) w :=
  run_build w 121 _ _ ((built_of 121 _ _ _ places29 zero29).trans h)
end Go.Proofs.YtdadpepfpiimgaaGreatDoor
namespace Go.Proofs.YtdadpepfpiimgaaGreatDoor
open Go.RowKit
theorem below_setCells {B g : Nat} (hg : B ≤ g) : ∀ (vs : List Value) (o : Nat) (w w' : World), Below B w w' → Below B w (w'.setCells g o vs)
  | [], _, _, _, h => h
  | v :: r, o, w, w', h => below_setCells hg r (o + 1) w _ (h.setCell (by simpa using hg) v)
end Go.Proofs.YtdadpepfpiimgaaGreatDoor
namespace Go.Proofs.YtdadpepfpiimgaaGreatDoor
open Go.RowKit
theorem size71 : (Tryz.prog.info? 109).map (·.size) = some 128 := by kernel_rfl
end Go.Proofs.YtdadpepfpiimgaaGreatDoor
namespace Go.Proofs.YtdadpepfpiimgaaGreatDoor
open Go.RowKit
theorem places71 : placesOf Tryz.prog 109 = some [(0, 64), (64, 64)] := by kernel_rfl
theorem zero71 : (Tryz.prog.info? 109).bind (·.zero) = some (.agg (List.replicate 128 (Value.int .u8 0)).toArray) := by kernel_rfl
theorem zero694 : (Tryz.prog.info? 107).bind (·.zero) = some (.agg (List.replicate 64 (Value.int .u8 0)).toArray) := by kernel_rfl
theorem built71 (a b : List Int) (ha : a.length = 64) (hb : b.length = 64) : Tryz.prog.built 109 [(0, .agg (U8 a).toArray), (1, .agg (U8 b).toArray)] = some (U8 a ++ U8 b).toArray := by
  rw [built_of 109 _ _ _ places71 zero71]
  exact fill_two4 _ _ 0 64 64 64 rfl _ _ (U8 a) (U8 b) rfl rfl (by rw [U8_length, ha]) (by rw [U8_length, hb]) rfl rfl (by simp)
theorem run_build71 (w : World) (a b : List Int) (ha : a.length = 64) (hb : b.length = 64) : (Instr.build 109 #[(0, .agg (U8 a).toArray), (1, .agg (U8 b).toArray)]).run Tryz.prog w = .ok (.agg (U8 a ++ U8 b).toArray) w :=
  run_build w 109 _ _ (built71 a b ha hb)
def Z69 : Array Value := (List.replicate 64 (Value.int .u8 0)).toArray
theorem Z69_size : Z69.size = 64 := by simp [Z69]
theorem run_alloc69 (w : World) : (Instr.alloc 107 true (.tuple #[])).run Tryz.prog w = .ok (.pointer (some ⟨w.heap.size, 0, none⟩)) (w.alloc (.cells Z69 107)) := by
  simp only [Instr.alloc, Sem.run_bind, zv4 107 _ zero694, Result.andThen_ok]
  simp [newVar, newRow, Value.cells, Z69]
theorem run_store69 (w : World) (b : List Int) (hb : b.length = 64) : (Instr.storeAt 107 (.pointer (some ⟨w.heap.size, 0, none⟩)) (.agg (U8 b).toArray)).run Tryz.prog (w.alloc (.cells Z69 107)) = .ok () (w.alloc (.cells (U8 b).toArray 107)) :=
  run_store_new w 107 Z69 _ (by simp [Z69_size, hb]) (by rw [size69]; simp [hb]) (u8_ones b)
theorem wpList_alloc69 {ops : Array Oper} {rest : List Oper} {o : Oper} {a : Act} {w : World} {Q : Exit → Act → World → Prop} (hgd : o.guard = none) (ho : o.op = .alloc 107)
    (h : wpList Tryz.prog ops Q rest (a.put o.dst (.pointer (some ⟨w.heap.size, 0, none⟩))) (w.alloc (.cells Z69 107))) : wpList Tryz.prog ops Q (o :: rest) a w :=
  wpList_plain hgd fun _ hK => wp_val (by unfold execOp; simp only [ho, Sem.run_bind, run_alloc69, Result.andThen_ok, Sem.run_pure]) (hK _ _ h)
theorem wpList_store69 {ops : Array Oper} {rest : List Oper} {o : Oper} {a : Act} {w : World} {Q : Exit → Act → World → Prop} (hgd : o.guard = none) (x y : Operand) (ho : o.op = .store 107 x y) (b : List Int) (hx : a.eval x = .pointer (some ⟨w.heap.size, 0, none⟩)) (hy : a.eval y = .agg (U8 b).toArray) (hb : b.length = 64)
    (h : wpList Tryz.prog ops Q rest (a.put o.dst undef) (w.alloc (.cells (U8 b).toArray 107))) : wpList Tryz.prog ops Q (o :: rest) a (w.alloc (.cells Z69 107)) :=
  wpList_plain hgd fun _ hK => wp_skip' (by unfold execOp; simp only [ho, hx, hy, Sem.run_bind, run_store69 w b hb, Result.andThen_ok, Sem.run_pure]) (hK _ _ h)
theorem yields_build71 {ops : Array Oper} {S : World → Prop} {o : Oper} {a : Act} (hw : Region.wanted o (yielded ops a.tmps) = true) (x y : Operand) (ho : o.op = .build 109 #[(0, x), (1, y)]) (b c : List Int) (hx : a.eval x = .agg (U8 b).toArray) (hy : a.eval y = .agg (U8 c).toArray) (hb : b.length = 64) (hc : c.length = 64) : YieldsIf Tryz.prog ops S o (.agg (U8 b ++ U8 c).toArray) a :=
  .inl ⟨hw, fun w _ => by
    have e : (#[(0, x), (1, y)] : Array (Nat × Operand)).map (fun (i, x) => (i, a.eval x)) = #[(0, a.eval x), (1, a.eval y)] := by simp
    unfold execOp; simp only [ho]; rw [e, hx, hy]; simp only [Sem.run_bind, run_build71 w b c hb hc, Result.andThen_ok, Sem.run_pure]⟩
end Go.Proofs.YtdadpepfpiimgaaGreatDoor
namespace Go.Proofs.YtdadpepfpiimgaaGreatDoor
open Go.RowKit
theorem sizeV : (Tryz.prog.info? 39).map (·.size) = some 32 := by kernel_rfl
theorem sizeW : (Tryz.prog.info? 239).map (·.size) = some 64 := by kernel_rfl
theorem zeroV : (Tryz.prog.info? 39).bind (·.zero) = some (.agg (U8 (zs 32)).toArray) := by kernel_rfl
theorem sizeOf5 (w : World) : (sizeOf 5).run Tryz.prog w = .ok 1 w := by
  cases hi : Tryz.prog.info? 5 with
  | none => have := size5; simp [hi] at this
  | some i =>
    have h := size5
    simp only [hi, Option.map_some, Option.some.injEq] at h
    simp [sizeOf, typeInfo, hi, h]
theorem all_range_eq : ∀ (xs ys : List Int), xs.length = ys.length → ((List.range xs.length).all fun i => xs.getD i 0 == ys.getD i 0) = decide (xs = ys)
  | [], [], _ => rfl
  | x :: xs, y :: ys, h => by
    have ih := all_range_eq xs ys (by simpa using h)
    rw [List.length_cons, List.range_succ_eq_map, List.all_cons, List.all_map]
    simp only [List.getD_cons_zero, Function.comp_def, List.getD_cons_succ, ih]
    rw [Bool.eq_iff_iff]
    simp
  | [], _ :: _, h => by simp at h
  | _ :: _, [], h => by simp at h
theorem equalW (w : World) (d : Nat) (xs ys : List Int) (hx : xs.length = 64) (hy : ys.length = 64) :
    (Op.equalIn (d + 2) 239 (.agg (U8 xs).toArray) (.agg (U8 ys).toArray)).run Tryz.prog w = .ok (decide (xs = ys)) w := by
  rw [← all_range_eq xs ys (hx.trans hy.symm), hx, List.range_eq_range', Op.equalIn]
  simp only [Sem.run_bind, run_underlying Tryz.underlying239, Result.andThen_ok, sizeOf5, Std.Legacy.Range.forIn_eq_forIn_range', Std.Legacy.Range.size, Nat.sub_zero, Nat.add_sub_cancel, Nat.div_one]
  have hl : ∀ i ∈ List.range' 0 64 1, i < 64 := fun i hi => by simpa using (List.mem_range'_1.1 hi).2
  generalize List.range' 0 64 1 = l at hl ⊢
  induction l with
  | nil => simp
  | cons i l ih =>
    have hi : i < 64 := hl i (by simp)
    have px : (part 5 (U8 xs).toArray (i * 1)).run Tryz.prog w = .ok (.int .u8 (xs.getD i 0)) w := by
      simp [part, isAgg, run_underlying Tryz.underlying5, List.getD, List.getElem?_eq_getElem (show i < xs.length by omega)]
    have py : (part 5 (U8 ys).toArray (i * 1)).run Tryz.prog w = .ok (.int .u8 (ys.getD i 0)) w := by
      simp [part, isAgg, run_underlying Tryz.underlying5, List.getD, List.getElem?_eq_getElem (show i < ys.length by omega)]
    have pe : (Op.equalIn (d + 1) 5 (.int .u8 (xs.getD i 0)) (.int .u8 (ys.getD i 0))).run Tryz.prog w = .ok (xs.getD i 0 == ys.getD i 0) w := run_equalIn_int w d 5 .u8 .u8 _ _ Tryz.underlying5
    simp only [List.forIn_cons, Sem.run_bind, px, py, pe, Result.andThen_ok, List.all_cons]
    cases hb : (xs.getD i 0 == ys.getD i 0)
    · simp
    · simp only [Bool.not_true, Bool.false_eq_true, if_false, Sem.run_pure, Result.andThen_ok, Bool.true_and]
      exact ih fun j hj => hl j (by simp [hj])
theorem neqW (w : World) (xs ys : List Int) (hx : xs.length = 64) (hy : ys.length = 64) :
    (binOp .neq 239 (.agg (U8 xs).toArray) (.agg (U8 ys).toArray)).run Tryz.prog w = .ok (.bool (!decide (xs = ys))) w := by
  rw [run_neq_struct, equalW w 9998 xs ys hx hy]
  rfl
theorem eqgW : Tryz.prog.eqGuardType Tryz.prog.depth 239 = false := by kernel_rfl
theorem allV (v : List Int) : (U8 v).toArray.all (·.oneCell') = true := all_oneCell_toArray (ones_u8 v)
theorem allocV (w : World) : (Instr.alloc 39 true (.tuple #[])).run Tryz.prog w = .ok (.pointer (some ⟨w.heap.size, 0, none⟩)) (w.alloc (.cells (U8 (zs 32)).toArray 39)) := by
  simp only [Instr.alloc, Sem.run_bind, zv 39 _ zeroV, Result.andThen_ok]
  simp [newVar, newRow, Value.cells]
theorem buildV (w : World) : (Instr.build 39 #[]).run Tryz.prog w = .ok (.agg (U8 (zs 32)).toArray) w := run_build w 39 _ _ (by kernel_rfl)
abbrev VAt (w : World) (g : Nat) (v : List Int) : Prop := LAt 39 w g (U8 v)
theorem VAt.load {w : World} {g : Nat} {v : List Int} (h : VAt w g v) (hv : v.length = 32) : (Instr.loadAt 39 (.pointer (some ⟨g, 0, none⟩))).run Tryz.prog w = .ok (.agg (U8 v).toArray) w :=
  run_loadAt_mid w g 0 39 (U8 v) _ (LAt.range h) Tryz.underlying39 rfl (by rw [sizeV, U8_length, hv])
theorem VAt.store {w : World} {g : Nat} {u v : List Int} (h : VAt w g u) (hu : u.length = 32) (hv : v.length = 32) : (Instr.storeAt 39 (.pointer (some ⟨g, 0, none⟩)) (.agg (U8 v).toArray)).run Tryz.prog w = .ok () (w.setRow g (U8 v).toArray) :=
  LAt.store (ds := U8 v) h (by rw [sizeV, U8_length, hv]) (by rw [U8_length, U8_length, hu, hv]) (allV v)
theorem store_newV (w : World) (v : List Int) (hv : v.length = 32) : (Instr.storeAt 39 (.pointer (some ⟨w.heap.size, 0, none⟩)) (.agg (U8 v).toArray)).run Tryz.prog (w.alloc (.cells (U8 (zs 32)).toArray 39)) = .ok () (w.alloc (.cells (U8 v).toArray 39)) := by
  rw [VAt.store (LAt.new 39 w (U8 (zs 32))) (zs_len 32) hv, setRow_alloc]
theorem VAt.bin {w : World} {g : Nat} {v : List Int} (h : VAt w g v) (hv : v.length = 32) (hb : Bytes v) : BIn w (some ⟨g, 0, none⟩) 32 v := by
  refine ⟨hv, hb, fun _ => ⟨g, 0, rfl, fun i hi => ?_⟩⟩
  rw [Nat.zero_add, LAt.cell h i]
  simp [U8, List.getD, List.getElem?_eq_getElem (show i < v.length by omega)]
theorem VAt.sin {w : World} {g : Nat} {v : List Int} (h : VAt w g v) (hv : v.length = 32) (hb : Bytes v) : SIn w (.slice (some ⟨g, 0, none⟩) 32 32) v := ⟨_, 32, 32, rfl, h.bin hv hb, Nat.le_refl _, fun e => by cases e⟩
theorem results_val {fn : Func} {p u : Tmp} {ty : TypeId} (h : fn.results = #[.cell p ty, .tmp u]) (tmps : Array Value) (w : World) (g : Nat) (v : List Int) (d : TypeDesc)
    (hp : tmps.getD p undef = .pointer (some ⟨g, 0, none⟩)) (hg : VAt w g v) (hv : v.length = 32) (hu : Tryz.prog.underlying ty = some d) (hd : d.isRow = true) (hi : (Tryz.prog.info? ty).map (·.size) = some 32) :
    (results fn tmps).run Tryz.prog w = .ok (.tuple #[.agg (U8 v).toArray, tmps.getD u undef]) w := by
  rw [results_cell_tmp h, hp]
  simp only [asAddr, Sem.run_pure, Result.andThen_ok, run_loadVar_mid w g 0 ty _ d (LAt.range hg) hu hd (by rw [hi, U8_length, hv])]
theorem BIn.load23 {w : World} {g o : Nat} {xs : List Int} (h : BIn w (some ⟨g, o, none⟩) 32 xs) : (Instr.loadAt 39 (.pointer (some ⟨g, o, none⟩))).run Tryz.prog w = .ok (.agg (U8 xs).toArray) w :=
  run_loadAt_mid w g o 39 (U8 xs) _ h.range Tryz.underlying39 rfl (by rw [sizeV, U8_length, h.len])
theorem at84 (w : World) (a : Addr) (c : Nat) : (Instr.arrayAt 239 (.slice (some a) 64 c)).run Tryz.prog w = .ok (.pointer (some a)) w := run_arrayAt w 239 _ 64 _ 64 c Tryz.underlying239 (by omega)
theorem at23 (w : World) (a : Addr) (c : Nat) : (Instr.arrayAt 39 (.slice (some a) 32 c)).run Tryz.prog w = .ok (.pointer (some a)) w := run_arrayAt w 39 _ 32 _ 32 c Tryz.underlying39 (by omega)
end Go.Proofs.YtdadpepfpiimgaaGreatDoor
namespace Go.Proofs.YtdadpepfpiimgaaGreatDoor
open Go.RowKit
set_option maxHeartbeats 400000 in
set_option maxRecDepth 100000 in
theorem isBlock_any (b n : Int) (w : World) :
    Calls Tryz.prog 84 #[.int .i64 b, .int .i64 n] w fun e w' => e = .returned (.bool (decide (0 ≤ b ∧ b < n))) ∧ w = w' := by
  go_enter Tryz.func84, Tryz.ntmps84
  go_wp2
  all_goals go_ret
  all_goals (refine ⟨?_, rfl⟩; simp; try omega)
set_option maxHeartbeats 400000 in
set_option maxRecDepth 100000 in
theorem hput_any (n : Int) (k : Nat) (w : World) (hn0 : 0 ≤ n) (hk : 1 ≤ k ∧ k ≤ 8) (hn : n / 256 ^ k = 0) :
    Calls Tryz.prog 85 #[.int .u64 n, .int .i64 k] w fun e w' => ∃ p c, e = .returned (.slice p k c) ∧ Made w w' p k c (digits k n) := by
  go_enter Tryz.func85, Tryz.ntmps85
  go_wp2_with fail
  refine (put_ok n k w hn0 hk hn).mono ?_
  rintro e w1 ⟨v, rfl, ho, hb⟩
  obtain ⟨p, c, rfl, hm⟩ := made_of ho (digits_bytes k n) hb
  clear ho hb hn
  go_wp2_with fail
  go_ret
  exact ⟨p, c, rfl, hm⟩
theorem join_three {w : World} (u v x : Value) (xs ys zs : List Int) (hu : SIn w u xs) (hv : SIn w v ys) (hx : SIn w x zs) (n : Nat) (hn : (xs ++ (ys ++ zs)).length = n) (hb : n ≤ 100000) :
    Calls Tryz.prog 82 #[.slice (some ⟨w.heap.size, 0, none⟩) 3 3] (w.alloc (.cells [u, v, x].toArray 27)) fun e w' => e = .returned (.slice (some ⟨w.heap.size + 1, 0, none⟩) n n) ∧ Made w w' (some ⟨w.heap.size + 1, 0, none⟩) n n (xs ++ (ys ++ zs)) := by
  have hs : SIns w [u, v, x] [xs, ys, zs] := ⟨hu, hv, hx, trivial⟩
  have e : [xs, ys, zs].flatten = xs ++ (ys ++ zs) := by simp
  have hB : Bytes (xs ++ (ys ++ zs)) := by
    obtain ⟨_, _, _, _, h1, _⟩ := hu
    obtain ⟨_, _, _, _, h2, _⟩ := hv
    obtain ⟨_, _, _, _, h3, _⟩ := hx
    exact h1.byte.append (h2.byte.append h3.byte)
  have := join_full w.heap.size 0 3 3 [u, v, x] [xs, ys, zs] (w.alloc (.cells [u, v, x].toArray 27)) (pin_new hs 3 rfl) (by omega) (by rw [e, hn]; omega) (by omega)
  rw [e, hn] at this
  refine this.mono ?_
  have e2 : (w.alloc (.cells [u, v, x].toArray 27)).heap.size = w.heap.size + 1 := by simp
  rintro e w' ⟨rfl, ho, hb2⟩
  rw [e2] at ho hb2 ⊢
  have hb3 : Below w.heap.size w w' := (below_alloc w _).trans (hb2.mono (by omega))
  obtain ⟨p, c, e3, hr, hc, hp, _⟩ := own_in ho hB
  simp only [Value.slice.injEq, true_and] at e3
  obtain ⟨rfl, rfl⟩ := e3
  exact ⟨rfl, own_mono ho (by omega), hr, hc, hp, hb3⟩
abbrev HM : Array Value := #[.int .u8 72, .int .u8 79, .int .u8 77, .int .u8 69]
def hm : List Int := [72, 79, 77, 69]
theorem hm_bytes : Bytes hm := by intro x hx; simp [hm] at hx; omega
theorem dig1 (n : Int) (h0 : 0 ≤ n) (h1 : n < 256) : digits 1 n = [n] := by simp [digits]; omega
theorem div1 (n : Int) (h0 : 0 ≤ n) (h1 : n < 256) : n / 256 ^ 1 = 0 := Int.ediv_eq_zero_of_lt h0 (by rw [show (256 : Int) ^ 1 = 256 by decide]; omega)
theorem hbody_is (b : Int) (v : List Int) : (hm ++ ([1] ++ [b]) ++ List.replicate (28 - 6) 0) ++ v = hbody b v := by
  simp [hm, hbody, zs]
set_option maxHeartbeats 2000000 in
set_option maxRecDepth 100000 in
theorem hencode_good (b : Int) (v : List Int) (hb : inB b) (hv : v.length = 32) (hvb : Bytes v) (w : World) (ht : Tab w) :
    Calls Tryz.prog 44 #[.int .i64 b, .agg (U8 v).toArray] w fun e w' => ∃ g, e = .returned (.tuple #[.slice (some ⟨g, 0, none⟩) 64 64, .int .i64 0]) ∧ Made w w' (some ⟨g, 0, none⟩) 64 64 (homeS b v) := by
  obtain ⟨w0, hw0⟩ : ∃ x, x = w.alloc (.cells (U8 v).toArray 39) := ⟨_, rfl⟩
  have ew0 := hw0.symm
  have V0 : Hid (VAt w0 w.heap.size v) := by rw [hw0]; exact LAt.new 39 w (U8 v)
  have B0 : Hid (Below w.heap.size w w0) := by rw [hw0]; exact below_alloc w _
  have HT : Hid (Tab w) := ht
  have HV : Hid (v.length = 32 ∧ Bytes v) := ⟨hv, hvb⟩
  have HB : Hid (inB b) := hb
  have hb0 := hb.1
  have hb1 := hb.2
  clear hw0 ht hv hvb
  go_enter Tryz.func44, Tryz.ntmps44
  go_wp2_with fail
  clear ew0
  refine (isBlock_any b 64 _).mono ?_
  rintro e w1 ⟨rfl, rfl⟩
  rw [decide_eq_true hb]
  clear hb
  have cv := conv_const w0 HM 4 w0.heap.size rfl
  have C1 : Hid (Below w0.heap.size w0 (w0.alloc (.cells HM 5 (4, 5)))) := below_alloc w0 _
  have N1 : Hid (BIn (w0.alloc (.cells HM 5 (4, 5))) (some ⟨w0.heap.size, 0, none⟩) 4 hm) := lit_mark w0 hm 4 (4, 5) rfl hm_bytes
  go_wp2_with fail
  clear cv
  generalize w0.alloc (.cells HM 5 (4, 5)) = w1 at *
  refine (hput_any 1 1 w1 (by omega) (by omega) (by decide)).mono ?_
  rintro e w2 ⟨p2, c2, rfl, m2⟩
  have S2 : Hid (SIn w2 (.slice p2 1 c2) [1]) := m2.sin
  have N2 : Hid (SIn w2 (.slice (some ⟨w0.heap.size, 0, none⟩) 4 4) hm) := ⟨_, 4, 4, rfl, N1.out.later m2.below, Nat.le_refl _, fun e => by cases e⟩
  have C2 : Hid (Below w0.heap.size w0 w2) := below_then C1.out m2.below
  clear m2 N1 C1
  have ks : IntKind.u64.wrap b = b := by rw [IntKind.wrap_u64]; omega
  go_wp2_with fail
  refine (hput_any b 1 w2 hb0 (by omega) (div1 _ hb0 (by omega))).mono ?_
  rintro e w3 ⟨p3, c3, rfl, m3⟩
  have S3 : Hid (SIn w3 (.slice p3 1 c3) [b]) := by have := m3.sin; rw [dig1 b hb0 (by omega)] at this; exact this
  have T3 : Hid (SIn w3 (.slice p2 1 c2) [1]) := S2.out.later m3.below
  have N3 : Hid (SIn w3 (.slice (some ⟨w0.heap.size, 0, none⟩) 4 4) hm) := N2.out.later m3.below
  have C3 : Hid (Below w0.heap.size w0 w3) := below_then C2.out m3.below
  clear m3 S2 N2 C2
  go_wp2_with fail
  refine (join_three _ _ _ _ _ _ N3.out T3.out S3.out 6 (by simp [hm]) (by omega)).mono ?_
  rintro e w4 ⟨rfl, m4⟩
  have N4 : Hid (BIn w4 (some ⟨w3.heap.size + 1, 0, none⟩) 6 (hm ++ ([1] ++ [b]))) := m4.read
  have C4 : Hid (Below w0.heap.size w0 w4) := below_then C3.out m4.below
  clear m4 S3 T3 N3 C3
  go_wp2_with fail
  refine (pad_full (some ⟨w3.heap.size + 1, 0, none⟩) 6 6 (hm ++ ([1] ++ [b])) 28 w4 (by omega) (by omega) N4.out).mono ?_
  rintro e w5 ⟨rfl, g5, b5⟩
  have C5 : Hid (Below w0.heap.size w0 w5) := below_then C4.out b5
  have S5 : Hid (SIn w5 (.slice (some ⟨w4.heap.size, 0, none⟩) 28 28) (hm ++ ([1] ++ [b]) ++ List.replicate (28 - 6) 0)) := by
    have hB : Bytes (hm ++ ([1] ++ [b]) ++ List.replicate (28 - 6) 0) := by
      refine (N4.out.byte).append (zs_bytes 22)
    refine ⟨_, 28, 28, rfl, ⟨by simp [hm], hB, fun _ => ⟨_, 0, rfl, fun i hi => ?_⟩⟩, Nat.le_refl _, fun e => by cases e⟩
    rw [Nat.zero_add, g5.cell i]
    have : i < (hm ++ ([1] ++ [b]) ++ List.replicate (28 - 6) (0 : Int)).length := by simp [hm]; omega
    simp only [U8, List.getElem?_map, List.getElem?_eq_getElem this, List.getD, Option.map_some, Option.getD_some]
  have V5 : Hid (SIn w5 (.slice (some ⟨w.heap.size, 0, none⟩) 32 32) v) := VAt.sin (LAt.later V0.out (below_then (Below.refl _ _) C5.out)) HV.out.1 HV.out.2
  clear g5 b5 C4 N4 V0
  go_wp2_with fail
  refine (join_two _ _ _ _ S5.out V5.out 60 (by rw [hbody_is, hbody_len b HV.out.1]) (by omega)).mono ?_
  rintro e w6 ⟨rfl, m6⟩
  rw [hbody_is] at m6
  have N6 : Hid (SIn w6 (.slice (some ⟨w5.heap.size + 1, 0, none⟩) 60 60) (hbody b v)) := m6.sin
  have C6 : Hid (Below w0.heap.size w0 w6) := below_then C5.out m6.below
  have HL : Hid ((hbody b v).length = 60) := hbody_len b HV.out.1
  clear m6 S5 V5 C5
  go_wp2_with fail
  refine (of_new (some ⟨w5.heap.size + 1, 0, none⟩) 60 60 (hbody b v) N6.out (by rw [HL.out]; omega) (HT.out.later (below_then B0.out C6.out)).half).mono ?_
  rintro e w7 ⟨rfl, b7⟩
  have N7 : Hid (SIn w7 (.slice (some ⟨w5.heap.size + 1, 0, none⟩) 60 60) (hbody b v)) := N6.out.later b7
  have C7 : Hid (Below w0.heap.size w0 w7) := below_then C6.out b7
  have hcl := crc_lt (hbody b v) (hbody_bytes HB.out HV.out.2)
  have HE : Hid (homeS b v = hbody b v ++ digits 4 ((crc (hbody b v) : Nat) : Int)) := rfl
  have HEL : Hid ((homeS b v).length = 64) := homeS_len b HV.out.1
  clear b7 N6 C6
  generalize crc (hbody b v) = S at *
  go_wp2_with fail
  refine (hput_any (S : Int) 4 w7 (by omega) (by omega) (div4 _ (by omega) (by omega))).mono ?_
  rintro e w8 ⟨p8, c8, rfl, m8⟩
  have N8 : Hid (SIn w8 (.slice (some ⟨w5.heap.size + 1, 0, none⟩) 60 60) (hbody b v)) := N7.out.later m8.below
  have S8 : Hid (SIn w8 (.slice p8 4 c8) (digits 4 (S : Int))) := m8.sin
  have C8 : Hid (Below w.heap.size w w8) := below_then B0.out (below_then C7.out m8.below)
  clear m8 N7 C7
  go_wp2_with fail
  refine (join_two _ _ _ _ N8.out S8.out 64 (by rw [← HE.out]; exact HEL.out) (by omega)).mono ?_
  rintro e w9 ⟨rfl, m9⟩
  rw [← HE.out] at m9
  have M9 : Hid (Made w8 w9 (some ⟨w8.heap.size + 1, 0, none⟩) 64 64 (homeS b v)) := m9
  clear m9 N8 S8
  go_wp2_with fail
  go_ret2
  exact ⟨w8.heap.size + 1, rfl, own_mono M9.out.own C8.out.size, M9.out.read, M9.out.le, M9.out.nil, below_then C8.out M9.out.below⟩
theorem yields_neq_is {P : Program} {ops : Array Oper} {S : World → Prop} {o : Oper} {a : Act} (hw : Region.wanted o (yielded ops a.tmps) = true) (ty : TypeId) {x y : Operand} {t2 : TypeId} (ho : o.op = .binOp .neq ty x y t2) {xs ys : Array Value} {v : Value} (hx : a.eval x = .agg xs) (hy : a.eval y = .agg ys) (hg : P.eqGuardType P.depth ty = false) (hrun : ∀ w, (binOp .neq ty (.agg xs) (.agg ys)).run P w = .ok v w) : YieldsIf P ops S o v a :=
  .inl ⟨hw, fun w _ => by unfold execOp; simp only [ho, hx, hy, Sem.run_bind, run_eqGuard_agg w .neq ty x y xs ys hg, hrun w, Result.andThen_ok, Sem.run_pure]⟩
set_option maxHeartbeats 1000000 in
set_option maxRecDepth 100000 in
theorem hdecode_out (p : Option Addr) (n c : Nat) (b : Int) (hb : ¬ inB b) (w : World) :
    Calls Tryz.prog 115 #[.slice p n c, .int .i64 b] w fun e w' => e = .returned (.tuple #[.agg (U8 (zs 32)).toArray, .int .i64 51]) ∧ Below w.heap.size w w' := by
  have A1 : Hid (_) := allocV w
  have R1 : Hid (VAt (w.alloc (.cells (U8 (zs 32)).toArray 39)) w.heap.size (zs 32)) := LAt.new 39 w _
  have U1 : Hid (_) := buildV (w.alloc (.cells (U8 (zs 32)).toArray 39))
  have S1 : Hid (_) := store_newV w (zs 32) (zs_len 32)
  go_enter Tryz.func115, Tryz.ntmps115
  go_wp2_with ((with_reducible refine at_ops ?_); (refine wpList_alloc_is (by rfl) 39 rfl A1.out ?_); simp only [Act.put, List.setIfInBounds_toArray, List.set_cons_zero, List.set_cons_succ])
  refine (isBlock_any b 64 _).mono ?_
  rintro e w1 ⟨rfl, rfl⟩
  rw [decide_eq_false hb]
  clear hb
  go_wp2_with ((with_reducible refine at_ops ?_); (first | (refine wpList_build_is (vs := []) (by rfl) 39 rfl (by rfl) U1.out ?_) | (refine wpList_store_is (by rfl) 39 rfl rfl rfl S1.out ?_)); simp only [Act.put, List.setIfInBounds_toArray, List.set_cons_zero, List.set_cons_succ])
  exact bodyPost_ret (results_val Tryz.results115 _ _ w.heap.size _ _ (by rfl) R1.out (zs_len 32) Tryz.underlying39 rfl sizeV) rfl ⟨rfl, below_alloc w _⟩
set_option maxHeartbeats 1000000 in
set_option maxRecDepth 100000 in
theorem hdecode_short (p : Option Addr) (n c : Nat) (b : Int) (hb : inB b) (hn : n ≠ 64) (w : World) :
    Calls Tryz.prog 115 #[.slice p n c, .int .i64 b] w fun e w' => e = .returned (.tuple #[.agg (U8 (zs 32)).toArray, .int .i64 2]) ∧ Below w.heap.size w w' := by
  have A1 : Hid (_) := allocV w
  have R1 : Hid (VAt (w.alloc (.cells (U8 (zs 32)).toArray 39)) w.heap.size (zs 32)) := LAt.new 39 w _
  have U1 : Hid (_) := buildV (w.alloc (.cells (U8 (zs 32)).toArray 39))
  have S1 : Hid (_) := store_newV w (zs 32) (zs_len 32)
  have hn' : (((n : Nat) : Int) != 64) = true := by simp; omega
  go_enter Tryz.func115, Tryz.ntmps115
  go_wp2_with ((with_reducible refine at_ops ?_); (refine wpList_alloc_is (by rfl) 39 rfl A1.out ?_); simp only [Act.put, List.setIfInBounds_toArray, List.set_cons_zero, List.set_cons_succ])
  refine (isBlock_any b 64 _).mono ?_
  rintro e w1 ⟨rfl, rfl⟩
  rw [decide_eq_true hb]
  clear hb
  go_wp2_with ((with_reducible refine at_ops ?_); (first | (refine wpList_build_is (vs := []) (by rfl) 39 rfl (by rfl) U1.out ?_) | (refine wpList_store_is (by rfl) 39 rfl rfl rfl S1.out ?_)); simp only [Act.put, List.setIfInBounds_toArray, List.set_cons_zero, List.set_cons_succ])
  exact bodyPost_ret (results_val Tryz.results115 _ _ w.heap.size _ _ (by rfl) R1.out (zs_len 32) Tryz.underlying39 rfl sizeV) rfl ⟨rfl, below_alloc w _⟩
set_option maxHeartbeats 2000000 in
set_option maxRecDepth 100000 in
theorem hdecode_64 (p : Option Addr) (c : Nat) (xs : List Int) (b : Int) (hb : inB b) (w : World) (hx : BIn w p 64 xs) (hc : 64 ≤ c) (ht : Tab w) :
    Calls Tryz.prog 115 #[.slice p 64 c, .int .i64 b] w fun e w' => e = .returned (.tuple #[.agg (U8 (hdec xs b).1).toArray, .int .i64 (hdec xs b).2]) ∧ Below w.heap.size w w' := by
  obtain ⟨g, o, rfl, -⟩ := hx.cells (by omega)
  have A1 : Hid (_) := allocV w
  obtain ⟨wa, hwa⟩ : ∃ x, x = w.alloc (.cells (U8 (zs 32)).toArray 39) := ⟨_, rfl⟩
  rw [← hwa] at A1
  have B1 : Hid (Below w.heap.size w wa) := by rw [hwa]; exact below_alloc w _
  have R1 : Hid (VAt wa w.heap.size (zs 32)) := by rw [hwa]; exact LAt.new 39 w _
  have X1 : Hid (BIn wa (some ⟨g, o, none⟩) 64 xs) := hx.later B1.out
  have HT : Hid (Tab w) := ht
  have HL : Hid (xs.length = 64) := hx.len
  have HY : Hid (Bytes xs) := hx.byte
  have HB : Hid (inB b) := hb
  clear hx ht hwa
  have Y1 : Hid (BIn wa (some ⟨g, o + 28, none⟩) 32 (cutV xs)) := (X1.out.drop 28 (by omega)).take 32 (by omega)
  have hat : ∀ w, (Instr.arrayAt 39 (.slice (some ⟨g, o + 28, none⟩) 32 (c - 28))).run Tryz.prog w = .ok (.pointer (some ⟨g, o + 28, none⟩)) w := fun w => at23 w _ _
  have L1 : Hid (_) := Y1.out.load23
  have A2 : Hid (_) := allocV wa
  have S2 : Hid (_) := store_newV wa (cutV xs) (cutV_len HL.out)
  have L2 : Hid (_) := VAt.load (LAt.new 39 wa (U8 (cutV xs))) (cutV_len HL.out)
  have HVL : Hid ((cutV xs).length = 32 ∧ Bytes (cutV xs)) := ⟨cutV_len HL.out, cutV_bytes HY.out⟩
  have hI : (60 : Int) ≤ (c : Int) := by omega
  have hI2 : (28 : Int) ≤ (c : Int) := by omega
  have hI3 : ¬ ((c : Int) < 60) := by omega
  have hne : ¬ c = 28 := by omega
  go_enter Tryz.func115, Tryz.ntmps115
  go_wp2_with ((with_reducible refine at_ops ?_); (refine wpList_alloc_is (by rfl) 39 rfl A1.out ?_); simp only [Act.put, List.setIfInBounds_toArray, List.set_cons_zero, List.set_cons_succ])
  refine (isBlock_any b 64 _).mono ?_
  rintro e w1 ⟨rfl, rfl⟩
  rw [decide_eq_true hb]
  clear hb
  go_wp2_with ((with_reducible refine at_ops ?_); (first | (refine wpList_load_is (by rfl) 39 rfl rfl L1.out ?_) | (refine wpList_alloc_is (by rfl) 39 rfl A2.out ?_) | (refine wpList_store_is (by rfl) 39 rfl rfl rfl S2.out ?_) | (refine wpList_load_is (by rfl) 39 rfl rfl L2.out ?_)); simp only [Act.put, List.setIfInBounds_toArray, List.set_cons_zero, List.set_cons_succ])
  obtain ⟨wc, hwc⟩ : ∃ x, x = wa.alloc (.cells (U8 (cutV xs)).toArray 39) := ⟨_, rfl⟩
  rw [← hwc]
  have Bc : Hid (Below w.heap.size w wc) := by rw [hwc]; exact below_then B1.out (below_alloc wa _)
  have Vc : Hid (VAt wc wa.heap.size (cutV xs)) := by rw [hwc]; exact LAt.new 39 wa _
  have Rc : Hid (VAt wc w.heap.size (zs 32)) := by rw [hwc]; exact LAt.later R1.out (below_alloc wa _)
  have Xc : Hid (BIn wc (some ⟨g, o, none⟩) 64 xs) := by rw [hwc]; exact X1.out.later (below_alloc wa _)
  clear A1 A2 S2 L1 L2 Y1 R1 X1 B1 hat hwc hI hI2 hI3 hne
  refine (hencode_good b (cutV xs) HB.out HVL.out.1 HVL.out.2 wc (HT.out.later Bc.out)).mono ?_
  rintro e w2 ⟨g2, rfl, m2⟩
  have B2 : Hid (Below w.heap.size w w2) := below_then Bc.out m2.below
  have V2 : Hid (VAt w2 wa.heap.size (cutV xs)) := LAt.later Vc.out m2.below
  have R2 : Hid (VAt w2 w.heap.size (zs 32)) := LAt.later Rc.out m2.below
  have X2 : Hid (BIn w2 (some ⟨g, o, none⟩) 64 xs) := Xc.out.later m2.below
  have E2 : Hid (BIn w2 (some ⟨g2, 0, none⟩) 64 (homeS b (cutV xs))) := m2.read
  clear m2 Bc Vc Rc Xc
  have QE : Hid (∀ w, (binOp .neq 239 (.agg (U8 (homeS b (cutV xs))).toArray) (.agg (U8 xs).toArray)).run Tryz.prog w = .ok (.bool (!decide (homeS b (cutV xs) = xs))) w) := fun w => neqW w _ _ (homeS_len b HVL.out.1) HL.out
  have HD : Hid ((decide (homeS b (cutV xs) = xs) = true → hdec xs b = (cutV xs, 0)) ∧ (decide (homeS b (cutV xs) = xs) = false → hdec xs b = (zs 32, 80))) := ⟨fun h => hdec_ok HB.out HL.out (by simpa using h), fun h => hdec_bad HB.out HL.out (by simpa using h)⟩
  have HSL : Hid ((homeS b (cutV xs)).length = 64) := homeS_len b HVL.out.1
  generalize homeS b (cutV xs) = hs at *
  generalize decide (hs = xs) = q at *
  go_wp2_with fail
  refine wp_region_noPanic ?_
  refine wp_region_held_drew (S := fun w' => Below w2.heap.size w2 w') (by kernel_rfl) (below_drawn 1) (fun hHeld => ?_)
  refine wpAnyH_take (i := 0) (v := ?va1) (by simp; rfl) (by kernel_rfl) (by kernel_rfl) (by kernel_rfl) (fun _ _ _ h => h) (Or.inl ⟨by rfl, ?ya1⟩) hHeld ?ra1
  case ya1 => intro w hSw; clear hSw; go_simp; with_reducible rfl
  simp only [Act.put, List.setIfInBounds_toArray, List.set_cons_zero, List.set_cons_succ]
  refine wpAnyH_take (i := 1) (v := ?va2) (by simp; rfl) (by kernel_rfl) (by kernel_rfl) (by kernel_rfl) (fun _ _ _ h => h) (Or.inl ⟨by rfl, ?ya2⟩) hHeld ?ra2
  case ya2 => intro w hSw; clear hSw; go_simp; with_reducible rfl
  simp only [Act.put, List.setIfInBounds_toArray, List.set_cons_zero, List.set_cons_succ]
  refine wpAnyH_take (i := 2) (v := ?va3) (by simp; rfl) (by kernel_rfl) (by kernel_rfl) (by kernel_rfl) (fun _ _ _ h => h) (Or.inl ⟨by rfl, ?ya3⟩) hHeld ?ra3
  case ya3 => intro w hSw; clear hSw; go_simp; with_reducible rfl
  simp only [Act.put, List.setIfInBounds_toArray, List.set_cons_zero, List.set_cons_succ]
  refine wpAnyH_take (i := 3) (v := ?va4) (by simp; rfl) (by kernel_rfl) (by kernel_rfl) (by kernel_rfl) (fun _ _ _ h => h) (Or.inl ⟨by rfl, ?ya4⟩) hHeld ?ra4
  case ya4 => intro w hSw; clear hSw; go_simp; with_reducible rfl
  simp only [Act.put, List.setIfInBounds_toArray, List.set_cons_zero, List.set_cons_succ]
  refine wpAnyH_take (i := 4) (v := ?va5) (by simp; rfl) (by kernel_rfl) (by kernel_rfl) (by kernel_rfl) (fun _ _ _ h => h) (Or.inl ⟨by rfl, ?ya5⟩) hHeld ?ra5
  case ya5 => intro w hSw; clear hSw; have z := at84 w ⟨g2, 0, none⟩ 64; go_simp; with_reducible rfl
  simp only [Act.put, List.setIfInBounds_toArray, List.set_cons_zero, List.set_cons_succ]
  refine wpAnyH_take (i := 5) (v := _) (by simp; rfl) (by kernel_rfl) (by kernel_rfl) (by kernel_rfl) (fun _ _ _ h => h) (yieldsIf_load_mid (by rfl) 239 (.tmp 31) rfl g2 0 rfl (U8 hs) _ (fun _ h => (E2.out.later h).range) Tryz.underlying239 rfl (by rw [sizeW, U8_length, HSL.out])) hHeld ?_
  simp only [Act.put, List.setIfInBounds_toArray, List.set_cons_zero, List.set_cons_succ]
  refine wpAnyH_take (i := 6) (v := ?va6) (by simp; rfl) (by kernel_rfl) (by kernel_rfl) (by kernel_rfl) (fun _ _ _ h => h) (Or.inl ⟨by rfl, ?ya6⟩) hHeld ?ra6
  case ya6 => intro w hSw; clear hSw; go_simp; with_reducible rfl
  simp only [Act.put, List.setIfInBounds_toArray, List.set_cons_zero, List.set_cons_succ]
  refine wpAnyH_take (i := 7) (v := ?va7) (by simp; rfl) (by kernel_rfl) (by kernel_rfl) (by kernel_rfl) (fun _ _ _ h => h) (Or.inl ⟨by rfl, ?ya7⟩) hHeld ?ra7
  case ya7 => intro w hSw; clear hSw; have z := at84 w ⟨g, o, none⟩ c; go_simp; with_reducible rfl
  simp only [Act.put, List.setIfInBounds_toArray, List.set_cons_zero, List.set_cons_succ]
  refine wpAnyH_take (i := 8) (v := _) (by simp; rfl) (by kernel_rfl) (by kernel_rfl) (by kernel_rfl) (fun _ _ _ h => h) (yieldsIf_load_mid (by rfl) 239 (.tmp 34) rfl g o rfl (U8 xs) _ (fun _ h => (X2.out.later h).range) Tryz.underlying239 rfl (by rw [sizeW, U8_length, HL.out])) hHeld ?_
  simp only [Act.put, List.setIfInBounds_toArray, List.set_cons_zero, List.set_cons_succ]
  refine wpAnyH_take (i := 9) (v := _) (by simp; rfl) (by kernel_rfl) (by kernel_rfl) (by kernel_rfl) (fun _ _ _ h => h) (yields_neq_is (by rfl) 239 rfl rfl rfl eqgW QE.out) hHeld ?_
  simp only [Act.put, List.setIfInBounds_toArray, List.set_cons_zero, List.set_cons_succ]
  refine wpAnyH_take (i := 10) (v := ?va8) (by simp; rfl) (by kernel_rfl) (by kernel_rfl) (by kernel_rfl) (fun _ _ _ h => h) (Or.inl ⟨by rfl, ?ya8⟩) hHeld ?ra8
  case ya8 => intro w hSw; clear hSw; go_simp; with_reducible rfl
  simp only [Act.put, List.setIfInBounds_toArray, List.set_cons_zero, List.set_cons_succ]
  have B3 : Hid (Below w.heap.size w w2.drew) := below_then B2.out hHeld
  have V3 : Hid (VAt w2.drew wa.heap.size (cutV xs)) := LAt.later V2.out hHeld
  have R3 : Hid (VAt w2.drew w.heap.size (zs 32)) := LAt.later R2.out hHeld
  clear hHeld B2 V2 R2 X2 E2 QE
  generalize w2.drew = w3 at *
  refine wpAnyH_done (by kernel_rfl) (NoPanic.normal ?_) _
  cases q with
  | true =>
    have L3 : Hid (_) := VAt.load V3.out HVL.out.1
    have T3 : Hid (_) := VAt.store (v := cutV xs) R3.out (zs_len 32) HVL.out.1
    have F3 : Hid (VAt (w3.setRow w.heap.size (U8 (cutV xs)).toArray) w.heap.size (cutV xs)) := LAt.stored R3.out _
    have G3 : Hid (Below w.heap.size w (w3.setRow w.heap.size (U8 (cutV xs)).toArray)) := below_setRow B3.out (Nat.le_refl _) _
    have HE : Hid (_) := HD.out.1 rfl
    clear HD
    go_wp2_with ((with_reducible refine at_ops ?_); (first | (refine wpList_load_is (by rfl) 39 rfl rfl L3.out ?_) | (refine wpList_store_is (by rfl) 39 rfl rfl rfl T3.out ?_)); simp only [Act.put, List.setIfInBounds_toArray, List.set_cons_zero, List.set_cons_succ])
    rw [HE.out]
    exact bodyPost_ret (results_val Tryz.results115 _ _ w.heap.size _ _ (by rfl) F3.out HVL.out.1 Tryz.underlying39 rfl sizeV) rfl ⟨rfl, G3.out⟩
  | false =>
    have U3 : Hid (_) := buildV w3
    have T3 : Hid (_) := VAt.store (v := zs 32) R3.out (zs_len 32) (zs_len 32)
    have F3 : Hid (VAt (w3.setRow w.heap.size (U8 (zs 32)).toArray) w.heap.size (zs 32)) := LAt.stored R3.out _
    have G3 : Hid (Below w.heap.size w (w3.setRow w.heap.size (U8 (zs 32)).toArray)) := below_setRow B3.out (Nat.le_refl _) _
    have HE : Hid (_) := HD.out.2 rfl
    clear HD
    go_wp2_with ((with_reducible refine at_ops ?_); (first | (refine wpList_build_is (vs := []) (by rfl) 39 rfl (by rfl) U3.out ?_) | (refine wpList_store_is (by rfl) 39 rfl rfl rfl T3.out ?_)); simp only [Act.put, List.setIfInBounds_toArray, List.set_cons_zero, List.set_cons_succ])
    rw [HE.out]
    exact bodyPost_ret (results_val Tryz.results115 _ _ w.heap.size _ _ (by rfl) F3.out (zs_len 32) Tryz.underlying39 rfl sizeV) rfl ⟨rfl, G3.out⟩
theorem hdecode_any (p : Option Addr) (n c : Nat) (xs : List Int) (b : Int) (w : World) (hx : BIn w p n xs) (hc : n ≤ c) (ht : Tab w) :
    Calls Tryz.prog 115 #[.slice p n c, .int .i64 b] w fun e w' => e = .returned (.tuple #[.agg (U8 (hdec xs b).1).toArray, .int .i64 (hdec xs b).2]) ∧ Below w.heap.size w w' := by
  by_cases hb : inB b
  · by_cases hn : n = 64
    · subst hn
      exact hdecode_64 p c xs b hb w hx hc ht
    · rw [hdec_short hb (by rw [hx.len]; exact hn)]
      exact hdecode_short p n c b hb hn w
  · rw [hdec_out xs hb]
    exact hdecode_out p n c b hb w
end Go.Proofs.YtdadpepfpiimgaaGreatDoor
namespace Go.Proofs.YtdadpepfpiimgaaGreatDoor
open Go.RowKit
structure Ldn (w wr : World) (p q n cap : Nat) (v : Value) (D N : Nat → List Int) : Prop where
  str : wr.heap[p]? = some (.cells #[.slice (some ⟨q, 0, none⟩) n cap, v] 105 (0, 0))
  pl : Pl wr q n cap D N
  wt : wr.ownsRow 0 114 65 v 0 []
  below : Below w.heap.size w wr
  hp : w.heap.size ≤ p
  hq : w.heap.size ≤ q
  hv : ∀ k, v.ownBlock = some k → w.heap.size ≤ k
theorem Ldn.later {w wr w' : World} {p q n cap : Nat} {v : Value} {D N : Nat → List Int} (h : Ldn w wr p q n cap v D N) (hb : Below wr.heap.size wr w') : Ldn w w' p q n cap v D N :=
  ⟨(hb.block p (Blk.lt (t := 105) (sz := 2) ⟨_, h.str, rfl⟩)).trans h.str, h.pl.same (hb.block q h.pl.blk.lt), own_later h.wt hb, h.below.trans (hb.mono h.below.size), h.hp, h.hq, h.hv⟩
theorem Ldn.cell0 {w wr : World} {p q n cap : Nat} {v : Value} {D N : Nat → List Int} (h : Ldn w wr p q n cap v D N) : wr.cell? ⟨p, 0, none⟩ = some (.slice (some ⟨q, 0, none⟩) n cap) := by
  rw [cell_of_row _ _ _ _ 105 (0, 0) h.str]; rfl
theorem setCells_append (g : Nat) : ∀ (vs us : List Value) (o : Nat) (w : World), w.setCells g o (vs ++ us) = (w.setCells g o vs).setCells g (o + vs.length) us
  | [], us, o, w => rfl
  | v :: r, us, o, w => by
    show (w.setCell ⟨g, o, none⟩ v).setCells g (o + 1) (r ++ us) = _
    rw [setCells_append g r us (o + 1) _, List.length_cons, show o + 1 + r.length = o + (r.length + 1) by omega]
    rfl
theorem Ldn.set {w wr : World} {p q n cap k : Nat} {v : Value} {D N : Nat → List Int} (h : Ldn w wr p q n cap v D N) (b : List Int) (hb : b.length = 64) (hk : k < n) : Ldn w (wr.setCells q (k * 128) (U8 b ++ U8 b)) p q n cap v (fun i => if i = k then b else D i) (fun i => if i = k then b else N i) := by
  have hpq : p ≠ q := Blk.ne (t := 105) (sz := 2) ⟨_, h.str, rfl⟩ h.pl.blk (by decide)
  refine ⟨(setCells_other hpq _ _ _).trans h.str, ?_, own_same h.wt (fun k hk => ?_), below_setCells h.hq _ _ _ _ h.below, h.hp, h.hq, h.hv⟩
  · rw [setCells_append, U8_length, hb]
    exact (h.pl.setD b hb hk).setN b hb hk
  · obtain ⟨sz, hk'⟩ := own_ownBlk h.wt hk
    exact setCells_other (hk'.ne h.pl.blk (by decide)) _ _ _
def upk (xs : List Int) (k : Nat) : Nat → List Int := fun i => if i < k then sec xs i else List.replicate 64 0
theorem upk_step (xs : List Int) (k : Nat) : (fun i => if i = k then sec xs k else upk xs k i) = upk xs (k + 1) := by
  funext i
  simp only [upk]
  by_cases c : i = k
  · subst c; simp
  · by_cases c2 : i < k
    · simp [c, c2, show i < k + 1 by omega]
    · simp [c, c2, show ¬ i < k + 1 by omega]
theorem sec_range {w : World} {g o m n k : Nat} {xs : List Int} (h : BIn w (some ⟨g, o, none⟩) m xs) (hm : m = 64 * n) (hk : k < n) : w.rangeAt g (o + k * 64) (U8 (sec xs k)) := fun j v hv => by
  have hj : j < 64 := by have := (List.getElem?_eq_some_iff.1 hv).1; rw [U8_length, sec_length (h.len.trans hm) hk] at this; exact this
  rw [Nat.add_assoc]
  refine h.range (k * 64 + j) v ?_
  rw [← hv]
  simp only [U8, List.getElem?_map, sec_get xs k j hj]
  rw [Nat.mul_comm]
set_option maxHeartbeats 2000000 in
set_option maxRecDepth 100000 in
theorem load_good (g o m c n : Nat) (xs : List Int) (w : World) (h : BIn w (some ⟨g, o, none⟩) m xs) (hm : m = 64 * n) (hmc : m ≤ c) (hn1 : 1 ≤ n) (hn2 : n ≤ 4096) :
    Calls Tryz.prog 8 #[.slice (some ⟨g, o, none⟩) m c] w fun e w' => ∃ p, e = .returned (.tuple #[.pointer (some ⟨p, 0, none⟩), .int .i64 0]) ∧ Dsk w' (fun k => w.heap.size ≤ k) p n xs [] ∧ Below w.heap.size w w' := by
  have e1 : ((m : Int) % 64 != 0) = false := by rw [show (m : Int) % 64 = 0 by omega]; rfl
  have e2 : (m : Int) / 64 = (n : Int) := by omega
  have HX : Hid (BIn w (some ⟨g, o, none⟩) m xs) := h
  have HL : Hid (xs.length = 64 * n) := h.len.trans hm
  have HM : Hid (m = 64 * n) := hm
  clear h hm
  go_enter Tryz.func8, Tryz.ntmps8
  go_wp2_with fail
  clear e1 e2
  refine (new_good n w hn1 hn2).mono ?_
  rintro e w1 ⟨p, rfl, ⟨q, cap, v, hd⟩, hb1⟩
  have h0 := hd.cell0
  have HD0 : Hid (Ldn w w1 p q n cap v (upk xs 0) (upk xs 0)) := by
    refine ⟨hd.str, hd.pl.congr (fun i hi => ?_) (fun i hi => ?_), hd.wt, hb1, hd.sp, hd.sq, hd.sv⟩
    · rw [sec_zeros n i hi]; rfl
    · rw [newest_nil, sec_zeros n i hi]; rfl
  clear hd
  go_wp2
  clear h0
  go_loopw [27] (fun i wr => ∃ k : Nat, k ≤ n ∧ i = .int .i64 k ∧ Hid (Ldn w wr p q n cap v (upk xs k) (upk xs k))) (fun i _ => n - (intOf i).toNat)
  case atStart => exact ⟨0, by omega, rfl, HD0.out⟩
  case round =>
    obtain ⟨k, hkm, rfl, HR⟩ := hrel
    clear HD0
    by_cases hlt : k < n
    · have hm := HM.out
      have hmul : IntKind.i64.wrap ((k : Int) * 64) = (k : Int) * 64 := by rw [IntKind.wrap_i64]; omega
      have l1 : (k : Int) * 64 ≤ (m : Int) := by omega
      have l2 : (m : Int) ≤ (c : Int) := by omega
      have l3 : ¬ (c : Int) = (k : Int) * 64 := by omega
      have l4 : (0 : Int) ≤ (k : Int) * 64 := by omega
      have hr : wr.rangeAt g (o + k * 64) (U8 (sec xs k)) := sec_range (HX.out.later HR.out.below) hm hlt
      have HLk : Hid ((sec xs k).length = 64) := sec_length HL.out hlt
      have hat : ∀ (w : World) (a : Option Addr) (l c : Nat), 64 ≤ l → (Instr.arrayAt 107 (.slice a l c)).run Tryz.prog w = .ok (.pointer a) w := fun w a l c hl => run_arrayAt w 107 _ 64 _ l c Tryz.underlying107 hl
      have hat2 := fun w c => hat w (some ⟨g, o + k * 64, none⟩) (m - k * 64) c (by omega)
      have HRb : Hid (Bytes (sec xs k)) := HX.out.byte.sec k
      have HU : Hid (Ldn w ((wr.alloc (.cells (U8 (sec xs k)).toArray 107)).setCells q (k * 128) (U8 (sec xs k) ++ U8 (sec xs k))) p q n cap v (upk xs (k + 1)) (upk xs (k + 1))) := by
        have := (HR.out.later (below_alloc wr (.cells (U8 (sec xs k)).toArray 107))).set (sec xs k) HLk.out hlt
        rw [upk_step] at this
        exact this
      have hD := HR.out.later (below_alloc wr (.cells (U8 (sec xs k)).toArray 107))
      have t0 := hD.cell0
      have t1 : (wr.alloc (.cells (U8 (sec xs k)).toArray 107)).rangeAt wr.heap.size 0 (U8 (sec xs k)) := new_range wr _ 107
      have t2 : (wr.alloc (.cells (U8 (sec xs k)).toArray 107)).there q (k * 128) 128 := hD.pl.blk.there _ _ (by have := hD.pl.ncap; omega)
      have HNE : Hid (p ≠ q ∧ wr.heap.size ≠ q) := ⟨Blk.ne (t := 105) (sz := 2) ⟨_, hD.str, rfl⟩ hD.pl.blk (by decide), by have := HR.out.pl.blk.lt; omega⟩
      clear hat hm HR hD
      generalize sec xs k = b at *
      go_wp2_with (first | (refine wpList_load_mid (by rfl) 107 (.tmp 34) (by rfl) g (o + k * 64) (by rfl) (U8 b) _ hr Tryz.underlying107 rfl (by rw [size69, U8_length, HLk.out]) ?_) | (refine wpList_alloc69 (by rfl) (by rfl) ?_) | (refine wpList_store69 (by rfl) (.tmp 7) (.tmp 35) (by rfl) b (by rfl) (by rfl) HLk.out ?_) | fail)
      simp only [Act.put, List.setIfInBounds_toArray, List.set_cons_zero, List.set_cons_succ]
      obtain ⟨W, hW⟩ : ∃ W, wr.alloc (.cells (U8 b).toArray 107) = W := ⟨_, rfl⟩
      rw [hW] at t0 t1 t2 HU ⊢
      clear hW hr hat2 hmul l1 l2 l3 l4
      have i1 : (k : Int) < (n : Int) := by omega
      have i0 : (0 : Int) ≤ (k : Int) := by omega
      have k0 : (W.drew.setCells q (k * 128) (U8 b ++ U8 b)).cell? ⟨p, 0, none⟩ = some (.slice (some ⟨q, 0, none⟩) n cap) := by
        rw [World.cell?_setCells_out _ _ _ _ _ (fun e => absurd e HNE.out.1)]; exact t0
      have k1 : (W.drew.setCells q (k * 128) (U8 b ++ U8 b)).rangeAt wr.heap.size 0 (U8 b) := World.rangeAt_setCells_apart (w := W.drew) t1 _ _ _ (Or.inl HNE.out.2)
      have k2 : (W.drew.setCells q (k * 128) (U8 b ++ U8 b)).there q (k * 128) 128 := World.there_setCells (w := W.drew) t2 _ _ _
      refine wp_region_noPanic ?_
      refine wp_region_held_drew (S := (fun w' => w'.cell? ⟨p, 0, none⟩ = some (.slice (some ⟨q, 0, none⟩) n cap) ∧ w'.rangeAt wr.heap.size 0 (U8 b) ∧ w'.there q (k * 128) 128)) (by kernel_rfl) ⟨t0, t1, t2⟩ (fun hHeld => ?_)
      refine wpAnyH_take (i := 0) (v := ?v0) (by simp; rfl) (by kernel_rfl) (by kernel_rfl) (by kernel_rfl) (fun _ _ _ h => h) (Or.inl ⟨by rfl, ?y0⟩) hHeld ?r0
      case y0 => intro w hSw; obtain ⟨hSw, -, -⟩ := hSw; go_simp; with_reducible rfl
      simp only [Act.put, List.setIfInBounds_toArray, List.set_cons_zero, List.set_cons_succ]
      refine wpAnyH_take (i := 1) (v := ?v1) (by simp; rfl) (by kernel_rfl) (by kernel_rfl) (by kernel_rfl) (fun _ _ _ h => h) (Or.inl ⟨by rfl, ?y1⟩) hHeld ?r1
      case y1 => intro w hSw; obtain ⟨hSw, -, -⟩ := hSw; go_simp; with_reducible rfl
      simp only [Act.put, List.setIfInBounds_toArray, List.set_cons_zero, List.set_cons_succ]
      refine wpAnyH_take (i := 2) (v := ?v2) (by simp; rfl) (by kernel_rfl) (by kernel_rfl) (by kernel_rfl) (fun _ _ _ h => h) (Or.inl ⟨by rfl, ?y2⟩) hHeld ?r2
      case y2 => intro w hSw; obtain ⟨hSw, -, -⟩ := hSw; go_simp; with_reducible rfl
      simp only [Act.put, List.setIfInBounds_toArray, List.set_cons_zero, List.set_cons_succ]
      refine wpAnyH_take (i := 3) (v := ?v3) (by simp; rfl) (by kernel_rfl) (by kernel_rfl) (by kernel_rfl) (fun _ _ _ h => h) (Or.inl ⟨by rfl, ?y3⟩) hHeld ?r3
      case y3 => intro w hSw; obtain ⟨hSw, -, -⟩ := hSw; go_simp; with_reducible rfl
      simp only [Act.put, List.setIfInBounds_toArray, List.set_cons_zero, List.set_cons_succ]
      refine wpAnyH_take (i := 4) (v := ?v4) (by simp; rfl) (by kernel_rfl) (by kernel_rfl) (by kernel_rfl) (fun _ _ _ h => h) (Or.inl ⟨by rfl, ?y4⟩) hHeld ?r4
      case y4 => intro w hSw; obtain ⟨hSw, -, -⟩ := hSw; go_simp; with_reducible rfl
      simp only [Act.put, List.setIfInBounds_toArray, List.set_cons_zero, List.set_cons_succ]
      refine wpAnyH_take (i := 5) (v := _) (by simp; rfl) (by kernel_rfl) (by kernel_rfl) (by kernel_rfl) (fun _ _ _ h => h) (yieldsIf_load_mid (by rfl) 107 (.tmp 7) rfl wr.heap.size 0 rfl (U8 b) _ (fun _ h => h.2.1) Tryz.underlying107 rfl (by rw [size69, U8_length, HLk.out])) hHeld ?_
      simp only [Act.put, List.setIfInBounds_toArray, List.set_cons_zero, List.set_cons_succ]
      refine wpAnyH_take (i := 6) (v := _) (by simp; rfl) (by kernel_rfl) (by kernel_rfl) (by kernel_rfl) (fun _ _ _ h => h) (yieldsIf_load_mid (by rfl) 107 (.tmp 7) rfl wr.heap.size 0 rfl (U8 b) _ (fun _ h => h.2.1) Tryz.underlying107 rfl (by rw [size69, U8_length, HLk.out])) hHeld ?_
      simp only [Act.put, List.setIfInBounds_toArray, List.set_cons_zero, List.set_cons_succ]
      refine wpAnyH_take (i := 7) (v := _) (by simp; rfl) (by kernel_rfl) (by kernel_rfl) (by kernel_rfl) (fun _ _ _ h => h) (yields_build71 (by rfl) (.tmp 41) (.tmp 42) rfl b b rfl rfl HLk.out HLk.out) hHeld ?_
      simp only [Act.put, List.setIfInBounds_toArray, List.set_cons_zero, List.set_cons_succ]
      refine wpAnyH_take (i := 8) (v := ?v8) (by simp; rfl) (by kernel_rfl) (by kernel_rfl) (by kernel_rfl) (fun _ _ _ h => h) (Or.inl ⟨by rfl, ?y8⟩) hHeld ?r8
      case y8 => intro w hSw; clear hSw; go_simp; with_reducible rfl
      simp only [Act.put, List.setIfInBounds_toArray, List.set_cons_zero, List.set_cons_succ]
      refine wpAnyH_ready (rs := [9]) (by kernel_rfl) (by simp) ?_
      refine AllReadyH.cons (by simp; rfl) (fun K hK => ?_) AllReadyH.nil
      rw [if_pos (by rfl)]
      refine wp_store_mid 109 (.tmp 44) (.tmp 43) rfl q (k * 128) (U8 b ++ U8 b).toArray rfl rfl (by rw [List.size_toArray, List.length_append, U8_length, HLk.out]; exact t2) (by rw [size71, List.size_toArray, List.length_append, U8_length, HLk.out]) (all_oneCell_toArray (fun u hu => (List.mem_append.1 hu).elim (ones_u8 b u) (ones_u8 b u))) ?_
      rw [List.toList_toArray]
      refine hK.out _ _ ⟨k0, k1, k2⟩ (fun hHeld => ?_)
      clear hK K
      refine wpAnyH_done (by kernel_rfl) (NoPanic.normal ?_) _
      simp only [Act.put]
      rw [setCells_drew]
      clear k0 k1 k2 t0 t1 t2
      go_wp2
      go_roundw
      case rel => exact ⟨k + 1, by omega, by go_num, HU.out.later ⟨rfl, rfl, rfl, Nat.le_refl _, fun _ _ => rfl⟩⟩
      case measure => simp [intOf]; omega
    · obtain rfl : k = n := by omega
      have HF : Hid (Dsk wr (fun k => w.heap.size ≤ k) p k xs [] ∧ Below w.heap.size w wr) := by
        refine ⟨⟨q, cap, v, HR.out.str, HR.out.pl.congr (fun i hi => ?_) (fun i hi => ?_), HR.out.wt, HR.out.hp, HR.out.hq, HR.out.hv, hn1, hn2, HL.out, HX.out.byte, Fit.nil _⟩, HR.out.below⟩
        · simp [upk, hi]
        · simp [upk, hi, newest_nil]
      clear HR
      go_wp2
      go_ret2
      exact ⟨_, rfl, HF.out.1, HF.out.2⟩
end Go.Proofs.YtdadpepfpiimgaaGreatDoor
