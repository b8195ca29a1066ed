import Derived.Test.YtdadpepfpiimgaaDoorX05
set_option maxHeartbeats 20000000
set_option maxRecDepth 100000
namespace Go.Proofs.YtdadpepfpiimgaaDoor
theorem encS_bytes (s : Sup) : Bytes (encS s) := (body_bytes s).append (digits_bytes _ _)
theorem may_wf (s : Sup) (h : May s) (h1 : 0 ≤ s.tail) : s.Wf := by
  obtain ⟨⟨a1, a2, a3, a4, a5⟩, a6, a7, a8⟩ := h
  refine ⟨?_, ?_, ?_, ?_, ?_, ?_, ?_⟩ <;> first | (simp only [i64]; omega) | (simp only [u64]; omega)
end Go.Proofs.YtdadpepfpiimgaaDoor
namespace Go.Proofs.YtdadpepfpiimgaaDoor
theorem Bytes.sec {d : List Int} (h : Bytes d) (i : Nat) : Bytes (sec d i) := (h.drop _).take _
end Go.Proofs.YtdadpepfpiimgaaDoor
namespace Go.Proofs.YtdadpepfpiimgaaDoor
def hbody (b : Int) (v : List Int) : List Int := [72, 79, 77, 69, 1, b] ++ (zs 22 ++ v)
def homeS (b : Int) (v : List Int) : List Int := hbody b v ++ digits 4 (crc (hbody b v) : Nat)
abbrev inB (b : Int) : Prop := 0 ≤ b ∧ b < 64
theorem hbody_len {v : List Int} (b : Int) (h : v.length = 32) : (hbody b v).length = 60 := by simp [hbody, zs_len, h]
theorem homeS_len {v : List Int} (b : Int) (h : v.length = 32) : (homeS b v).length = 64 := by simp [homeS, hbody_len b h, digits_length]
theorem hbody_bytes {b : Int} {v : List Int} (hb : inB b) (hv : Bytes v) : Bytes (hbody b v) := by
  unfold hbody
  refine Bytes.append ?_ ((zs_bytes 22).append hv)
  intro x hx; simp at hx; omega
theorem homeS_bytes {b : Int} {v : List Int} (hb : inB b) (hv : Bytes v) : Bytes (homeS b v) := (hbody_bytes hb hv).append (digits_bytes _ _)
def sup1 (s : Sup) : Sup := ⟨s.bl, s.lc, s.mr, s.hi, s.cl, 0, 1⟩
theorem sup1_mayT (s : Sup) : MayT (sup1 s) := ⟨by show (0 : Int) ≤ _; omega, by show (1 : Int) ≤ 1; omega, by show (1 : Int) ≤ _; omega⟩
theorem sup1_may {s : Sup} (h : MayC s) : May (sup1 s) := ⟨h, sup1_mayT s⟩
theorem sup1_wf {s : Sup} (h : MayC s) : (sup1 s).Wf := may_wf _ (sup1_may h) (by show (0 : Int) ≤ 0; omega)
def homes (n : Nat) : List Int := ((List.range n).map fun (i : Nat) => homeS (i : Int) (zs 32)).flatten
theorem homes_succ (n : Nat) : homes (n + 1) = homes n ++ homeS (n : Int) (zs 32) := by simp [homes, List.range_succ]
theorem homes_bytes (n : Nat) (h : n ≤ 64) : Bytes (homes n) := by
  induction n with
  | zero => exact Bytes.nil
  | succ n ih => rw [homes_succ]; exact (ih (by omega)).append (homeS_bytes ⟨by omega, by omega⟩ (zs_bytes 32))
def newS (s : Sup) : List Int := encS (sup1 s) ++ homes s.bl.toNat ++ zs (64 * s.lc.toNat)
def cntS (s : Sup) : Nat := 1 + s.bl.toNat + s.lc.toNat
theorem cntS_is {s : Sup} (h : MayC s) : ((cntS s : Nat) : Int) = 1 + s.bl + s.lc := by have := h.1; have := h.2.1; unfold cntS; omega
theorem cntS_bd {s : Sup} (h : MayC s) : 4 ≤ cntS s ∧ cntS s ≤ 129 := by have := h.1; have := h.2.1; unfold cntS; omega
theorem newS_bytes {s : Sup} (h : MayC s) : Bytes (newS s) := by
  have := h.1
  exact ((encS_bytes _).append (homes_bytes _ (by omega))).append (zs_bytes _)
def rfS (s : Sup) (n : Int) : Int := if MayC s then (if n = 1 + s.bl + s.lc then 0 else 40) else 3
theorem rfS_no {s : Sup} (n : Int) (h : ¬ MayC s) : rfS s n = 3 := if_neg h
theorem rfS_len {s : Sup} {n : Int} (h : MayC s) (h2 : ¬ n = 1 + s.bl + s.lc) : rfS s n = 40 := by unfold rfS; rw [if_pos h, if_neg h2]
theorem rfS_ok {s : Sup} {n : Int} (h : MayC s) (h2 : n = 1 + s.bl + s.lc) : rfS s n = 0 := by unfold rfS; rw [if_pos h, if_pos h2]
theorem rfS_zero {s : Sup} {n : Int} (h : rfS s n = 0) : MayC s ∧ n = 1 + s.bl + s.lc := by
  unfold rfS at h
  by_cases c : MayC s
  · rw [if_pos c] at h
    by_cases c2 : n = 1 + s.bl + s.lc
    · exact ⟨c, c2⟩
    · rw [if_neg c2] at h; omega
  · rw [if_neg c] at h; omega
def rbS (s : Sup) (n : Int) (b : Int) : Int := if rfS s n = 0 then (if 0 ≤ b ∧ b < s.bl then 0 else 51) else rfS s n
theorem rbS_no {s : Sup} {n : Int} (b : Int) (h : ¬ rfS s n = 0) : rbS s n b = rfS s n := if_neg h
theorem rbS_out {s : Sup} {n b : Int} (h : rfS s n = 0) (h2 : ¬ (0 ≤ b ∧ b < s.bl)) : rbS s n b = 51 := by unfold rbS; rw [if_pos h, if_neg h2]
theorem rbS_ok {s : Sup} {n b : Int} (h : rfS s n = 0) (h2 : 0 ≤ b ∧ b < s.bl) : rbS s n b = 0 := by unfold rbS; rw [if_pos h, if_pos h2]
theorem rbS_zero {s : Sup} {n b : Int} (h : rbS s n b = 0) : rfS s n = 0 ∧ 0 ≤ b ∧ b < s.bl := by
  unfold rbS at h
  by_cases c : rfS s n = 0
  · rw [if_pos c] at h
    by_cases c2 : 0 ≤ b ∧ b < s.bl
    · exact ⟨c, c2⟩
    · rw [if_neg c2] at h; omega
  · rw [if_neg c] at h; exact absurd h c
theorem rbS_in {s : Sup} {n b : Int} (h : rbS s n b = 0) : inB b ∧ 0 ≤ 1 + b ∧ 1 + b < n := by
  obtain ⟨h1, h2, h3⟩ := rbS_zero h
  obtain ⟨h4, h5⟩ := rfS_zero h1
  have := h4.1; have := h4.2.1
  refine ⟨⟨?_, ?_⟩, ?_, ?_⟩ <;> omega
def svW (s : Sup) (n : Int) (ws : List Wr) (b : Int) (v : List Int) : List Wr := if rbS s n b = 0 then ws ++ [⟨(1 + b).toNat, homeS b v⟩] else ws
theorem svW_yes {s : Sup} {n b : Int} (ws : List Wr) (v : List Int) (h : rbS s n b = 0) : svW s n ws b v = ws ++ [⟨(1 + b).toNat, homeS b v⟩] := if_pos h
theorem svW_no {s : Sup} {n b : Int} (ws : List Wr) (v : List Int) (h : ¬ rbS s n b = 0) : svW s n ws b v = ws := if_neg h
end Go.Proofs.YtdadpepfpiimgaaDoor
namespace Go.Proofs.YtdadpepfpiimgaaDoor
open Go.RowKit
theorem below_drawn {B : Nat} {w : World} (nq : Nat) : Below B w (w.drewN nq) := ⟨rfl, rfl, rfl, Nat.le_refl _, fun _ _ => rfl⟩
end Go.Proofs.YtdadpepfpiimgaaDoor
namespace Go.Proofs.YtdadpepfpiimgaaDoor
open Go.RowKit
theorem places29 : placesOf Tryd.prog 53 = some plS := by kernel_rfl
theorem zero29 : (Tryd.prog.info? 53).bind (·.zero) = some (.agg (scells sup0).toArray) := by kernel_rfl
theorem fill_cfg (r s : Sup) (rest : List (Nat × Value)) : Instr.fill (plS.toArray[·]?) (scells r).toArray ((0, .agg (ccells s).toArray) :: rest) = Instr.fill (plS.toArray[·]?) (scells ⟨s.bl, s.lc, s.mr, s.hi, s.cl, r.tail, r.life⟩).toArray rest :=
  fill_step 0 5 0 rfl _ (ccells s) _ rfl rfl (by rw [scells_len]; omega) rest
theorem fill_tail (r : Sup) (x : Int) (rest : List (Nat × Value)) : Instr.fill (plS.toArray[·]?) (scells r).toArray ((1, .int .u64 x) :: rest) = Instr.fill (plS.toArray[·]?) (scells ⟨r.bl, r.lc, r.mr, r.hi, r.cl, x, r.life⟩).toArray rest :=
  fill_step 5 1 1 rfl _ [.int .u64 x] _ rfl rfl (by rw [scells_len]; omega) rest
theorem fill_life (r : Sup) (x : Int) (rest : List (Nat × Value)) : Instr.fill (plS.toArray[·]?) (scells r).toArray ((2, .int .u64 x) :: rest) = Instr.fill (plS.toArray[·]?) (scells ⟨r.bl, r.lc, r.mr, r.hi, r.cl, r.tail, x⟩).toArray rest :=
  fill_step 6 1 2 rfl _ [.int .u64 x] _ rfl rfl (by rw [scells_len]; omega) rest
theorem fill_all (s : Sup) : Instr.fill (plS.toArray[·]?) (scells sup0).toArray [(0, .agg (ccells s).toArray), (1, .int .u64 s.tail), (2, .int .u64 s.life)] = some (scells s).toArray := by
  rw [fill_cfg, fill_tail, fill_life]; rfl
theorem build29 (w : World) (parts : Array (Nat × Value)) (r : Sup) (h : Instr.fill (plS.toArray[·]?) (scells sup0).toArray parts.toList = some (scells r).toArray) : (Instr.build 53 parts).run Tryd.prog w = .ok (.agg (scells r).toArray) w :=
  run_build w 53 _ _ ((built_of 53 _ _ _ places29 zero29).trans h)
end Go.Proofs.YtdadpepfpiimgaaDoor
namespace Go.Proofs.YtdadpepfpiimgaaDoor
open Go.RowKit
theorem below_setCells {B g : Nat} (hg : B ≤ g) : ∀ (vs : List Value) (o : Nat) (w w' : World), Below B w w' → Below B w (w'.setCells g o vs)
  | [], _, _, _, h => h
  | v :: r, o, w, w', h => below_setCells hg r (o + 1) w _ (h.setCell (by simpa using hg) v)
end Go.Proofs.YtdadpepfpiimgaaDoor
namespace Go.Proofs.YtdadpepfpiimgaaDoor
open Go.RowKit
theorem size71 : (Tryd.prog.info? 81).map (·.size) = some 128 := by kernel_rfl
end Go.Proofs.YtdadpepfpiimgaaDoor
namespace Go.Proofs.YtdadpepfpiimgaaDoor
open Go.RowKit
theorem places71 : placesOf Tryd.prog 81 = some [(0, 64), (64, 64)] := by kernel_rfl
theorem zero71 : (Tryd.prog.info? 81).bind (·.zero) = some (.agg (List.replicate 128 (Value.int .u8 0)).toArray) := by kernel_rfl
theorem zero694 : (Tryd.prog.info? 79).bind (·.zero) = some (.agg (List.replicate 64 (Value.int .u8 0)).toArray) := by kernel_rfl
theorem built71 (a b : List Int) (ha : a.length = 64) (hb : b.length = 64) : Tryd.prog.built 81 [(0, .agg (U8 a).toArray), (1, .agg (U8 b).toArray)] = some (U8 a ++ U8 b).toArray := by
  rw [built_of 81 _ _ _ places71 zero71]
  exact fill_two4 _ _ 0 64 64 64 rfl _ _ (U8 a) (U8 b) rfl rfl (by rw [U8_length, ha]) (by rw [U8_length, hb]) rfl rfl (by simp)
theorem run_build71 (w : World) (a b : List Int) (ha : a.length = 64) (hb : b.length = 64) : (Instr.build 81 #[(0, .agg (U8 a).toArray), (1, .agg (U8 b).toArray)]).run Tryd.prog w = .ok (.agg (U8 a ++ U8 b).toArray) w :=
  run_build w 81 _ _ (built71 a b ha hb)
def Z69 : Array Value := (List.replicate 64 (Value.int .u8 0)).toArray
theorem Z69_size : Z69.size = 64 := by simp [Z69]
theorem run_alloc69 (w : World) : (Instr.alloc 79 true (.tuple #[])).run Tryd.prog w = .ok (.pointer (some ⟨w.heap.size, 0, none⟩)) (w.alloc (.cells Z69 79)) := by
  simp only [Instr.alloc, Sem.run_bind, zv4 79 _ zero694, Result.andThen_ok]
  simp [newVar, newRow, Value.cells, Z69]
theorem run_store69 (w : World) (b : List Int) (hb : b.length = 64) : (Instr.storeAt 79 (.pointer (some ⟨w.heap.size, 0, none⟩)) (.agg (U8 b).toArray)).run Tryd.prog (w.alloc (.cells Z69 79)) = .ok () (w.alloc (.cells (U8 b).toArray 79)) :=
  run_store_new w 79 Z69 _ (by simp [Z69_size, hb]) (by rw [size69]; simp [hb]) (u8_ones b)
theorem wpList_alloc69 {ops : Array Oper} {rest : List Oper} {o : Oper} {a : Act} {w : World} {Q : Exit → Act → World → Prop} (hgd : o.guard = none) (ho : o.op = .alloc 79)
    (h : wpList Tryd.prog ops Q rest (a.put o.dst (.pointer (some ⟨w.heap.size, 0, none⟩))) (w.alloc (.cells Z69 79))) : wpList Tryd.prog ops Q (o :: rest) a w :=
  wpList_plain hgd fun _ hK => wp_val (by unfold execOp; simp only [ho, Sem.run_bind, run_alloc69, Result.andThen_ok, Sem.run_pure]) (hK _ _ h)
theorem wpList_store69 {ops : Array Oper} {rest : List Oper} {o : Oper} {a : Act} {w : World} {Q : Exit → Act → World → Prop} (hgd : o.guard = none) (x y : Operand) (ho : o.op = .store 79 x y) (b : List Int) (hx : a.eval x = .pointer (some ⟨w.heap.size, 0, none⟩)) (hy : a.eval y = .agg (U8 b).toArray) (hb : b.length = 64)
    (h : wpList Tryd.prog ops Q rest (a.put o.dst undef) (w.alloc (.cells (U8 b).toArray 79))) : wpList Tryd.prog ops Q (o :: rest) a (w.alloc (.cells Z69 79)) :=
  wpList_plain hgd fun _ hK => wp_skip' (by unfold execOp; simp only [ho, hx, hy, Sem.run_bind, run_store69 w b hb, Result.andThen_ok, Sem.run_pure]) (hK _ _ h)
theorem yields_build71 {ops : Array Oper} {S : World → Prop} {o : Oper} {a : Act} (hw : Region.wanted o (yielded ops a.tmps) = true) (x y : Operand) (ho : o.op = .build 81 #[(0, x), (1, y)]) (b c : List Int) (hx : a.eval x = .agg (U8 b).toArray) (hy : a.eval y = .agg (U8 c).toArray) (hb : b.length = 64) (hc : c.length = 64) : YieldsIf Tryd.prog ops S o (.agg (U8 b ++ U8 c).toArray) a :=
  .inl ⟨hw, fun w _ => by
    have e : (#[(0, x), (1, y)] : Array (Nat × Operand)).map (fun (i, x) => (i, a.eval x)) = #[(0, a.eval x), (1, a.eval y)] := by simp
    unfold execOp; simp only [ho]; rw [e, hx, hy]; simp only [Sem.run_bind, run_build71 w b c hb hc, Result.andThen_ok, Sem.run_pure]⟩
end Go.Proofs.YtdadpepfpiimgaaDoor
namespace Go.Proofs.YtdadpepfpiimgaaDoor
open Go.RowKit
theorem sizeV : (Tryd.prog.info? 35).map (·.size) = some 32 := by kernel_rfl
theorem buildV (w : World) : (Instr.build 35 #[]).run Tryd.prog w = .ok (.agg (U8 (zs 32)).toArray) w := run_build w 35 _ _ (by kernel_rfl)
abbrev VAt (w : World) (g : Nat) (v : List Int) : Prop := LAt 35 w g (U8 v)
theorem VAt.load {w : World} {g : Nat} {v : List Int} (h : VAt w g v) (hv : v.length = 32) : (Instr.loadAt 35 (.pointer (some ⟨g, 0, none⟩))).run Tryd.prog w = .ok (.agg (U8 v).toArray) w :=
  run_loadAt_mid w g 0 35 (U8 v) _ (LAt.range h) Tryd.underlying35 rfl (by rw [sizeV, U8_length, hv])
theorem VAt.bin {w : World} {g : Nat} {v : List Int} (h : VAt w g v) (hv : v.length = 32) (hb : Bytes v) : BIn w (some ⟨g, 0, none⟩) 32 v := by
  refine ⟨hv, hb, fun _ => ⟨g, 0, rfl, fun i hi => ?_⟩⟩
  rw [Nat.zero_add, LAt.cell h i]
  simp [U8, List.getD, List.getElem?_eq_getElem (show i < v.length by omega)]
theorem VAt.sin {w : World} {g : Nat} {v : List Int} (h : VAt w g v) (hv : v.length = 32) (hb : Bytes v) : SIn w (.slice (some ⟨g, 0, none⟩) 32 32) v := ⟨_, 32, 32, rfl, h.bin hv hb, Nat.le_refl _, fun e => by cases e⟩
end Go.Proofs.YtdadpepfpiimgaaDoor
namespace Go.Proofs.YtdadpepfpiimgaaDoor
open Go.RowKit
set_option maxHeartbeats 400000 in
set_option maxRecDepth 100000 in
theorem isBlock_any (b n : Int) (w : World) :
    Calls Tryd.prog 32 #[.int .i64 b, .int .i64 n] w fun e w' => e = .returned (.bool (decide (0 ≤ b ∧ b < n))) ∧ w = w' := by
  go_enter Tryd.func32, Tryd.ntmps32
  go_wp2
  all_goals go_ret
  all_goals (refine ⟨?_, rfl⟩; simp; try omega)
set_option maxHeartbeats 400000 in
set_option maxRecDepth 100000 in
theorem hput_any (n : Int) (k : Nat) (w : World) (hn0 : 0 ≤ n) (hk : 1 ≤ k ∧ k ≤ 8) (hn : n / 256 ^ k = 0) :
    Calls Tryd.prog 33 #[.int .u64 n, .int .i64 k] w fun e w' => ∃ p c, e = .returned (.slice p k c) ∧ Made w w' p k c (digits k n) := by
  go_enter Tryd.func33, Tryd.ntmps33
  go_wp2_with fail
  refine (put_ok n k w hn0 hk hn).mono ?_
  rintro e w1 ⟨v, rfl, ho, hb⟩
  obtain ⟨p, c, rfl, hm⟩ := made_of ho (digits_bytes k n) hb
  clear ho hb hn
  go_wp2_with fail
  go_ret
  exact ⟨p, c, rfl, hm⟩
theorem join_three {w : World} (u v x : Value) (xs ys zs : List Int) (hu : SIn w u xs) (hv : SIn w v ys) (hx : SIn w x zs) (n : Nat) (hn : (xs ++ (ys ++ zs)).length = n) (hb : n ≤ 100000) :
    Calls Tryd.prog 30 #[.slice (some ⟨w.heap.size, 0, none⟩) 3 3] (w.alloc (.cells [u, v, x].toArray 49)) fun e w' => e = .returned (.slice (some ⟨w.heap.size + 1, 0, none⟩) n n) ∧ Made w w' (some ⟨w.heap.size + 1, 0, none⟩) n n (xs ++ (ys ++ zs)) := by
  have hs : SIns w [u, v, x] [xs, ys, zs] := ⟨hu, hv, hx, trivial⟩
  have e : [xs, ys, zs].flatten = xs ++ (ys ++ zs) := by simp
  have hB : Bytes (xs ++ (ys ++ zs)) := by
    obtain ⟨_, _, _, _, h1, _⟩ := hu
    obtain ⟨_, _, _, _, h2, _⟩ := hv
    obtain ⟨_, _, _, _, h3, _⟩ := hx
    exact h1.byte.append (h2.byte.append h3.byte)
  have := join_full w.heap.size 0 3 3 [u, v, x] [xs, ys, zs] (w.alloc (.cells [u, v, x].toArray 49)) (pin_new hs 3 rfl) (by omega) (by rw [e, hn]; omega) (by omega)
  rw [e, hn] at this
  refine this.mono ?_
  have e2 : (w.alloc (.cells [u, v, x].toArray 49)).heap.size = w.heap.size + 1 := by simp
  rintro e w' ⟨rfl, ho, hb2⟩
  rw [e2] at ho hb2 ⊢
  have hb3 : Below w.heap.size w w' := (below_alloc w _).trans (hb2.mono (by omega))
  obtain ⟨p, c, e3, hr, hc, hp, _⟩ := own_in ho hB
  simp only [Value.slice.injEq, true_and] at e3
  obtain ⟨rfl, rfl⟩ := e3
  exact ⟨rfl, own_mono ho (by omega), hr, hc, hp, hb3⟩
abbrev HM : Array Value := #[.int .u8 72, .int .u8 79, .int .u8 77, .int .u8 69]
def hm : List Int := [72, 79, 77, 69]
theorem hm_bytes : Bytes hm := by intro x hx; simp [hm] at hx; omega
theorem dig1 (n : Int) (h0 : 0 ≤ n) (h1 : n < 256) : digits 1 n = [n] := by simp [digits]; omega
theorem div1 (n : Int) (h0 : 0 ≤ n) (h1 : n < 256) : n / 256 ^ 1 = 0 := Int.ediv_eq_zero_of_lt h0 (by rw [show (256 : Int) ^ 1 = 256 by decide]; omega)
theorem hbody_is (b : Int) (v : List Int) : (hm ++ ([1] ++ [b]) ++ List.replicate (28 - 6) 0) ++ v = hbody b v := by
  simp [hm, hbody, zs]
set_option maxHeartbeats 2000000 in
set_option maxRecDepth 100000 in
theorem hencode_good (b : Int) (v : List Int) (hb : inB b) (hv : v.length = 32) (hvb : Bytes v) (w : World) (ht : Tab w) :
    Calls Tryd.prog 16 #[.int .i64 b, .agg (U8 v).toArray] w fun e w' => ∃ g, e = .returned (.tuple #[.slice (some ⟨g, 0, none⟩) 64 64, .int .i64 0]) ∧ Made w w' (some ⟨g, 0, none⟩) 64 64 (homeS b v) := by
  obtain ⟨w0, hw0⟩ : ∃ x, x = w.alloc (.cells (U8 v).toArray 35) := ⟨_, rfl⟩
  have ew0 := hw0.symm
  have V0 : Hid (VAt w0 w.heap.size v) := by rw [hw0]; exact LAt.new 35 w (U8 v)
  have B0 : Hid (Below w.heap.size w w0) := by rw [hw0]; exact below_alloc w _
  have HT : Hid (Tab w) := ht
  have HV : Hid (v.length = 32 ∧ Bytes v) := ⟨hv, hvb⟩
  have HB : Hid (inB b) := hb
  have hb0 := hb.1
  have hb1 := hb.2
  clear hw0 ht hv hvb
  go_enter Tryd.func16, Tryd.ntmps16
  go_wp2_with fail
  clear ew0
  refine (isBlock_any b 64 _).mono ?_
  rintro e w1 ⟨rfl, rfl⟩
  rw [decide_eq_true hb]
  clear hb
  have cv := conv_const w0 HM 4 w0.heap.size rfl
  have C1 : Hid (Below w0.heap.size w0 (w0.alloc (.cells HM 5 (4, 5)))) := below_alloc w0 _
  have N1 : Hid (BIn (w0.alloc (.cells HM 5 (4, 5))) (some ⟨w0.heap.size, 0, none⟩) 4 hm) := lit_mark w0 hm 4 (4, 5) rfl hm_bytes
  go_wp2_with fail
  clear cv
  generalize w0.alloc (.cells HM 5 (4, 5)) = w1 at *
  refine (hput_any 1 1 w1 (by omega) (by omega) (by decide)).mono ?_
  rintro e w2 ⟨p2, c2, rfl, m2⟩
  have S2 : Hid (SIn w2 (.slice p2 1 c2) [1]) := m2.sin
  have N2 : Hid (SIn w2 (.slice (some ⟨w0.heap.size, 0, none⟩) 4 4) hm) := ⟨_, 4, 4, rfl, N1.out.later m2.below, Nat.le_refl _, fun e => by cases e⟩
  have C2 : Hid (Below w0.heap.size w0 w2) := below_then C1.out m2.below
  clear m2 N1 C1
  have ks : IntKind.u64.wrap b = b := by rw [IntKind.wrap_u64]; omega
  go_wp2_with fail
  refine (hput_any b 1 w2 hb0 (by omega) (div1 _ hb0 (by omega))).mono ?_
  rintro e w3 ⟨p3, c3, rfl, m3⟩
  have S3 : Hid (SIn w3 (.slice p3 1 c3) [b]) := by have := m3.sin; rw [dig1 b hb0 (by omega)] at this; exact this
  have T3 : Hid (SIn w3 (.slice p2 1 c2) [1]) := S2.out.later m3.below
  have N3 : Hid (SIn w3 (.slice (some ⟨w0.heap.size, 0, none⟩) 4 4) hm) := N2.out.later m3.below
  have C3 : Hid (Below w0.heap.size w0 w3) := below_then C2.out m3.below
  clear m3 S2 N2 C2
  go_wp2_with fail
  refine (join_three _ _ _ _ _ _ N3.out T3.out S3.out 6 (by simp [hm]) (by omega)).mono ?_
  rintro e w4 ⟨rfl, m4⟩
  have N4 : Hid (BIn w4 (some ⟨w3.heap.size + 1, 0, none⟩) 6 (hm ++ ([1] ++ [b]))) := m4.read
  have C4 : Hid (Below w0.heap.size w0 w4) := below_then C3.out m4.below
  clear m4 S3 T3 N3 C3
  go_wp2_with fail
  refine (pad_full (some ⟨w3.heap.size + 1, 0, none⟩) 6 6 (hm ++ ([1] ++ [b])) 28 w4 (by omega) (by omega) N4.out).mono ?_
  rintro e w5 ⟨rfl, g5, b5⟩
  have C5 : Hid (Below w0.heap.size w0 w5) := below_then C4.out b5
  have S5 : Hid (SIn w5 (.slice (some ⟨w4.heap.size, 0, none⟩) 28 28) (hm ++ ([1] ++ [b]) ++ List.replicate (28 - 6) 0)) := by
    have hB : Bytes (hm ++ ([1] ++ [b]) ++ List.replicate (28 - 6) 0) := by
      refine (N4.out.byte).append (zs_bytes 22)
    refine ⟨_, 28, 28, rfl, ⟨by simp [hm], hB, fun _ => ⟨_, 0, rfl, fun i hi => ?_⟩⟩, Nat.le_refl _, fun e => by cases e⟩
    rw [Nat.zero_add, g5.cell i]
    have : i < (hm ++ ([1] ++ [b]) ++ List.replicate (28 - 6) (0 : Int)).length := by simp [hm]; omega
    simp only [U8, List.getElem?_map, List.getElem?_eq_getElem this, List.getD, Option.map_some, Option.getD_some]
  have V5 : Hid (SIn w5 (.slice (some ⟨w.heap.size, 0, none⟩) 32 32) v) := VAt.sin (LAt.later V0.out (below_then (Below.refl _ _) C5.out)) HV.out.1 HV.out.2
  clear g5 b5 C4 N4 V0
  go_wp2_with fail
  refine (join_two _ _ _ _ S5.out V5.out 60 (by rw [hbody_is, hbody_len b HV.out.1]) (by omega)).mono ?_
  rintro e w6 ⟨rfl, m6⟩
  rw [hbody_is] at m6
  have N6 : Hid (SIn w6 (.slice (some ⟨w5.heap.size + 1, 0, none⟩) 60 60) (hbody b v)) := m6.sin
  have C6 : Hid (Below w0.heap.size w0 w6) := below_then C5.out m6.below
  have HL : Hid ((hbody b v).length = 60) := hbody_len b HV.out.1
  clear m6 S5 V5 C5
  go_wp2_with fail
  refine (of_new (some ⟨w5.heap.size + 1, 0, none⟩) 60 60 (hbody b v) N6.out (by rw [HL.out]; omega) (HT.out.later (below_then B0.out C6.out)).half).mono ?_
  rintro e w7 ⟨rfl, b7⟩
  have N7 : Hid (SIn w7 (.slice (some ⟨w5.heap.size + 1, 0, none⟩) 60 60) (hbody b v)) := N6.out.later b7
  have C7 : Hid (Below w0.heap.size w0 w7) := below_then C6.out b7
  have hcl := crc_lt (hbody b v) (hbody_bytes HB.out HV.out.2)
  have HE : Hid (homeS b v = hbody b v ++ digits 4 ((crc (hbody b v) : Nat) : Int)) := rfl
  have HEL : Hid ((homeS b v).length = 64) := homeS_len b HV.out.1
  clear b7 N6 C6
  generalize crc (hbody b v) = S at *
  go_wp2_with fail
  refine (hput_any (S : Int) 4 w7 (by omega) (by omega) (div4 _ (by omega) (by omega))).mono ?_
  rintro e w8 ⟨p8, c8, rfl, m8⟩
  have N8 : Hid (SIn w8 (.slice (some ⟨w5.heap.size + 1, 0, none⟩) 60 60) (hbody b v)) := N7.out.later m8.below
  have S8 : Hid (SIn w8 (.slice p8 4 c8) (digits 4 (S : Int))) := m8.sin
  have C8 : Hid (Below w.heap.size w w8) := below_then B0.out (below_then C7.out m8.below)
  clear m8 N7 C7
  go_wp2_with fail
  refine (join_two _ _ _ _ N8.out S8.out 64 (by rw [← HE.out]; exact HEL.out) (by omega)).mono ?_
  rintro e w9 ⟨rfl, m9⟩
  rw [← HE.out] at m9
  have M9 : Hid (Made w8 w9 (some ⟨w8.heap.size + 1, 0, none⟩) 64 64 (homeS b v)) := m9
  clear m9 N8 S8
  go_wp2_with fail
  go_ret2
  exact ⟨w8.heap.size + 1, rfl, own_mono M9.out.own C8.out.size, M9.out.read, M9.out.le, M9.out.nil, below_then C8.out M9.out.below⟩
end Go.Proofs.YtdadpepfpiimgaaDoor
namespace Go.Proofs.YtdadpepfpiimgaaDoor
open Go.RowKit
structure Ldn (w wr : World) (p q n cap : Nat) (v : Value) (D N : Nat → List Int) : Prop where
  str : wr.heap[p]? = some (.cells #[.slice (some ⟨q, 0, none⟩) n cap, v] 62 (0, 0))
  pl : Pl wr q n cap D N
  wt : wr.ownsRow 0 101 65 v 0 []
  below : Below w.heap.size w wr
  hp : w.heap.size ≤ p
  hq : w.heap.size ≤ q
  hv : ∀ k, v.ownBlock = some k → w.heap.size ≤ k
theorem Ldn.later {w wr w' : World} {p q n cap : Nat} {v : Value} {D N : Nat → List Int} (h : Ldn w wr p q n cap v D N) (hb : Below wr.heap.size wr w') : Ldn w w' p q n cap v D N :=
  ⟨(hb.block p (Blk.lt (t := 62) (sz := 2) ⟨_, h.str, rfl⟩)).trans h.str, h.pl.same (hb.block q h.pl.blk.lt), own_later h.wt hb, h.below.trans (hb.mono h.below.size), h.hp, h.hq, h.hv⟩
theorem Ldn.cell0 {w wr : World} {p q n cap : Nat} {v : Value} {D N : Nat → List Int} (h : Ldn w wr p q n cap v D N) : wr.cell? ⟨p, 0, none⟩ = some (.slice (some ⟨q, 0, none⟩) n cap) := by
  rw [cell_of_row _ _ _ _ 62 (0, 0) h.str]; rfl
theorem setCells_append (g : Nat) : ∀ (vs us : List Value) (o : Nat) (w : World), w.setCells g o (vs ++ us) = (w.setCells g o vs).setCells g (o + vs.length) us
  | [], us, o, w => rfl
  | v :: r, us, o, w => by
    show (w.setCell ⟨g, o, none⟩ v).setCells g (o + 1) (r ++ us) = _
    rw [setCells_append g r us (o + 1) _, List.length_cons, show o + 1 + r.length = o + (r.length + 1) by omega]
    rfl
theorem Ldn.set {w wr : World} {p q n cap k : Nat} {v : Value} {D N : Nat → List Int} (h : Ldn w wr p q n cap v D N) (b : List Int) (hb : b.length = 64) (hk : k < n) : Ldn w (wr.setCells q (k * 128) (U8 b ++ U8 b)) p q n cap v (fun i => if i = k then b else D i) (fun i => if i = k then b else N i) := by
  have hpq : p ≠ q := Blk.ne (t := 62) (sz := 2) ⟨_, h.str, rfl⟩ h.pl.blk (by decide)
  refine ⟨(setCells_other hpq _ _ _).trans h.str, ?_, own_same h.wt (fun k hk => ?_), below_setCells h.hq _ _ _ _ h.below, h.hp, h.hq, h.hv⟩
  · rw [setCells_append, U8_length, hb]
    exact (h.pl.setD b hb hk).setN b hb hk
  · obtain ⟨sz, hk'⟩ := own_ownBlk h.wt hk
    exact setCells_other (hk'.ne h.pl.blk (by decide)) _ _ _
def upk (xs : List Int) (k : Nat) : Nat → List Int := fun i => if i < k then sec xs i else List.replicate 64 0
theorem upk_step (xs : List Int) (k : Nat) : (fun i => if i = k then sec xs k else upk xs k i) = upk xs (k + 1) := by
  funext i
  simp only [upk]
  by_cases c : i = k
  · subst c; simp
  · by_cases c2 : i < k
    · simp [c, c2, show i < k + 1 by omega]
    · simp [c, c2, show ¬ i < k + 1 by omega]
theorem sec_range {w : World} {g o m n k : Nat} {xs : List Int} (h : BIn w (some ⟨g, o, none⟩) m xs) (hm : m = 64 * n) (hk : k < n) : w.rangeAt g (o + k * 64) (U8 (sec xs k)) := fun j v hv => by
  have hj : j < 64 := by have := (List.getElem?_eq_some_iff.1 hv).1; rw [U8_length, sec_length (h.len.trans hm) hk] at this; exact this
  rw [Nat.add_assoc]
  refine h.range (k * 64 + j) v ?_
  rw [← hv]
  simp only [U8, List.getElem?_map, sec_get xs k j hj]
  rw [Nat.mul_comm]
set_option maxHeartbeats 2000000 in
set_option maxRecDepth 100000 in
theorem load_good (g o m c n : Nat) (xs : List Int) (w : World) (h : BIn w (some ⟨g, o, none⟩) m xs) (hm : m = 64 * n) (hmc : m ≤ c) (hn1 : 1 ≤ n) (hn2 : n ≤ 4096) :
    Calls Tryd.prog 17 #[.slice (some ⟨g, o, none⟩) m c] w fun e w' => ∃ p, e = .returned (.tuple #[.pointer (some ⟨p, 0, none⟩), .int .i64 0]) ∧ Dsk w' (fun k => w.heap.size ≤ k) p n xs [] ∧ Below w.heap.size w w' := by
  have e1 : ((m : Int) % 64 != 0) = false := by rw [show (m : Int) % 64 = 0 by omega]; rfl
  have e2 : (m : Int) / 64 = (n : Int) := by omega
  have HX : Hid (BIn w (some ⟨g, o, none⟩) m xs) := h
  have HL : Hid (xs.length = 64 * n) := h.len.trans hm
  have HM : Hid (m = 64 * n) := hm
  clear h hm
  go_enter Tryd.func17, Tryd.ntmps17
  go_wp2_with fail
  clear e1 e2
  refine (new_good n w hn1 hn2).mono ?_
  rintro e w1 ⟨p, rfl, ⟨q, cap, v, hd⟩, hb1⟩
  have h0 := hd.cell0
  have HD0 : Hid (Ldn w w1 p q n cap v (upk xs 0) (upk xs 0)) := by
    refine ⟨hd.str, hd.pl.congr (fun i hi => ?_) (fun i hi => ?_), hd.wt, hb1, hd.sp, hd.sq, hd.sv⟩
    · rw [sec_zeros n i hi]; rfl
    · rw [newest_nil, sec_zeros n i hi]; rfl
  clear hd
  go_wp2
  clear h0
  go_loopw [27] (fun i wr => ∃ k : Nat, k ≤ n ∧ i = .int .i64 k ∧ Hid (Ldn w wr p q n cap v (upk xs k) (upk xs k))) (fun i _ => n - (intOf i).toNat)
  case atStart => exact ⟨0, by omega, rfl, HD0.out⟩
  case round =>
    obtain ⟨k, hkm, rfl, HR⟩ := hrel
    clear HD0
    by_cases hlt : k < n
    · have hm := HM.out
      have hmul : IntKind.i64.wrap ((k : Int) * 64) = (k : Int) * 64 := by rw [IntKind.wrap_i64]; omega
      have l1 : (k : Int) * 64 ≤ (m : Int) := by omega
      have l2 : (m : Int) ≤ (c : Int) := by omega
      have l3 : ¬ (c : Int) = (k : Int) * 64 := by omega
      have l4 : (0 : Int) ≤ (k : Int) * 64 := by omega
      have hr : wr.rangeAt g (o + k * 64) (U8 (sec xs k)) := sec_range (HX.out.later HR.out.below) hm hlt
      have HLk : Hid ((sec xs k).length = 64) := sec_length HL.out hlt
      have hat : ∀ (w : World) (a : Option Addr) (l c : Nat), 64 ≤ l → (Instr.arrayAt 79 (.slice a l c)).run Tryd.prog w = .ok (.pointer a) w := fun w a l c hl => run_arrayAt w 79 _ 64 _ l c Tryd.underlying79 hl
      have hat2 := fun w c => hat w (some ⟨g, o + k * 64, none⟩) (m - k * 64) c (by omega)
      have HRb : Hid (Bytes (sec xs k)) := HX.out.byte.sec k
      have HU : Hid (Ldn w ((wr.alloc (.cells (U8 (sec xs k)).toArray 79)).setCells q (k * 128) (U8 (sec xs k) ++ U8 (sec xs k))) p q n cap v (upk xs (k + 1)) (upk xs (k + 1))) := by
        have := (HR.out.later (below_alloc wr (.cells (U8 (sec xs k)).toArray 79))).set (sec xs k) HLk.out hlt
        rw [upk_step] at this
        exact this
      have hD := HR.out.later (below_alloc wr (.cells (U8 (sec xs k)).toArray 79))
      have t0 := hD.cell0
      have t1 : (wr.alloc (.cells (U8 (sec xs k)).toArray 79)).rangeAt wr.heap.size 0 (U8 (sec xs k)) := new_range wr _ 79
      have t2 : (wr.alloc (.cells (U8 (sec xs k)).toArray 79)).there q (k * 128) 128 := hD.pl.blk.there _ _ (by have := hD.pl.ncap; omega)
      have HNE : Hid (p ≠ q ∧ wr.heap.size ≠ q) := ⟨Blk.ne (t := 62) (sz := 2) ⟨_, hD.str, rfl⟩ hD.pl.blk (by decide), by have := HR.out.pl.blk.lt; omega⟩
      clear hat hm HR hD
      generalize sec xs k = b at *
      go_wp2_with (first | (refine wpList_load_mid (by rfl) 79 (.tmp 34) (by rfl) g (o + k * 64) (by rfl) (U8 b) _ hr Tryd.underlying79 rfl (by rw [size69, U8_length, HLk.out]) ?_) | (refine wpList_alloc69 (by rfl) (by rfl) ?_) | (refine wpList_store69 (by rfl) (.tmp 7) (.tmp 35) (by rfl) b (by rfl) (by rfl) HLk.out ?_) | fail)
      simp only [Act.put, List.setIfInBounds_toArray, List.set_cons_zero, List.set_cons_succ]
      obtain ⟨W, hW⟩ : ∃ W, wr.alloc (.cells (U8 b).toArray 79) = W := ⟨_, rfl⟩
      rw [hW] at t0 t1 t2 HU ⊢
      clear hW hr hat2 hmul l1 l2 l3 l4
      have i1 : (k : Int) < (n : Int) := by omega
      have i0 : (0 : Int) ≤ (k : Int) := by omega
      have k0 : (W.drew.setCells q (k * 128) (U8 b ++ U8 b)).cell? ⟨p, 0, none⟩ = some (.slice (some ⟨q, 0, none⟩) n cap) := by
        rw [World.cell?_setCells_out _ _ _ _ _ (fun e => absurd e HNE.out.1)]; exact t0
      have k1 : (W.drew.setCells q (k * 128) (U8 b ++ U8 b)).rangeAt wr.heap.size 0 (U8 b) := World.rangeAt_setCells_apart (w := W.drew) t1 _ _ _ (Or.inl HNE.out.2)
      have k2 : (W.drew.setCells q (k * 128) (U8 b ++ U8 b)).there q (k * 128) 128 := World.there_setCells (w := W.drew) t2 _ _ _
      refine wp_region_noPanic ?_
      refine wp_region_held_drew (S := (fun w' => w'.cell? ⟨p, 0, none⟩ = some (.slice (some ⟨q, 0, none⟩) n cap) ∧ w'.rangeAt wr.heap.size 0 (U8 b) ∧ w'.there q (k * 128) 128)) (by kernel_rfl) ⟨t0, t1, t2⟩ (fun hHeld => ?_)
      refine wpAnyH_take (i := 0) (v := ?v0) (by simp; rfl) (by kernel_rfl) (by kernel_rfl) (by kernel_rfl) (fun _ _ _ h => h) (Or.inl ⟨by rfl, ?y0⟩) hHeld ?r0
      case y0 => intro w hSw; obtain ⟨hSw, -, -⟩ := hSw; go_simp; with_reducible rfl
      simp only [Act.put, List.setIfInBounds_toArray, List.set_cons_zero, List.set_cons_succ]
      refine wpAnyH_take (i := 1) (v := ?v1) (by simp; rfl) (by kernel_rfl) (by kernel_rfl) (by kernel_rfl) (fun _ _ _ h => h) (Or.inl ⟨by rfl, ?y1⟩) hHeld ?r1
      case y1 => intro w hSw; obtain ⟨hSw, -, -⟩ := hSw; go_simp; with_reducible rfl
      simp only [Act.put, List.setIfInBounds_toArray, List.set_cons_zero, List.set_cons_succ]
      refine wpAnyH_take (i := 2) (v := ?v2) (by simp; rfl) (by kernel_rfl) (by kernel_rfl) (by kernel_rfl) (fun _ _ _ h => h) (Or.inl ⟨by rfl, ?y2⟩) hHeld ?r2
      case y2 => intro w hSw; obtain ⟨hSw, -, -⟩ := hSw; go_simp; with_reducible rfl
      simp only [Act.put, List.setIfInBounds_toArray, List.set_cons_zero, List.set_cons_succ]
      refine wpAnyH_take (i := 3) (v := ?v3) (by simp; rfl) (by kernel_rfl) (by kernel_rfl) (by kernel_rfl) (fun _ _ _ h => h) (Or.inl ⟨by rfl, ?y3⟩) hHeld ?r3
      case y3 => intro w hSw; obtain ⟨hSw, -, -⟩ := hSw; go_simp; with_reducible rfl
      simp only [Act.put, List.setIfInBounds_toArray, List.set_cons_zero, List.set_cons_succ]
      refine wpAnyH_take (i := 4) (v := ?v4) (by simp; rfl) (by kernel_rfl) (by kernel_rfl) (by kernel_rfl) (fun _ _ _ h => h) (Or.inl ⟨by rfl, ?y4⟩) hHeld ?r4
      case y4 => intro w hSw; obtain ⟨hSw, -, -⟩ := hSw; go_simp; with_reducible rfl
      simp only [Act.put, List.setIfInBounds_toArray, List.set_cons_zero, List.set_cons_succ]
      refine wpAnyH_take (i := 5) (v := _) (by simp; rfl) (by kernel_rfl) (by kernel_rfl) (by kernel_rfl) (fun _ _ _ h => h) (yieldsIf_load_mid (by rfl) 79 (.tmp 7) rfl wr.heap.size 0 rfl (U8 b) _ (fun _ h => h.2.1) Tryd.underlying79 rfl (by rw [size69, U8_length, HLk.out])) hHeld ?_
      simp only [Act.put, List.setIfInBounds_toArray, List.set_cons_zero, List.set_cons_succ]
      refine wpAnyH_take (i := 6) (v := _) (by simp; rfl) (by kernel_rfl) (by kernel_rfl) (by kernel_rfl) (fun _ _ _ h => h) (yieldsIf_load_mid (by rfl) 79 (.tmp 7) rfl wr.heap.size 0 rfl (U8 b) _ (fun _ h => h.2.1) Tryd.underlying79 rfl (by rw [size69, U8_length, HLk.out])) hHeld ?_
      simp only [Act.put, List.setIfInBounds_toArray, List.set_cons_zero, List.set_cons_succ]
      refine wpAnyH_take (i := 7) (v := _) (by simp; rfl) (by kernel_rfl) (by kernel_rfl) (by kernel_rfl) (fun _ _ _ h => h) (yields_build71 (by rfl) (.tmp 41) (.tmp 42) rfl b b rfl rfl HLk.out HLk.out) hHeld ?_
      simp only [Act.put, List.setIfInBounds_toArray, List.set_cons_zero, List.set_cons_succ]
      refine wpAnyH_take (i := 8) (v := ?v8) (by simp; rfl) (by kernel_rfl) (by kernel_rfl) (by kernel_rfl) (fun _ _ _ h => h) (Or.inl ⟨by rfl, ?y8⟩) hHeld ?r8
      case y8 => intro w hSw; clear hSw; go_simp; with_reducible rfl
      simp only [Act.put, List.setIfInBounds_toArray, List.set_cons_zero, List.set_cons_succ]
      refine wpAnyH_ready (rs := [9]) (by kernel_rfl) (by simp) ?_
      refine AllReadyH.cons (by simp; rfl) (fun K hK => ?_) AllReadyH.nil
      rw [if_pos (by rfl)]
      refine wp_store_mid 81 (.tmp 44) (.tmp 43) rfl q (k * 128) (U8 b ++ U8 b).toArray rfl rfl (by rw [List.size_toArray, List.length_append, U8_length, HLk.out]; exact t2) (by rw [size71, List.size_toArray, List.length_append, U8_length, HLk.out]) (all_oneCell_toArray (fun u hu => (List.mem_append.1 hu).elim (ones_u8 b u) (ones_u8 b u))) ?_
      rw [List.toList_toArray]
      refine hK.out _ _ ⟨k0, k1, k2⟩ (fun hHeld => ?_)
      clear hK K
      refine wpAnyH_done (by kernel_rfl) (NoPanic.normal ?_) _
      simp only [Act.put]
      rw [setCells_drew]
      clear k0 k1 k2 t0 t1 t2
      go_wp2
      go_roundw
      case rel => exact ⟨k + 1, by omega, by go_num, HU.out.later ⟨rfl, rfl, rfl, Nat.le_refl _, fun _ _ => rfl⟩⟩
      case measure => simp [intOf]; omega
    · obtain rfl : k = n := by omega
      have HF : Hid (Dsk wr (fun k => w.heap.size ≤ k) p k xs [] ∧ Below w.heap.size w wr) := by
        refine ⟨⟨q, cap, v, HR.out.str, HR.out.pl.congr (fun i hi => ?_) (fun i hi => ?_), HR.out.wt, HR.out.hp, HR.out.hq, HR.out.hv, hn1, hn2, HL.out, HX.out.byte, Fit.nil _⟩, HR.out.below⟩
        · simp [upk, hi]
        · simp [upk, hi, newest_nil]
      clear HR
      go_wp2
      go_ret2
      exact ⟨_, rfl, HF.out.1, HF.out.2⟩
end Go.Proofs.YtdadpepfpiimgaaDoor
namespace Go.Proofs.YtdadpepfpiimgaaDoor
open Go.RowKit
set_option maxHeartbeats 400000 in
set_option maxRecDepth 100000 in
theorem hrefuses_nil (s : Sup) (w : World) :
    Calls Tryd.prog 54 #[.pointer none, .agg (ccells s).toArray] w fun e w' => e = .returned (.int .i64 1) ∧ Below w.heap.size w w' := by
  have HB : Hid (Below w.heap.size w (w.alloc (.cells (ccells s).toArray 28))) := below_alloc w _
  go_enter Tryd.func54, Tryd.ntmps54
  go_wp2
  go_ret
  exact ⟨rfl, HB.out⟩
set_option maxHeartbeats 1000000 in
set_option maxRecDepth 100000 in
theorem hrefuses_any (s : Sup) {w : World} {S : Nat → Prop} {p n : Nat} {d : List Int} {ws : List Wr} (h : Dsk w S p n d ws) :
    Calls Tryd.prog 54 #[.pointer (some ⟨p, 0, none⟩), .agg (ccells s).toArray] w fun e w' => e = .returned (.int .i64 (rfS s n)) ∧ Below w.heap.size w w' := by
  have L1 : Hid (_) := CAt.load23 (LAt.new 28 w (ccells s))
  have HA : Hid (CAt (w.alloc (.cells (ccells s).toArray 28)) w.heap.size s) := LAt.new 28 w (ccells s)
  have HB : Hid (Below w.heap.size w (w.alloc (.cells (ccells s).toArray 28))) := below_alloc w _
  have HD : Hid (Dsk w S p n d ws) := h
  clear h
  go_enter Tryd.func54, Tryd.ntmps54
  go_wp2_with ((with_reducible refine at_ops ?_); (refine wpList_load_is (by rfl) 28 rfl rfl L1.out ?_); simp only [Act.put, List.setIfInBounds_toArray, List.set_cons_zero, List.set_cons_succ])
  refine (config_any s _).mono ?_
  rintro e w1 ⟨rfl, b1⟩
  have HA1 : Hid (CAt w1 w.heap.size s) := LAt.later HA.out b1
  have HB1 : Hid (Below w.heap.size w w1) := below_then HB.out b1
  have HD1 : Hid (Dsk w1 S p n d ws) := HD.out.later HB1.out
  clear b1 HA HB L1 HD
  by_cases hc : MayC s
  · rw [cfg_yes s hc]
    have HC : Hid (MayC s) := hc
    obtain ⟨⟨a1, a2⟩, ⟨a3, a4⟩, -⟩ := hc
    obtain ⟨bl, hbl⟩ : ∃ x, x = s.bl := ⟨_, rfl⟩
    obtain ⟨lc, hlc⟩ : ∃ x, x = s.lc := ⟨_, rfl⟩
    have k1 : IntKind.i64.wrap (1 + bl) = 1 + bl := by rw [IntKind.wrap_i64]; omega
    have k2 : IntKind.i64.wrap (1 + bl + lc) = 1 + bl + lc := by rw [IntKind.wrap_i64]; omega
    have HE : Hid (((n : Int) = 1 + bl + lc → rfS s n = 0) ∧ (¬ (n : Int) = 1 + bl + lc → rfS s n = 40)) := by rw [hbl, hlc]; exact ⟨fun h => rfS_ok HC.out h, fun h => rfS_len HC.out h⟩
    have HC0 : Hid (∀ w', CAt w' w.heap.size s → w'.cell? ⟨w.heap.size, 0, none⟩ = some (.int .i64 bl) ∧ w'.cell? ⟨w.heap.size, 1, none⟩ = some (.int .i64 lc)) := by rw [hbl, hlc]; exact fun w' h => ⟨CAt.c0 h, CAt.c1 h⟩
    clear hbl hlc a1 a2 a3 a4
    go_wp2_with fail
    refine wp_region_noPanic ?_
    refine wp_region_held_drew (S := fun w' => Below w1.heap.size w1 w') (by kernel_rfl) (below_drawn 1) (fun hHeld => ?_)
    have D1 : Hid (Below w1.heap.size w1 w1.drew) := hHeld
    generalize w1.drew = wd at *
    refine wpAnyH_take (i := 0) (v := ?va1) (by simp; rfl) (by kernel_rfl) (by kernel_rfl) (by kernel_rfl) (fun _ _ _ h => h) (Or.inl ⟨by rfl, ?ya1⟩) hHeld ?ra1
    case ya1 => intro w hSw; clear hSw; go_simp; with_reducible rfl
    simp only [Act.put, List.setIfInBounds_toArray, List.set_cons_zero, List.set_cons_succ]
    refine wpAnyH_take (i := 2) (v := ?va2) (by simp; rfl) (by kernel_rfl) (by kernel_rfl) (by kernel_rfl) (fun _ _ _ h => h) (Or.inl ⟨by rfl, ?ya2⟩) hHeld ?ra2
    case ya2 => intro w hSw; clear hSw; go_simp; with_reducible rfl
    simp only [Act.put, List.setIfInBounds_toArray, List.set_cons_zero, List.set_cons_succ]
    refine wpAnyH_take (i := 3) (v := ?va3) (by simp; rfl) (by kernel_rfl) (by kernel_rfl) (by kernel_rfl) (fun _ _ _ h => h) (Or.inl ⟨by rfl, ?ya3⟩) hHeld ?ra3
    case ya3 => intro w hSw; have z := (HC0.out _ (LAt.later HA1.out hSw)).1; clear hSw; go_simp; with_reducible rfl
    simp only [Act.put, List.setIfInBounds_toArray, List.set_cons_zero, List.set_cons_succ]
    refine wpAnyH_take (i := 4) (v := ?va4) (by simp; rfl) (by kernel_rfl) (by kernel_rfl) (by kernel_rfl) (fun _ _ _ h => h) (Or.inl ⟨by rfl, ?ya4⟩) hHeld ?ra4
    case ya4 => intro w hSw; clear hSw; go_simp; with_reducible rfl
    simp only [Act.put, List.setIfInBounds_toArray, List.set_cons_zero, List.set_cons_succ]
    refine wpAnyH_take (i := 5) (v := ?va5) (by simp; rfl) (by kernel_rfl) (by kernel_rfl) (by kernel_rfl) (fun _ _ _ h => h) (Or.inl ⟨by rfl, ?ya5⟩) hHeld ?ra5
    case ya5 => intro w hSw; clear hSw; go_simp; with_reducible rfl
    simp only [Act.put, List.setIfInBounds_toArray, List.set_cons_zero, List.set_cons_succ]
    refine wpAnyH_take (i := 6) (v := ?va6) (by simp; rfl) (by kernel_rfl) (by kernel_rfl) (by kernel_rfl) (fun _ _ _ h => h) (Or.inl ⟨by rfl, ?ya6⟩) hHeld ?ra6
    case ya6 => intro w hSw; have z := (HC0.out _ (LAt.later HA1.out hSw)).2; clear hSw; go_simp; with_reducible rfl
    simp only [Act.put, List.setIfInBounds_toArray, List.set_cons_zero, List.set_cons_succ]
    refine wpAnyH_take (i := 7) (v := ?va7) (by simp; rfl) (by kernel_rfl) (by kernel_rfl) (by kernel_rfl) (fun _ _ _ h => h) (Or.inl ⟨by rfl, ?ya7⟩) hHeld ?ra7
    case ya7 => intro w hSw; clear hSw; go_simp; with_reducible rfl
    simp only [Act.put, List.setIfInBounds_toArray, List.set_cons_zero, List.set_cons_succ]
    refine wpAnyH_ready (rs := [1]) (by kernel_rfl) (by simp) ?_
    refine AllReadyH.cons (by simp; rfl) (fun Kc hKc => ?_) AllReadyH.nil
    go_simp
    refine (len_any (HD1.out.later D1.out)).mono ?_
    rintro e wn ⟨rfl, rfl⟩
    refine hKc.out _ _ D1.out (fun hHeld => ?_)
    clear hKc Kc
    refine wpAnyH_take (i := 8) (v := ?va8) (by simp; rfl) (by kernel_rfl) (by kernel_rfl) (by kernel_rfl) (fun _ _ _ h => h) (Or.inl ⟨by rfl, ?ya8⟩) hHeld ?ra8
    case ya8 => intro w hSw; clear hSw; go_simp; with_reducible rfl
    simp only [Act.put, List.setIfInBounds_toArray, List.set_cons_zero, List.set_cons_succ]
    have HB2 : Hid (Below w.heap.size w wd) := below_then HB1.out D1.out
    clear hHeld D1 HD1 HC0
    refine wpAnyH_done (by kernel_rfl) (NoPanic.normal ?_) _
    by_cases he : (n : Int) = 1 + bl + lc
    · have hq : ((n : Int) != 1 + bl + lc) = false := by rw [he]; simp
      have HR : Hid (_) := HE.out.1 he
      clear he HE
      go_wp2_with fail
      go_ret
      exact ⟨by rw [HR.out]; rfl, HB2.out⟩
    · have hq : ((n : Int) != 1 + bl + lc) = true := by simp [he]
      have HR : Hid (_) := HE.out.2 he
      clear he HE
      go_wp2_with fail
      go_ret
      exact ⟨by rw [HR.out]; rfl, HB2.out⟩
  · rw [cfg_no s hc]
    have HR : Hid (rfS s n = 3) := rfS_no _ hc
    clear hc
    go_wp2_with fail
    go_ret
    exact ⟨by rw [HR.out]; rfl, HB1.out⟩
set_option maxHeartbeats 400000 in
set_option maxRecDepth 100000 in
theorem hrefB_nil (s : Sup) (b : Int) (w : World) :
    Calls Tryd.prog 43 #[.pointer none, .agg (ccells s).toArray, .int .i64 b] w fun e w' => e = .returned (.int .i64 1) ∧ Below w.heap.size w w' := by
  have L1 : Hid (_) := CAt.load23 (LAt.new 28 w (ccells s))
  have HB : Hid (Below w.heap.size w (w.alloc (.cells (ccells s).toArray 28))) := below_alloc w _
  go_enter Tryd.func43, Tryd.ntmps43
  go_wp2_with ((with_reducible refine at_ops ?_); (refine wpList_load_is (by rfl) 28 rfl rfl L1.out ?_); simp only [Act.put, List.setIfInBounds_toArray, List.set_cons_zero, List.set_cons_succ])
  refine (hrefuses_nil s _).mono ?_
  rintro e w1 ⟨rfl, b1⟩
  have HB1 : Hid (Below w.heap.size w w1) := below_then HB.out b1
  clear b1 HB L1
  go_wp2_with fail
  go_ret
  exact ⟨rfl, HB1.out⟩
set_option maxHeartbeats 1000000 in
set_option maxRecDepth 100000 in
theorem hrefB_any (s : Sup) (b : Int) {w : World} {S : Nat → Prop} {p n : Nat} {d : List Int} {ws : List Wr} (h : Dsk w S p n d ws) :
    Calls Tryd.prog 43 #[.pointer (some ⟨p, 0, none⟩), .agg (ccells s).toArray, .int .i64 b] w fun e w' => e = .returned (.int .i64 (rbS s n b)) ∧ Below w.heap.size w w' := by
  have L1 : Hid (_) := CAt.load23 (LAt.new 28 w (ccells s))
  have HA : Hid (CAt (w.alloc (.cells (ccells s).toArray 28)) w.heap.size s) := LAt.new 28 w (ccells s)
  have HB : Hid (Below w.heap.size w (w.alloc (.cells (ccells s).toArray 28))) := below_alloc w _
  have HD : Hid (Dsk (w.alloc (.cells (ccells s).toArray 28)) S p n d ws) := h.later HB.out
  clear h
  go_enter Tryd.func43, Tryd.ntmps43
  go_wp2_with ((with_reducible refine at_ops ?_); (refine wpList_load_is (by rfl) 28 rfl rfl L1.out ?_); simp only [Act.put, List.setIfInBounds_toArray, List.set_cons_zero, List.set_cons_succ])
  refine (hrefuses_any s HD.out).mono ?_
  rintro e w1 ⟨rfl, b1⟩
  have HA1 : Hid (CAt w1 w.heap.size s) := LAt.later HA.out b1
  have HB1 : Hid (Below w.heap.size w w1) := below_then HB.out b1
  have c0 := CAt.c0 HA1.out
  clear b1 HA HB L1 HD HA1
  by_cases hr : rfS s n = 0
  · rw [hr]
    go_wp2_with fail
    refine (isBlock_any b s.bl _).mono ?_
    rintro e w2 ⟨rfl, rfl⟩
    by_cases hb : 0 ≤ b ∧ b < s.bl
    · have HR : Hid (rbS s n b = 0) := rbS_ok hr hb
      rw [decide_eq_true hb]
      clear hb hr
      go_wp2_with fail
      go_ret
      exact ⟨by rw [HR.out]; rfl, HB1.out⟩
    · have HR : Hid (rbS s n b = 51) := rbS_out hr hb
      rw [decide_eq_false hb]
      clear hb hr
      go_wp2_with fail
      go_ret
      exact ⟨by rw [HR.out]; rfl, HB1.out⟩
  · have HR : Hid (rbS s n b = rfS s n) := rbS_no b hr
    generalize rfS s n = q at *
    have hq : (q != 0) = true := by simp [hr]
    go_wp2_with fail
    go_ret
    exact ⟨by rw [HR.out]; rfl, HB1.out⟩
set_option maxHeartbeats 400000 in
set_option maxRecDepth 100000 in
theorem hsave_nil (s : Sup) (b : Int) (v : List Int) (w : World) :
    Calls Tryd.prog 35 #[.pointer none, .agg (ccells s).toArray, .int .i64 b, .agg (U8 v).toArray] w fun e w' => e = .returned (.int .i64 1) ∧ Below w.heap.size w w' := by
  obtain ⟨w0, hw0⟩ : ∃ x, x = (w.alloc (.cells (ccells s).toArray 28)).alloc (.cells (U8 v).toArray 35) := ⟨_, rfl⟩
  have ew := hw0.symm
  have B0 : Hid (Below w.heap.size w w0) := by rw [hw0]; exact below_then (below_alloc w _) (below_alloc _ _)
  have C0 : Hid (CAt w0 w.heap.size s) := by rw [hw0]; exact LAt.later (LAt.new 28 w (ccells s)) (below_alloc _ _)
  have L1 : Hid (_) := CAt.load23 C0.out
  clear hw0
  go_enter Tryd.func35, Tryd.ntmps35
  go_wp2_with ((with_reducible refine at_ops ?_); (refine wpList_load_is (by rfl) 28 rfl rfl L1.out ?_); simp only [Act.put, List.setIfInBounds_toArray, List.set_cons_zero, List.set_cons_succ])
  refine (hrefB_nil s b _).mono ?_
  rintro e w1 ⟨rfl, b1⟩
  have HB1 : Hid (Below w.heap.size w w1) := below_then B0.out b1
  clear b1 B0 L1 C0 ew
  go_wp2_with fail
  go_ret
  exact ⟨rfl, HB1.out⟩
set_option maxHeartbeats 1000000 in
set_option maxRecDepth 100000 in
theorem hsave_any (s : Sup) (b : Int) (v : List Int) (hv : v.length = 32) (hvb : Bytes v) {w : World} {S : Nat → Prop} {p n : Nat} {d : List Int} {ws : List Wr} (h : Dsk w S p n d ws) (hk : ws.length ≤ 100000) (ht : Tab w) :
    Calls Tryd.prog 35 #[.pointer (some ⟨p, 0, none⟩), .agg (ccells s).toArray, .int .i64 b, .agg (U8 v).toArray] w fun e w' => e = .returned (.int .i64 (rbS s n b)) ∧ Dsk w' (More S w) p n d (svW s n ws b v) ∧ Kept S w w' := by
  obtain ⟨w0, hw0⟩ : ∃ x, x = (w.alloc (.cells (ccells s).toArray 28)).alloc (.cells (U8 v).toArray 35) := ⟨_, rfl⟩
  have ew := hw0.symm
  have B0 : Hid (Below w.heap.size w w0) := by rw [hw0]; exact below_then (below_alloc w _) (below_alloc _ _)
  have C0 : Hid (CAt w0 w.heap.size s) := by rw [hw0]; exact LAt.later (LAt.new 28 w (ccells s)) (below_alloc _ _)
  have V0 : Hid (VAt w0 (w.heap.size + 1) v) := by
    have := LAt.new 35 (w.alloc (.cells (ccells s).toArray 28)) (U8 v)
    rw [show (w.alloc (.cells (ccells s).toArray 28)).heap.size = w.heap.size + 1 by simp] at this
    rw [hw0]
    exact this
  have D0 : Hid (Dsk w0 S p n d ws) := h.later B0.out
  have L1 : Hid (_) := CAt.load23 C0.out
  have HT : Hid (Tab w) := ht
  have HV : Hid (v.length = 32 ∧ Bytes v) := ⟨hv, hvb⟩
  have HK : Hid (ws.length ≤ 100000) := hk
  clear hw0 h ht hv hvb hk
  go_enter Tryd.func35, Tryd.ntmps35
  go_wp2_with ((with_reducible refine at_ops ?_); (refine wpList_load_is (by rfl) 28 rfl rfl L1.out ?_); simp only [Act.put, List.setIfInBounds_toArray, List.set_cons_zero, List.set_cons_succ])
  clear ew
  refine (hrefB_any s b D0.out).mono ?_
  rintro e w1 ⟨rfl, b1⟩
  have B1 : Hid (Below w.heap.size w w1) := below_then B0.out b1
  have V1 : Hid (VAt w1 (w.heap.size + 1) v) := LAt.later V0.out b1
  have D1 : Hid (Dsk w1 S p n d ws) := D0.out.later b1
  have L2 : Hid (_) := VAt.load V1.out HV.out.1
  clear b1 B0 L1 C0 V0 D0 V1
  by_cases hr : rbS s n b = 0
  · obtain ⟨hb, h0, h1⟩ := rbS_in hr
    have HR : Hid (svW s n ws b v = ws ++ [⟨(1 + b).toNat, homeS b v⟩]) := svW_yes ws v hr
    have HRZ : Hid (rbS s n b = 0) := hr
    have hb0 := hb.1
    have hb1 := hb.2
    have H1 : Hid (1 + b < (n : Int)) := h1
    rw [hr]
    clear hr h0 h1
    go_wp2_with ((with_reducible refine at_ops ?_); (refine wpList_load_is (by rfl) 35 rfl rfl L2.out ?_); simp only [Act.put, List.setIfInBounds_toArray, List.set_cons_zero, List.set_cons_succ])
    refine (hencode_good b v hb HV.out.1 HV.out.2 w1 (HT.out.later B1.out)).mono ?_
    rintro e w2 ⟨g2, rfl, m2⟩
    have B2 : Hid (Below w.heap.size w w2) := below_then B1.out m2.below
    have D2 : Hid (Dsk w2 S p n d ws) := D1.out.later m2.below
    have X2 : Hid (BIn w2 (some ⟨g2, 0, none⟩) 64 (homeS b v)) := m2.read
    clear m2 B1 D1 L2 hb
    go_wp2_with fail
    refine (write_at D2.out (1 + b) (by omega) H1.out _ 64 _ X2.out HK.out).mono ?_
    rintro e w3 ⟨rfl, d3, k3⟩
    have F3 : Hid (Dsk w3 (More S w) p n d (ws ++ [⟨(1 + b).toNat, homeS b v⟩]) ∧ Kept S w w3) := by
      refine ⟨d3.mono (fun k _ hs => ?_), (Kept.of_below B2.out).trans k3 (fun _ _ t => t)⟩
      rcases hs with hs | hs
      · exact .inl hs
      · exact .inr (Nat.le_trans B2.out.size hs)
    clear d3 k3 D2 X2 B2
    go_wp2_with fail
    go_ret
    exact ⟨by rw [HRZ.out]; rfl, by rw [HR.out]; exact F3.out.1, F3.out.2⟩
  · have HR : Hid (svW s n ws b v = ws) := svW_no ws v hr
    have F1 : Hid (Dsk w1 (More S w) p n d ws ∧ Kept S w w1) := ⟨D1.out.mono (fun k _ hs => .inl hs), Kept.of_below B1.out⟩
    obtain ⟨q, hq0⟩ : ∃ q, q = rbS s n b := ⟨_, rfl⟩
    have HQ : Hid (q = rbS s n b) := hq0
    rw [← hq0] at hr ⊢
    have hq : (q != 0) = true := by simp [hr]
    clear L2 hq0
    go_wp2_with fail
    go_ret
    exact ⟨by rw [← HQ.out]; rfl, by rw [HR.out]; exact F1.out.1, F1.out.2⟩
end Go.Proofs.YtdadpepfpiimgaaDoor
namespace Go.Proofs.YtdadpepfpiimgaaDoor
open Go.RowKit
theorem zeros_one (z : Value) (k : Nat) : Builtin.zeroCells #[z] k = (List.replicate k z).toArray := by
  have h := toList_madeCells_one z k
  have e : Builtin.zeroCells #[z] k = madeCells #[z] k := by simp [Builtin.zeroCells, madeCells]
  rw [e, ← h]
section
variable {P : Program} (w : World)
theorem run_append_zeros_own (base : Nat) (t tn ty e : TypeId) (i : TypeInfo) (z : Value) (bytes : Nat) (kq kn : IntKind) (ht : P.underlying t = some (.slice e)) (htn : P.underlying tn = some (.int kn)) (hi : P.info? e = some i) (hz : i.zero = some z)
    (hsize : i.size = 1) (hby : i.bytes = bytes) (hzc : z.cells = #[z]) (hone : z.oneCell' = true) (g n cap : Nat) (xs : List Value) (hown : w.ownsRow base e 1 (.slice (some ⟨g, 0, none⟩) n cap) n xs) (k : Nat) (hk : 0 < k)
    (h63 : n + k ≤ maxLen) (hbytes : (n + k) * bytes ≤ 140737488355328) (hbase : base ≤ w.heap.size) :
    ∃ v' w', (Builtin.append_ #[t, tn] ty #[.slice (some ⟨g, 0, none⟩) n cap, .int kq k]).run P w = .ok v' w' ∧ w'.ownsRow base e 1 v' (n + k) (xs ++ List.replicate k z) ∧ w.grownBy w' (some g) := by
  have hsmall : n + k ≤ 9223372036854775807 := by simp only [maxLen] at h63; omega
  have hlen : (xs ++ List.replicate k z).length = (n + k) * 1 := by rw [List.length_append, hown.1, List.length_replicate]; omega
  have hkb : k * i.bytes ≤ 140737488355328 := by
    rw [hby]
    exact Nat.le_trans (Nat.mul_le_mul_right _ (by omega)) hbytes
  rcases hown.2 with ⟨h, _⟩ | ⟨g', cap', cur, h, hbg, hg, hnc, hcm, hcs, htake⟩
  · simp at h
  · simp only [Value.slice.injEq, Option.some.injEq, Addr.mk.injEq, and_true, true_and] at h
    obtain ⟨rfl, rfl⟩ := h
    by_cases hroom : n + k ≤ cap
    · have hst := run_storeCells_at P g n e (List.replicate k z) 0 cur w hg (by simp; omega) (by intro v hv; rw [List.eq_of_mem_replicate hv]; exact hone)
      simp only [Nat.add_zero] at hst
      have hw : IntKind.i64.wrap (k : Int) = k := by rw [IntKind.wrap_i64]; omega
      have hneg : ¬ ((k : Int) < 0) := by omega
      have h48i : ¬ (281474976710656 < (k : Int) * (i.bytes : Int)) := by
        rw [← Int.natCast_mul]
        omega
      have hk0 : k ≠ 0 := by omega
      have hr : (Builtin.append_ #[t, tn] ty #[.slice (some ⟨g, 0, none⟩) n cap, .int kq k]).run P w = .ok (.slice (some ⟨g, 0, none⟩) (n + k) cap) (w.setRow g (cur.toList.take n ++ List.replicate k z ++ cur.toList.drop (n + (List.replicate k z).length)).toArray) := by
        simp [Builtin.append_, run_underlying ht, run_underlying htn, sizeOf, typeInfo, zeroValue, hi, hz, hsize, asInt, asIntOf, hw, hneg, h48i, hroom, hk0, hzc, zeros_one, Addr.add_lit, hst]
      refine ⟨_, _, hr, ⟨hlen, .inr ⟨g, cap, _, rfl, hbg, setRow_heap w g cur _ e _ hg, hroom, hcm, ?_, ?_⟩⟩, ⟨rfl, rfl, rfl, by simp, fun k _ hk => setRow_other w g k _ (fun e => hk (by simp [e]))⟩⟩
      · simp only [List.size_toArray, List.length_append, List.length_take, List.length_drop, Array.length_toList, List.length_replicate]
        omega
      · rw [Nat.mul_one] at htake
        rw [htake, ← hlen]
        exact List.take_left
    · have holds : ∀ j u, xs[j]? = some u → w.drew.cell? ((⟨g, 0, none⟩ : Addr).add j) = some u := hown.cells (g := g) rfl
      have hf := run_firstCells_some (P := P) w.drew i.size n ⟨g, 0, none⟩ n cap xs (by rw [hsize]; exact hown.1) holds
      have hr := Lib.run_append_grow_zeros (P := P) w t tn ty e i z kq kn ht htn hi hz (some ⟨g, 0, none⟩) n cap xs hf k hk (by omega) (by omega) (by omega) (by omega) (growslice_fits (by omega) (by rw [hby]; exact hbytes))
      have hge := grownCap_ge w (n + k) cap e
      have hcm2 : grownCap w (n + k) cap e ≤ maxLen := grownCap_le_maxLen w (n + k) cap e h63
      refine ⟨_, _, hr, ⟨hlen, .inr ⟨w.heap.size, _, _, rfl, hbase, heap_alloc_new w.drew _, hge, hcm2, ?_, ?_⟩⟩, ⟨rfl, rfl, rfl, by simp, fun k hk _ => heap_alloc_old w.drew _ hk⟩⟩
      · have := hown.1
        simp only [Array.size_append, List.size_toArray, size_zeroCells, hzc]
        simp
        omega
      · simp only [Array.toList_append, hzc, zeros_one, List.append_assoc]
        rw [← List.append_assoc, ← hlen]
        exact List.take_left
theorem wpList_append_zeros_own {ops : Array Oper} {rest : List Oper} {o : Oper} {a : Act} {Q : Exit → Act → World → Prop} (hgd : o.guard = none) (s x : Operand) (t tn : TypeId)
    (ho : o.op = .call { callee := .builtin .append, args := #[s, x], argTypes := #[t, tn] }) (base : Nat) (e : TypeId) (i : TypeInfo) (z : Value) (bytes : Nat) (kq kn : IntKind) (ht : P.underlying t = some (.slice e)) (htn : P.underlying tn = some (.int kn)) (hi : P.info? e = some i) (hz : i.zero = some z)
    (hsize : i.size = 1) (hby : i.bytes = bytes) (hzc : z.cells = #[z]) (hone : z.oneCell' = true) (g n cap : Nat) (xs : List Value) (hs : a.eval s = .slice (some ⟨g, 0, none⟩) n cap) (hown : w.ownsRow base e 1 (.slice (some ⟨g, 0, none⟩) n cap) n xs) (k : Nat) (hx : a.eval x = .int kq k) (hk : 0 < k)
    (h63 : n + k ≤ maxLen) (hbytes : (n + k) * bytes ≤ 140737488355328) (hbase : base ≤ w.heap.size)
    (h : ∀ v' w', w'.ownsRow base e 1 v' (n + k) (xs ++ List.replicate k z) → w.grownBy w' (some g) → wpList P ops Q rest (a.put o.dst v') w') : wpList P ops Q (o :: rest) a w := by
  refine wpList_plain hgd fun K hK => ?_
  obtain ⟨v', w', hr, h1, h2⟩ := run_append_zeros_own (P := P) w base t tn o.type e i z bytes kq kn ht htn hi hz hsize hby hzc hone g n cap xs hown k hk h63 hbytes hbase
  unfold Oper.wp
  simp [execOp, ho, resolve, invoke, builtin, hs, hx, hr, Result.andThen]
  exact hK _ _ (h v' w' h1 h2)
end
end Go.Proofs.YtdadpepfpiimgaaDoor
