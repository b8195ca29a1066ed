/-
  Layer 9: plays, whatever the step; how a script lies; how the logs begin.
-/
import Derived.Test.YtmcpjokbkkfgfaaGreatDoorT31
import Derived.Test.YtmcpjokbkkfgfaaGreatDoorT34
import Derived.Test.YtmcpjokbkkfgfaaGreatDoorT35
import Derived.Test.YtmcpjokbkkfgfaaGreatDoorT36
import Derived.Test.YtmcpjokbkkfgfaaGreatDoorT37
import Derived.Test.YtmcpjokbkkfgfaaGreatDoorT17
import Derived.Deep.Slices
import Derived.Test.YtmcpjokbkkfgfaaGreatDoorT32
import Derived.Test.YtmcpjokbkkfgfaaGreatDoorT12
import Derived.Test.YtmcpjokbkkfgfaaGreatDoorT28
import Derived.Test.YtmcpjokbkkfgfaaGreatDoorT20
namespace Go.Proofs.YtmcpjokbkkfgfaaGreatDoor
open Go.RowKit


theorem BIn.kept0 {w w' : World} {S : Nat → Prop} {p : Option Addr} {n : Nat} {xs : List Int} (h : BIn w p n xs) (hk : Kept S w w') (hs : ∀ a, p = some a → 0 < n → ¬ S a.block) : BIn w' p n xs := by
  by_cases h0 : 0 < n
  · exact h.kept hk (fun a ea => hs a ea h0)
  · exact ⟨h.len, h.byte, fun c => absurd c h0⟩
/-- a step -/
structure OpV where
  kd : Int
  wh : Int
  b : Int
  v : List Int
  pos : Int
  pk : Option Addr
  lk : Nat
  ck : Nat
  ys : List Int
  pd : Option Addr
  ld : Nat
  cd : Nat
  xs : List Int
def OpV.val (o : OpV) : List Value := ocells o.kd o.wh o.b o.v o.pos (.slice o.pk o.lk o.ck) (.slice o.pd o.ld o.cd)
/-- a step whose lists lie below B -/
structure OpIn (w : World) (B : Nat) (o : OpV) : Prop where
  vl : o.v.length = 32
  vb : Bytes o.v
  p0 : 0 ≤ o.pos
  keep : JIn w o.pk o.lk o.ys
  kB : ∀ a, o.pk = some a → 0 < o.lk → a.block < B
  kb : o.lk ≤ 140737488355328
  dat : BIn w o.pd o.ld o.xs
  dB : ∀ a, o.pd = some a → 0 < o.ld → a.block < B
  dn : o.pd = none → o.ld = 0 ∧ o.cd = 0
  db : o.ld + 64 ≤ 140737488355328
theorem OpIn.below {w w' : World} {B : Nat} {o : OpV} (h : OpIn w B o) (hb : Below B w w') : OpIn w' B o := by
  have hk : Kept (fun k => B ≤ k) w w' := ⟨hb.os, hb.tape, hb.output, hb.size, fun k _ hk => hb.block k (by omega)⟩
  exact ⟨h.vl, h.vb, h.p0, h.keep.kept0 hk (fun a ea h0 => by have := h.kB a ea h0; omega), h.kB, h.kb, h.dat.kept0 hk (fun a ea h0 => by have := h.dB a ea h0; omega), h.dB, h.dn, h.db⟩
theorem plays_any {w : World} {B P k : Nat} (h : Sq w B P 2 k) (hk : k ≤ 100) (o : OpV) (ho : OpIn w B o) :
    Calls Tryz.prog 9 #[.pointer (some ⟨P, 0, none⟩), .agg o.val.toArray] w fun r w' => r = .returned (.bool true) ∧ Sq w' B P 2 (k + 1) ∧ Below B w w' := by
  obtain ⟨kd, wh, b, v, pos, pk, lk, ck, ys, pd, ld, cd, xs⟩ := o
  show Calls Tryz.prog 9 #[.pointer (some ⟨P, 0, none⟩), .agg (ocells kd wh b v pos (.slice pk lk ck) (.slice pd ld cd)).toArray] w _
  by_cases k1 : kd = 1
  · rw [k1]; exact plays_img h hk wh b v ho.vl ho.vb pos _ _
  by_cases k2 : kd = 2
  · rw [k2]; exact plays_com h hk wh b v ho.vl ho.vb pos _ _
  by_cases k3 : kd = 3
  · rw [k3]; exact plays_flu h hk wh b v ho.vl ho.vb pos _ _
  by_cases k4 : kd = 4
  · rw [k4]; exact plays_mrk h hk wh b v ho.vl ho.vb pos _ _
  by_cases k5 : kd = 5
  · rw [k5]; exact plays_fre h hk wh b v ho.vl ho.vb pos _ _
  by_cases k6 : kd = 6
  · rw [k6]; exact plays_read h hk wh b v ho.vl pos ho.p0 _ _
  by_cases k7 : kd = 7
  · rw [k7]; exact plays_all h hk wh b v pos _ _
  by_cases k8 : kd = 8
  · rw [k8]
    by_cases hs : sl2 wh = 0
    · exact plays_over0 h hk (by omega) wh b v pos _ _ hs
    · exact plays_over1 h hk (by omega) wh b v pos _ _ (by have := sl2_lt wh; omega)
  by_cases k9 : kd = 9
  · rw [k9]; exact plays_none h hk wh b v ho.vl ho.vb pos _ _
  by_cases k10 : kd = 10
  · rw [k10]; exact plays_crash h hk wh b v ho.vl ho.vb pos pk lk ck ys ho.keep ho.kB ho.kb _
  by_cases k11 : kd = 11
  · rw [k11]; exact plays_write h hk wh b v ho.vl ho.vb pos pd ld cd xs ho.dat ho.dn ho.db _
  exact plays_other h hk wh b v ho.vl ho.vb pos _ _ kd (by omega)
/-- how a script lies: l steps of 38 cells -/
structure ScIn (w : World) (B : Nat) (p : Option Addr) (l : Nat) (os : List OpV) : Prop where
  len : os.length = l
  cells : 0 < l → ∃ b o, p = some ⟨b, o, none⟩ ∧ b < B ∧ ∀ i (h : i < os.length), w.rangeAt b (o + i * 38) os[i].val
  each : ∀ i (h : i < os.length), OpIn w B os[i]
theorem ScIn.below {w w' : World} {B l : Nat} {p : Option Addr} {os : List OpV} (h : ScIn w B p l os) (hb : Below B w w') : ScIn w' B p l os := by
  refine ⟨h.len, fun h0 => ?_, fun i hi => (h.each i hi).below hb⟩
  obtain ⟨b, o, e, hB, hc⟩ := h.cells h0
  exact ⟨b, o, e, hB, fun i hi => rangeAt_same (hc i hi) (hb.block b hB)⟩
theorem val_len {w : World} {B : Nat} {o : OpV} (h : OpIn w B o) : o.val.length = 38 := ocells_len _ _ _ h.vl _ _ _
theorem loadOp {w : World} {b o : Nat} {x : OpV} {B : Nat} (h : w.rangeAt b o x.val) (hx : OpIn w B x) : (Instr.loadAt 53 (.pointer (some ⟨b, o, none⟩))).run Tryz.prog w = .ok (.agg x.val.toArray) w :=
  run_loadAt_mid w b o 53 x.val _ h Tryz.underlying53 rfl (by rw [sizeOp, val_len hx])
/-- what the walk builds -/
theorem build8 (w : World) : (Instr.build 53 #[(0, .int .i64 8)]).run Tryz.prog w = .ok (.agg (ocells 8 0 0 (R.zs 32) 0 (.slice none 0 0) (.slice none 0 0)).toArray) w := run_build w 53 _ _ (by kernel_rfl)
theorem build7 (w : World) : (Instr.build 53 #[(0, .int .i64 7), (2, .int .i64 99)]).run Tryz.prog w = .ok (.agg (ocells 7 0 99 (R.zs 32) 0 (.slice none 0 0) (.slice none 0 0)).toArray) w := run_build w 53 _ _ (by kernel_rfl)
theorem build71 (w : World) : (Instr.build 53 #[(0, .int .i64 7), (1, .int .i64 1), (2, .int .i64 99)]).run Tryz.prog w = .ok (.agg (ocells 7 1 99 (R.zs 32) 0 (.slice none 0 0) (.slice none 0 0)).toArray) w := run_build w 53 _ _ (by kernel_rfl)
def pcells (L p K : Nat) : List Value := [.pointer (some ⟨L, 0, none⟩), .pointer none, .pointer (some ⟨p, 0, none⟩), .pointer none, .pointer (some ⟨K, 0, none⟩), .pointer none]
theorem buildPL (w : World) (L : Nat) : (Instr.build 42 #[(0, .pointer (some ⟨L, 0, none⟩)), (1, .pointer none)]).run Tryz.prog w = .ok (.agg #[.pointer (some ⟨L, 0, none⟩), .pointer none]) w := run_build w 42 _ _ (by kernel_rfl)
theorem buildPD (w : World) (L : Nat) : (Instr.build 43 #[(0, .pointer (some ⟨L, 0, none⟩)), (1, .pointer none)]).run Tryz.prog w = .ok (.agg #[.pointer (some ⟨L, 0, none⟩), .pointer none]) w := run_build w 43 _ _ (by kernel_rfl)
theorem buildPR (w : World) (L : Nat) : (Instr.build 44 #[(0, .pointer (some ⟨L, 0, none⟩)), (1, .pointer none)]).run Tryz.prog w = .ok (.agg #[.pointer (some ⟨L, 0, none⟩), .pointer none]) w := run_build w 44 _ _ (by kernel_rfl)
theorem buildPW (w : World) (L p K : Nat) : (Instr.build 46 #[(0, .agg #[.pointer (some ⟨L, 0, none⟩), .pointer none]), (1, .agg #[.pointer (some ⟨p, 0, none⟩), .pointer none]), (2, .agg #[.pointer (some ⟨K, 0, none⟩), .pointer none])]).run Tryz.prog w = .ok (.agg (pcells L p K).toArray) w := run_build w 46 _ _ (by kernel_rfl)
/-- the roles at the beginning -/
def R0 (a0 a2 a3 a4 a5 : Nat) : Nat → Nat := fun k => if k < a0 then 0 else if k < a2 then 1 else if k < a3 then 3 else if k < a4 then 1 else if k < a5 then 3 else if k = a5 then 5 else 0
theorem Sq.start {wA w2 w3 w4 w5 : World} {B p q L K : Nat} {d : List Int} {g : Lg} {b : Int} (hB : B ≤ wA.heap.size) (h1 : 1 < B) (ht : Tab wA) (b2 : Below wA.heap.size wA w2) (b3 : Below w2.heap.size w2 w3) (b4 : Below w3.heap.size w3 w4) (b5 : Below w4.heap.size w4 w5)
    (l4 : LD w4 (More (fun k => wA.heap.size ≤ k ∧ k < w2.heap.size) w3) L p d [] g) (r5 : RL w5 (More (fun k => w2.heap.size ≤ k ∧ k < w3.heap.size) w4) K q d [] g b) :
    Sq (w5.alloc (.cells (pcells L p K).toArray 46)) B w5.heap.size 1 0 ∧ Below wA.heap.size wA (w5.alloc (.cells (pcells L p K).toArray 46)) := by
  have s2 := b2.size
  have s3 := b3.size
  have s4 := b4.size
  have s5 := b5.size
  have b6 := below_alloc w5 (.cells (pcells L p K).toArray 46)
  have hP : LAt 46 (w5.alloc (.cells (pcells L p K).toArray 46)) w5.heap.size (pcells L p K) := LAt.new 46 w5 _
  have sz : (w5.alloc (.cells (pcells L p K).toArray 46)).heap.size = w5.heap.size + 1 := by simp
  revert b6 hP sz
  generalize w5.alloc (.cells (pcells L p K).toArray 46) = w6
  intro b6 hP sz
  have bA : Below wA.heap.size wA w6 := below_then (below_then (below_then (below_then b2 b3) b4) b5) b6
  have ls : LS w6 (fun k => R0 wA.heap.size w2.heap.size w3.heap.size w4.heap.size w5.heap.size k = 1 + 0) L p ⟨d, [], g⟩ := by
    refine LD.later (l4.mono (fun k hk hs => ?_)) (below_then b5 b6)
    unfold R0
    rcases hs with hs | hs
    · rw [if_neg (by omega), if_pos hs.2]
    · rw [if_neg (by omega), if_neg (by omega), if_neg (by omega), if_pos hk]
  have rs : RS w6 (fun k => R0 wA.heap.size w2.heap.size w3.heap.size w4.heap.size w5.heap.size k = 3 + 0) K q ⟨d, [], g⟩ b := by
    refine RL.later (r5.mono (fun k hk hs => ?_)) b6
    unfold R0
    rcases hs with hs | hs
    · rw [if_neg (by omega), if_neg (by omega), if_pos hs.2]
    · rw [if_neg (by omega), if_neg (by omega), if_neg (by omega), if_neg (by omega), if_pos hk]
  refine ⟨⟨⟨R0 wA.heap.size w2.heap.size w3.heap.size w4.heap.size w5.heap.size, fun _ => L, fun _ => p, fun _ => K, fun _ => q, fun _ => ⟨d, [], g⟩, fun _ => b, ⟨⟨_, hP, rfl⟩, ?_, fun i hi => ?_, fun i hi => ?_, fun i hi => ?_, fun i hi => ?_, fun i hi => ?_, fun k hk => ?_, fun k hk => ?_, by omega⟩, fun i hi => Nat.zero_le _, by omega⟩, ht.later bA, h1⟩, bA⟩
  · unfold R0; rw [if_neg (by omega), if_neg (by omega), if_neg (by omega), if_neg (by omega), if_neg (by omega), if_pos rfl]
  · obtain rfl : i = 0 := by omega
    exact LAt.cell hP 0
  · obtain rfl : i = 0 := by omega
    exact LAt.cell hP 2
  · obtain rfl : i = 0 := by omega
    exact LAt.cell hP 4
  · obtain rfl : i = 0 := by omega
    exact ls
  · obtain rfl : i = 0 := by omega
    exact rs
  · unfold R0; rw [if_neg (by omega), if_neg (by omega), if_neg (by omega), if_neg (by omega), if_neg (by omega), if_neg (by omega)]
  · unfold R0; rw [if_pos (by omega)]
end Go.Proofs.YtmcpjokbkkfgfaaGreatDoor

/-
  How what came in is opened.
-/
namespace Go.Proofs.YtmcpjokbkkfgfaaGreatDoor
open Go.ChangeShapes Go.WideShapes Go.ChangeAt Go.RowKit Go.Deep

theorem laidK : laidOutB Tryz.prog = true := by kernel_rfl
theorem bytes5 : Tryz.prog.bytesOf 5 = 1 := by kernel_rfl
theorem opened {H : Type} {enc : TypeId × Value → H} {W : World} {a : Option Addr} {len cap : Nat} {d : DataW H} {p : List MemPlace} (h : DataW.Trod enc Tryz.prog W 0 (fun _ => true) true 51 (.slice a len cap) d p) :
    ∃ xs, BIn W a len xs ∧ len ≤ cap ∧ (a = none → cap = 0) ∧ (cap = 0 ∨ ∃ elems spare, d = .slice elems spare ∧ elems.length + spare.length = cap) := by
  obtain ⟨fuel, hf⟩ := h
  rcases open_ints Tryz.underlying51 Tryz.underlying5 (by kernel_rfl) hf with ⟨hcs, _⟩ | ⟨x, l, c, zs, hcs, _, hl, hm, hz, hx, hcell, hwz⟩
  · simp [Value.cells] at hcs
    obtain ⟨rfl, rfl, rfl⟩ := hcs
    exact ⟨[], BIn.empty, Nat.le_refl _, fun _ => rfl, .inl rfl⟩
  · simp [Value.cells] at hcs
    obtain ⟨rfl, rfl, rfl⟩ := hcs
    have hz' : zs.length = cap := by simpa using hz
    simp only [Prod.mk.injEq] at hx
    refine ⟨zs.take len, ⟨by rw [List.length_take]; omega, fun n hn => ?_, fun h0 => ?_⟩, hl, (fun e => by cases e), .inr ⟨_, _, hx.1, by simp [lits]; omega⟩⟩
    · have := bounds_u8 (hwz n (List.mem_of_mem_take hn))
      omega
    · obtain ⟨b, o, s⟩ := x
      obtain rfl : s = none := by simpa [Addr.add] using World.cell?_spot (hcell 0 (by omega))
      refine ⟨b, o, rfl, fun i hi => ?_⟩
      have := hcell i (by omega)
      rw [add_plain] at this
      rw [this]
      simp [List.getD, hi]
theorem cells5 : Tryz.prog.cellsOf 5 = 1 := by kernel_rfl
theorem cellsV : Tryz.prog.cellsOf 49 = 32 := by kernel_rfl
theorem cellsC : Tryz.prog.cellsOf 23 = 5 := by kernel_rfl
def numOf : Value → Int | .int _ n => n | _ => 0
theorem openedV {H : Type} {enc : TypeId × Value → H} {W : World} {cs : List Value} {n : Nat} {y : DataW H × List MemPlace} (h : DataW.trod enc Tryz.prog W 0 (fun _ => true) true n 49 cs = some y) :
    ∃ xs, cs = U8 xs ∧ xs.length = 32 ∧ Bytes xs := by
  obtain ⟨ys, m, _, _, hl, hyl, hf⟩ := DataW.trod_array Tryz.underlying49 h
  rw [cellsV] at hl
  have hg : ∀ i, i < 32 → ∃ x, cs[i]? = some (.int .u8 x) ∧ 0 ≤ x ∧ x ≤ 255 := by
    intro i hi
    have g := hf i hi
    rw [cells5, Nat.mul_one, List.getElem?_eq_getElem (by omega)] at g
    obtain ⟨x, e, _, hw⟩ := DataW.trod_int Tryz.underlying5 g
    exact ⟨x, drop_one _ _ _ e, bounds_u8 hw⟩
  refine ⟨cs.map numOf, ?_, by simp [hl], ?_⟩
  · apply List.ext_getElem?
    intro i
    by_cases hi : i < 32
    · obtain ⟨x, e, _⟩ := hg i hi
      simp [e, numOf]
    · rw [List.getElem?_eq_none (by omega), List.getElem?_eq_none (by simp; omega)]
  · intro x hx
    obtain ⟨v, hv, rfl⟩ := List.mem_map.1 hx
    obtain ⟨i, hi, rfl⟩ := List.getElem_of_mem hv
    obtain ⟨x, e, h0, h1⟩ := hg i (by omega)
    rw [List.getElem?_eq_getElem hi] at e
    have := Option.some.inj e
    rw [this]
    simp only [numOf]
    omega
theorem openedC {H : Type} {enc : TypeId × Value → H} {W : World} {l : List Value} {n : Nat} {y : DataW H × List MemPlace} (h : DataW.trod enc Tryz.prog W 0 (fun _ => true) true n 23 l = some y) :
    ∃ a0 a1 a2 a3 a4 : Int, l[0]? = some (.int .i64 a0) ∧ l[1]? = some (.int .i64 a1) ∧ l[2]? = some (.int .i64 a2) ∧ l[3]? = some (.int .i64 a3) ∧ l[4]? = some (.int .i64 a4) ∧ True := by
  obtain ⟨xs, k, _, hy, _, hxl, hg⟩ := DataW.trod_struct Tryz.underlying23 h
  have hxl5 : xs.length = 5 := hxl
  have g0 : DataW.trod enc Tryz.prog W 0 (fun _ => true) true k 3 ((l.drop 0).take (Tryz.prog.cellsOf 3)) = xs[0]? := hg 0 _ rfl
  have g1 : DataW.trod enc Tryz.prog W 0 (fun _ => true) true k 3 ((l.drop 1).take (Tryz.prog.cellsOf 3)) = xs[1]? := hg 1 _ rfl
  have g2 : DataW.trod enc Tryz.prog W 0 (fun _ => true) true k 3 ((l.drop 2).take (Tryz.prog.cellsOf 3)) = xs[2]? := hg 2 _ rfl
  have g3 : DataW.trod enc Tryz.prog W 0 (fun _ => true) true k 3 ((l.drop 3).take (Tryz.prog.cellsOf 3)) = xs[3]? := hg 3 _ rfl
  have g4 : DataW.trod enc Tryz.prog W 0 (fun _ => true) true k 3 ((l.drop 4).take (Tryz.prog.cellsOf 3)) = xs[4]? := hg 4 _ rfl
  rw [cells3, List.getElem?_eq_getElem (by omega)] at g0 g1 g2 g3 g4
  obtain ⟨a0, e0, _, _⟩ := DataW.trod_int Tryz.underlying3 g0
  obtain ⟨a1, e1, _, _⟩ := DataW.trod_int Tryz.underlying3 g1
  obtain ⟨a2, e2, _, _⟩ := DataW.trod_int Tryz.underlying3 g2
  obtain ⟨a3, e3, _, _⟩ := DataW.trod_int Tryz.underlying3 g3
  obtain ⟨a4, e4, _, _⟩ := DataW.trod_int Tryz.underlying3 g4
  exact ⟨a0, a1, a2, a3, a4, drop_one _ _ _ e0, drop_one _ _ _ e1, drop_one _ _ _ e2, drop_one _ _ _ e3, drop_one _ _ _ e4, trivial⟩
theorem openedCfg {H : Type} {enc : TypeId × Value → H} {W : World} {cs : Array Value} {d : DataW H} {p : List MemPlace} (hn : cs.size = 5) (h : DataW.Trod enc Tryz.prog W 0 (fun _ => true) true 23 (.agg cs) d p) :
    ∃ s : Sup, cs = (ccells s).toArray := by
  obtain ⟨fuel, hf⟩ := h
  obtain ⟨l⟩ := cs
  have hl : l.length = 5 := by simpa using hn
  have hf' : DataW.trod enc Tryz.prog W 0 (fun _ => true) true fuel 23 l = some (d, p) := by simpa [Value.cells] using hf
  obtain ⟨a0, a1, a2, a3, a4, f0, f1, f2, f3, f4, -⟩ := openedC hf'
  refine ⟨⟨a0, a1, a2, a3, a4, 0, 0⟩, ?_⟩
  congr 1
  apply List.ext_getElem?
  intro i
  match i with
  | 0 => exact f0
  | 1 => exact f1
  | 2 => exact f2
  | 3 => exact f3
  | 4 => exact f4
  | j + 5 => rw [List.getElem?_eq_none (by omega), List.getElem?_eq_none (by rw [ccells_len]; omega)]
theorem cells71 : Tryz.prog.cellsOf 50 = 1 := by kernel_rfl
theorem bytes3 : Tryz.prog.bytesOf 3 = 8 := by kernel_rfl
theorem openedI {H : Type} {enc : TypeId × Value → H} {W : World} {a : Option Addr} {len cap : Nat} {d : DataW H} {p : List MemPlace} (h : DataW.Trod enc Tryz.prog W 0 (fun _ => true) true 50 (.slice a len cap) d p) :
    ∃ ss, JIn W a len ss ∧ len ≤ cap ∧ (a = none → cap = 0) ∧ (cap = 0 ∨ ∃ elems spare, d = .slice elems spare ∧ elems.length + spare.length = cap) := by
  obtain ⟨fuel, hf⟩ := h
  rcases open_ints Tryz.underlying50 Tryz.underlying3 (by kernel_rfl) hf with ⟨hcs, _⟩ | ⟨x, l, c, zs, hcs, _, hl, hm, hz, hx, hcell, hwz⟩
  · simp [Value.cells] at hcs
    obtain ⟨rfl, rfl, rfl⟩ := hcs
    exact ⟨[], ⟨rfl, fun h => absurd h (Nat.lt_irrefl 0)⟩, Nat.le_refl _, fun _ => rfl, .inl rfl⟩
  · simp [Value.cells] at hcs
    obtain ⟨rfl, rfl, rfl⟩ := hcs
    have hz' : zs.length = cap := by simpa using hz
    simp only [Prod.mk.injEq] at hx
    refine ⟨zs.take len, ⟨by rw [List.length_take]; omega, fun h0 => ?_⟩, hl, (fun e => by cases e), .inr ⟨_, _, hx.1, by simp [lits]; omega⟩⟩
    obtain ⟨b, o, s⟩ := x
    obtain rfl : s = none := by simpa [Addr.add] using World.cell?_spot (hcell 0 (by omega))
    refine ⟨b, o, rfl, fun i hi => ?_⟩
    have hil : i < len := hi
    have hiz : i < zs.length := by omega
    have := hcell i (by omega)
    rw [add_plain] at this
    rw [this]
    simp [List.getD, hiz, hil]
theorem slice_of {H : Type} {enc : TypeId × Value → H} {W : World} {t e : TypeId} {k : Nat} {c : Value} {y : DataW H × List MemPlace} (ht : Tryz.prog.underlying t = some (.slice e)) (h : DataW.trod enc Tryz.prog W 0 (fun _ => true) true k t [c] = some y) :
    ∃ a l cp, c = .slice a l cp := by
  rcases open_slice ht h with ⟨h0, _⟩ | ⟨a, len, cap, _, _, _, _, h0, _⟩
  · simp only [List.cons.injEq, and_true] at h0
    exact ⟨_, _, _, h0⟩
  · simp only [List.cons.injEq, and_true] at h0
    exact ⟨_, _, _, h0⟩
theorem weightsAll_mem {H : Type} {P : Program} {e : TypeId} : ∀ {l : List (DataW H)} {d : DataW H}, d ∈ l → ∀ n ∈ d.weights P e, n ∈ DataW.weightsAll P e l
  | x :: r, d, hd, n, hn => by
    simp only [DataW.weightsAll, List.mem_append]
    rcases List.mem_cons.1 hd with rfl | hd
    · exact .inl hn
    · exact .inr (weightsAll_mem hd n hn)
  | [], _, hd, _, _ => by cases hd
theorem cut_at {α : Type} (l : List α) (a n b : Nat) (h : a + n = b) : l.drop a = (l.drop a).take n ++ l.drop b := by
  subst h
  rw [← List.drop_drop, List.take_append_drop]
theorem one_at {α : Type} (l : List α) (k : Nat) (h : k < l.length) : (l.drop k).take 1 = [l[k]] := by
  rw [List.drop_eq_getElem_cons h, List.take_succ_cons, List.take_zero]
theorem cellsB : Tryz.prog.cellsOf 51 = 1 := by kernel_rfl
theorem cellsOp : Tryz.prog.cellsOf 53 = 38 := by kernel_rfl
theorem cellsU : Tryz.prog.cellsOf 24 = 1 := by kernel_rfl
theorem cellsT : Tryz.prog.cellsOf 25 = 2 := by kernel_rfl
/-- [2]uint64 -/
theorem openedT {H : Type} {enc : TypeId × Value → H} {W : World} {cs : Array Value} {d : DataW H} {p : List MemPlace} (hn : cs.size = 2) (h : DataW.Trod enc Tryz.prog W 0 (fun _ => true) true 25 (.agg cs) d p) :
    ∃ t l : Int, cs = #[.int .u64 t, .int .u64 l] ∧ 0 ≤ t ∧ 0 ≤ l := by
  obtain ⟨fuel, hf⟩ := h
  obtain ⟨l⟩ := cs
  have hl : l.length = 2 := by simpa using hn
  have hf' : DataW.trod enc Tryz.prog W 0 (fun _ => true) true fuel 25 l = some (d, p) := by simpa [Value.cells] using hf
  obtain ⟨ys, m, _, _, _, hyl, hg⟩ := DataW.trod_array Tryz.underlying25 hf'
  have hx : ∀ i, i < 2 → ∃ x, l[i]? = some (.int .u64 x) ∧ 0 ≤ x := by
    intro i hi
    have g := hg i hi
    rw [cellsU, Nat.mul_one, List.getElem?_eq_getElem (by omega)] at g
    obtain ⟨x, e, _, hw⟩ := DataW.trod_int Tryz.underlying24 g
    exact ⟨x, drop_one _ _ _ e, (bounds_u64 hw).1⟩
  obtain ⟨t, et, h0⟩ := hx 0 (by omega)
  obtain ⟨u, eu, h1⟩ := hx 1 (by omega)
  refine ⟨t, u, ?_, h0, h1⟩
  congr 1
  apply List.ext_getElem?
  intro i
  match i with
  | 0 => exact et
  | 1 => exact eu
  | j + 2 => rw [List.getElem?_eq_none (by omega)]; rfl
set_option maxRecDepth 100000 in
theorem okT {W : World} {r : Reach} {b0 : Nat} {v : Value} (h : Value.okWide Tryz.prog W r b0 25 v) : ∃ cs : Array Value, v = .agg cs ∧ cs.size = 2 := by
  simp only [Value.okWide, Tryz.underlying25] at h
  obtain ⟨cs, h1, h2, _⟩ := h
  exact ⟨cs, h1, by rw [h2, cellsT]⟩
set_option maxRecDepth 100000 in
theorem one_op {H : Type} {enc : TypeId × Value → H} {W : World} {a : Addr} {cs : List Value} {n : Nat} {y : DataW H × List MemPlace}
    (hc : W.cells? 0 a 38 = some cs) (hd : DataW.trod enc Tryz.prog W 0 (fun _ => true) true n 53 cs = some y) (hw : ∀ k ∈ y.1.weights Tryz.prog 53, k ≤ reachBytes) :
    ∃ o : OpV, (∀ (j : Nat) v, o.val[j]? = some v → W.cell? (a.add j) = some v) ∧ OpIn W W.heap.size o := by
  obtain ⟨xs, k, _, hy, hl, hxl, hf⟩ := DataW.trod_struct Tryz.underlying53 hd
  rw [cellsOp] at hl
  have hs := World.cells?_some hc
  have hxl7 : xs.length = 7 := hxl
  match xs, hxl7 with
  | [y0, y1, y2, y3, y4, y5, y6], _ =>
    have g0 : DataW.trod enc Tryz.prog W 0 (fun _ => true) true k 3 ((cs.drop 0).take (Tryz.prog.cellsOf 3)) = some y0 := hf 0 _ rfl
    have g1 : DataW.trod enc Tryz.prog W 0 (fun _ => true) true k 3 ((cs.drop 1).take (Tryz.prog.cellsOf 3)) = some y1 := hf 1 _ rfl
    have g2 : DataW.trod enc Tryz.prog W 0 (fun _ => true) true k 3 ((cs.drop 2).take (Tryz.prog.cellsOf 3)) = some y2 := hf 2 _ rfl
    have g3 : DataW.trod enc Tryz.prog W 0 (fun _ => true) true k 49 ((cs.drop 3).take (Tryz.prog.cellsOf 49)) = some y3 := hf 3 _ rfl
    have g4 : DataW.trod enc Tryz.prog W 0 (fun _ => true) true k 24 ((cs.drop 35).take (Tryz.prog.cellsOf 24)) = some y4 := hf 4 _ rfl
    have g5 : DataW.trod enc Tryz.prog W 0 (fun _ => true) true k 50 ((cs.drop 36).take (Tryz.prog.cellsOf 50)) = some y5 := hf 5 _ rfl
    have g6 : DataW.trod enc Tryz.prog W 0 (fun _ => true) true k 51 ((cs.drop 37).take (Tryz.prog.cellsOf 51)) = some y6 := hf 6 _ rfl
    rw [cells3] at g0 g1 g2
    rw [cellsV] at g3
    rw [cellsU] at g4
    rw [cells71, one_at cs 36 (by omega)] at g5
    rw [cellsB, one_at cs 37 (by omega)] at g6
    obtain ⟨kd, e0, _, _⟩ := DataW.trod_int Tryz.underlying3 g0
    obtain ⟨wh, e1, _, _⟩ := DataW.trod_int Tryz.underlying3 g1
    obtain ⟨b, e2, _, _⟩ := DataW.trod_int Tryz.underlying3 g2
    obtain ⟨v, e3, hv, hvb⟩ := openedV g3
    obtain ⟨pos, e4, _, wp⟩ := DataW.trod_int Tryz.underlying24 g4
    obtain ⟨pk, lk, ck, e5⟩ := slice_of Tryz.underlying50 g5
    obtain ⟨pd, ld, cd, e6⟩ := slice_of Tryz.underlying51 g6
    rw [e5] at g5
    rw [e6] at g6
    obtain ⟨is, hi, hlk, hkn, hkw⟩ := openedI (d := y5.1) (p := y5.2) ⟨k, g5⟩
    obtain ⟨bs, hb, hlc, hpn, hdw⟩ := opened (d := y6.1) (p := y6.2) ⟨k, g6⟩
    simp only [List.map_cons, List.map_nil] at hy
    subst hy
    have w5 : ck * 8 ≤ reachBytes := by
      rcases hkw with rfl | ⟨el, sp, e, rfl⟩
      · exact Nat.zero_le _
      · have := hw ((el.length + sp.length) * Tryz.prog.bytesOf 3) (by
          simp only [DataW.weights, Tryz.underlying53]
          refine DataW.weights_mem_each (j := 5) (t := 50) rfl rfl _ ?_
          rw [e]
          simp [DataW.weights, Tryz.underlying50])
        rw [bytes3] at this
        exact this
    have w6 : cd * 1 ≤ reachBytes := by
      rcases hdw with rfl | ⟨el, sp, e, rfl⟩
      · exact Nat.zero_le _
      · have := hw ((el.length + sp.length) * Tryz.prog.bytesOf 5) (by
          simp only [DataW.weights, Tryz.underlying53]
          refine DataW.weights_mem_each (j := 6) (t := 51) rfl rfl _ ?_
          rw [e]
          simp [DataW.weights, Tryz.underlying51])
        rw [bytes5] at this
        exact this
    simp only [reachBytes] at w5 w6
    have ecs : cs = ocells kd wh b v pos (.slice pk lk ck) (.slice pd ld cd) := by
      have q37 : cs.drop 37 = [.slice pd ld cd] := by rw [← e6, ← one_at cs 37 (by omega), List.take_of_length_le (by simp; omega)]
      have q36 := cut_at cs 36 1 37 rfl
      have q35 := cut_at cs 35 1 36 rfl
      have q3 := cut_at cs 3 32 35 rfl
      have q2 := cut_at cs 2 1 3 rfl
      have q1 := cut_at cs 1 1 2 rfl
      have q0 := cut_at cs 0 1 1 rfl
      rw [one_at cs 36 (by omega), e5, q37] at q36
      rw [e4, q36] at q35
      rw [e3, q35] at q3
      rw [e2, q3] at q2
      rw [e1, q2] at q1
      rw [e0, q1] at q0
      rw [List.drop_zero] at q0
      rw [q0]
      rfl
    refine ⟨⟨kd, wh, b, v, pos, pk, lk, ck, is, pd, ld, cd, bs⟩, fun j u hu => ?_, hv, hvb, (bounds_u64 wp).1, hi, fun a ea h0 => by have ea' : pk = some a := ea; subst ea'; exact hi.lt h0, by show lk ≤ _; omega, hb, fun a ea h0 => by have ea' : pd = some a := ea; subst ea'; exact hb.lt h0, fun e => by have e' : pd = none := e; have := hpn e'; show ld = 0 ∧ cd = 0; omega, by show ld + 64 ≤ _; omega⟩
    have hu' : cs[j]? = some u := by rw [ecs]; exact hu
    have hj : j < 38 := by have := (List.getElem?_eq_some_iff.1 hu').1; omega
    rw [hs.2.2 j hj]
    exact hu'
theorem openedS {H : Type} {enc : TypeId × Value → H} {W : World} {a : Option Addr} {len cap : Nat} {d : DataW H} {p : List MemPlace} (h : DataW.Trod enc Tryz.prog W 0 (fun _ => true) true 26 (.slice a len cap) d p) (hw : ∀ k ∈ d.weights Tryz.prog 26, k ≤ reachBytes) :
    ∃ os, ScIn W W.heap.size a len os ∧ len ≤ maxLen := by
  obtain ⟨fuel, hf⟩ := h
  rcases open_slice Tryz.underlying26 hf with ⟨hcs, _⟩ | ⟨x, l, c, m, n, D, Pl, hcs, _, hl, hm, hmm, hx, hcell⟩
  · simp [Value.cells] at hcs
    obtain ⟨rfl, rfl, rfl⟩ := hcs
    exact ⟨[], ⟨rfl, fun h => absurd h (Nat.lt_irrefl 0), fun i h => absurd h (Nat.not_lt_zero _)⟩, Nat.zero_le _⟩
  · simp [Value.cells] at hcs
    obtain ⟨rfl, rfl, rfl⟩ := hcs
    rw [cellsOp] at hcell
    simp only [Prod.mk.injEq] at hx
    have hlm : len ≤ m := by rw [hmm]; simpa using hl
    have each : ∀ i, i < len → ∃ o : OpV, (∀ (j : Nat) v, o.val[j]? = some v → W.cell? ((x.add (i * 38)).add j) = some v) ∧ OpIn W W.heap.size o := by
      intro i hi
      obtain ⟨cs', h1, h2⟩ := hcell i (by omega)
      refine one_op h1 h2 (fun k hk => hw k ?_)
      rw [hx.1]
      simp only [DataW.weights, Tryz.underlying26, List.mem_cons, List.mem_append]
      exact .inr (.inl (weightsAll_mem (List.mem_map.2 ⟨i, List.mem_range.2 hi, rfl⟩) k hk))
    have z : OpV := ⟨0, 0, 0, [], 0, none, 0, 0, [], none, 0, 0, []⟩
    refine ⟨(List.range len).map fun i => if h : i < len then (each i h).choose else z, ⟨by simp, fun h0 => ?_, fun i hi => ?_⟩, by omega⟩
    · obtain ⟨b, o, s⟩ := x
      have hc0 := (each 0 h0).choose_spec.1 0 _ rfl
      obtain rfl : s = none := by simpa [Addr.add] using World.cell?_spot hc0
      have e1 : ∀ i j, ((⟨b, o, none⟩ : Addr).add (i * 38)).add j = ⟨b, o + i * 38 + j, none⟩ := fun i j => by rw [add_plain]; exact add_plain _ _ _
      refine ⟨b, o, rfl, ?_, fun i hi j v hv => ?_⟩
      · rw [e1] at hc0
        exact World.block_lt_of_cell? W _ hc0
      · have hi' : i < len := by simpa using hi
        simp only [List.getElem_map, List.getElem_range, hi', dif_pos] at hv
        have := (each i hi').choose_spec.1 j v hv
        rw [e1] at this
        exact this
    · have hi' : i < len := by simpa using hi
      simp only [List.getElem_map, List.getElem_range, hi', dif_pos]
      exact (each i hi').choose_spec.2
end Go.Proofs.YtmcpjokbkkfgfaaGreatDoor

/-
  Layer 9: WalPlays walked.
-/
namespace Go.Proofs.YtmcpjokbkkfgfaaGreatDoor
open Go.RowKit


set_option maxHeartbeats 8000000 in
set_option maxRecDepth 100000 in
theorem walPlays_any (s : Sup) (more t l : Int) (ht0 : 0 ≤ t) (hl0 : 0 ≤ l) (ps : Option Addr) (ls cs : Nat) (os : List OpV) (w : World) (h : ScIn w w.heap.size ps ls os) (hm : ls ≤ maxLen) (ht : Tab w) :
    Calls Tryz.prog 3 #[.agg (ccells s).toArray, .int .i64 more, .agg #[.int .u64 t, .int .u64 l], .slice ps ls cs] w fun e w' => e = .returned (.bool true) ∧ Below w.heap.size w w' := by
  have HSc : Hid (ScIn w w.heap.size ps ls os) := h
  have hmx : ls ≤ 9223372036854775807 := hm
  have HT : Hid (Tab w) := ht
  have H1 : Hid (1 < w.heap.size) := World.block_lt_of_cell? w _ (ht.half 0 (by omega))
  obtain ⟨w0, hw0⟩ : ∃ x, x = (w.alloc (.cells (ccells s).toArray 23)).alloc (.cells #[.int .u64 t, .int .u64 l] 25) := ⟨_, rfl⟩
  have ew := hw0.symm
  have hsz1 : (w.alloc (.cells (ccells s).toArray 23)).heap.size = w.heap.size + 1 := by simp
  have B0 : Hid (Below w.heap.size w w0) := by rw [hw0]; exact below_then (below_alloc w _) (below_alloc _ _)
  have C0 : Hid (CAt w0 w.heap.size s) := by rw [hw0]; exact LAt.later (LAt.new 23 w (ccells s)) (below_alloc _ _)
  have F0 : Hid (LAt 25 w0 (w.heap.size + 1) [.int .u64 t, .int .u64 l]) := by rw [hw0, ← hsz1]; exact LAt.new 25 _ _
  clear hw0 h hm ht hsz1
  go_enter Tryz.func3, Tryz.ntmps3
  go_wp2_with fail
  clear ew
  refine (fixed_any w0 (HT.out.later B0.out)).mono ?_
  rintro e w1 ⟨rfl, b1⟩
  have B1 : Hid (Below w.heap.size w w1) := below_then B0.out b1
  have C1 : Hid (CAt w1 w.heap.size s) := LAt.later C0.out b1
  have F1 : Hid (LAt 25 w1 (w.heap.size + 1) [.int .u64 t, .int .u64 l]) := LAt.later F0.out b1
  clear b1 B0 C0 F0
  have c0 := CAt.c0 C1.out
  have c1 := CAt.c1 C1.out
  go_wp2_with fail
  clear c0 c1
  generalize RowKit.wrap64 (RowKit.wrap64 (RowKit.wrap64 (1 + s.bl) + s.lc) + more.tmod 3) = S
  by_cases hS : S < 1 ∨ 4096 < S
  · refine (new_bad S w1 hS).mono ?_
    rintro e w2 ⟨rfl, rfl⟩
    go_wp2_with fail
    refine (rnew_bad S w1 hS).mono ?_
    rintro e w2 ⟨rfl, rfl⟩
    go_wp2_with fail
    go_ret
    exact ⟨rfl, B1.out⟩
  obtain ⟨n, rfl⟩ := Int.eq_ofNat_of_zero_le (show 0 ≤ S by omega)
  have hn1 : 1 ≤ n := by omega
  have hn2 : n ≤ 4096 := by omega
  clear hS
  refine (new_good n w1 hn1 hn2).mono ?_
  rintro e w2 ⟨p, rfl, d2, b2⟩
  have D2 : Hid (Dsk w2 (fun k => w1.heap.size ≤ k ∧ k < w2.heap.size) p n (List.replicate (64 * n) 0) []) := d2.mono (fun k h1 h2 => ⟨h2, h1⟩)
  have B2 : Hid (Below w1.heap.size w1 w2) := b2
  clear d2 b2
  go_wp2_with fail
  refine (rnew_good n w2 hn1 hn2).mono ?_
  rintro e w3 ⟨q, rfl, r3, b3⟩
  have D3 : Hid (Dsk w3 (fun k => w1.heap.size ≤ k ∧ k < w2.heap.size) p n (List.replicate (64 * n) 0) []) := D2.out.later b3
  have R3 : Hid (Ref w3 (fun k => w2.heap.size ≤ k ∧ k < w3.heap.size) q n (List.replicate (64 * n) 0) []) := r3.mono (fun k h1 h2 => ⟨h2, h1⟩)
  have B3 : Hid (Below w2.heap.size w2 w3) := b3
  have C3 : Hid (CAt w3 w.heap.size s) := LAt.later C1.out (below_then B2.out b3)
  have F3 : Hid (LAt 25 w3 (w.heap.size + 1) [.int .u64 t, .int .u64 l]) := LAt.later F1.out (below_then B2.out b3)
  have L3 : Hid (_) := CAt.load23 C3.out
  have f0 : w3.cell? ⟨w.heap.size + 1, 0, none⟩ = some (.int .u64 t) := LAt.cell F3.out 0
  have f1 : w3.cell? ⟨w.heap.size + 1, 1, none⟩ = some (.int .u64 l) := LAt.cell F3.out 1
  generalize (List.replicate (64 * n) 0 : List Int) = d at *
  clear r3 b3 D2 C1 F1
  go_wp2_with ((with_reducible refine at_ops ?_); (refine wpList_load_is (by rfl) 23 rfl rfl L3.out ?_); simp only [Act.put, List.setIfInBounds_toArray, List.set_cons_zero, List.set_cons_succ])
  clear L3 f0 f1
  by_cases hr : opnS s n t l = 0
  · refine (open_ok s t l ht0 hl0 D3.out hr).mono ?_
    rintro e w4 ⟨L, rfl, -, l4, b4⟩
    have C4 : Hid (CAt w4 w.heap.size s) := LAt.later C3.out b4
    have F4 : Hid (LAt 25 w4 (w.heap.size + 1) [.int .u64 t, .int .u64 l]) := LAt.later F3.out b4
    have R4 : Hid (Ref w4 (fun k => w2.heap.size ≤ k ∧ k < w3.heap.size) q n d []) := R3.out.later b4
    have B4 : Hid (Below w3.heap.size w3 w4) := b4
    have L4 : Hid (_) := CAt.load23 C4.out
    have f0 : w4.cell? ⟨w.heap.size + 1, 0, none⟩ = some (.int .u64 t) := LAt.cell F4.out 0
    have f1 : w4.cell? ⟨w.heap.size + 1, 1, none⟩ = some (.int .u64 l) := LAt.cell F4.out 1
    have LL : Hid (_) := l4
    clear l4
    clear b4 C3 F3 R3 D3
    go_wp2_with ((with_reducible refine at_ops ?_); (refine wpList_load_is (by rfl) 23 rfl rfl L4.out ?_); simp only [Act.put, List.setIfInBounds_toArray, List.set_cons_zero, List.set_cons_succ])
    clear L4 f0 f1
    refine (ropen_ok s t l ht0 hl0 R4.out hr).mono ?_
    rintro e w5 ⟨K, rfl, -, r5, b5⟩
    have B5 : Hid (Below w4.heap.size w4 w5) := b5
    have RR : Hid (_) := r5
    clear r5
    clear b5 C4 F4 R4
    have U1 : Hid (_) := buildPL w5 L
    have U2 : Hid (_) := buildPD w5 p
    have U3 : Hid (_) := buildPR w5 K
    have U4 : Hid (_) := buildPW w5 L p K
    have HS0 := Sq.start (B := w.heap.size) B1.out.size H1.out (HT.out.later B1.out) B2.out B3.out B4.out B5.out LL.out RR.out
    obtain ⟨w6, hw6⟩ : ∃ x, x = w5.alloc (.cells (pcells L p K).toArray 46) := ⟨_, rfl⟩
    rw [← hw6] at HS0
    have ew6 := hw6.symm
    have HS6 : Hid (Sq w6 w.heap.size w5.heap.size 1 0 ∧ Below w.heap.size w w6) := ⟨HS0.1, below_then B1.out HS0.2⟩
    have U5 : Hid (_) := build8 w6
    clear hw6 HS0 LL RR B2 B3 B4 B5 B1
    go_wp2_with ((with_reducible refine at_ops ?_); (first | (refine wpList_build_is (vs := [(0, .pointer (some ⟨L, 0, none⟩)), (1, .pointer none)]) (by rfl) 42 rfl (by rfl) U1.out ?_) | (refine wpList_build_is (vs := [(0, .pointer (some ⟨p, 0, none⟩)), (1, .pointer none)]) (by rfl) 43 rfl (by rfl) U2.out ?_) | (refine wpList_build_is (vs := [(0, .pointer (some ⟨K, 0, none⟩)), (1, .pointer none)]) (by rfl) 44 rfl (by rfl) U3.out ?_) | (refine wpList_build_is (vs := [(0, .agg #[.pointer (some ⟨L, 0, none⟩), .pointer none]), (1, .agg #[.pointer (some ⟨p, 0, none⟩), .pointer none]), (2, .agg #[.pointer (some ⟨K, 0, none⟩), .pointer none])]) (by rfl) 46 rfl (by rfl) U4.out ?_) | (refine wpList_build_is (vs := [(0, .int .i64 8)]) (by rfl) 53 rfl (by rfl) U5.out ?_)); simp only [Act.put, List.setIfInBounds_toArray, List.set_cons_zero, List.set_cons_succ])
    clear U1 U2 U3 U4 U5 ew6
    generalize w5.heap.size = P at *
    refine (plays_over0 HS6.out.1 (by omega) (by omega) 0 0 (R.zs 32) 0 _ _ (by decide)).mono ?_
    rintro e w7 ⟨rfl, q7, b7⟩
    have HS7 : Hid (Sq w7 w.heap.size P 2 (0 + 1) ∧ Below w.heap.size w w7) := ⟨q7, HS6.out.2.trans b7⟩
    clear q7 b7 HS6
    go_wp2_with fail
    go_loopw [19, 20] (fun okv v wr => ∃ k : Nat, k ≤ 70 ∧ k ≤ ls ∧ okv = .bool true ∧ v = .int .i64 k ∧ Hid (Sq wr w.heap.size P 2 (k + 1) ∧ Below w.heap.size w wr)) (fun _ v _ => 70 - (intOf v).toNat)
    case atStart => exact ⟨0, by omega, by omega, rfl, rfl, HS7.out⟩
    case round =>
      obtain ⟨k, hk70, hkl, rfl, rfl, HR⟩ := hrel
      clear HS7
      by_cases hl : k < ls
      · by_cases h70 : k < 70
        · have hsc := HSc.out.below HR.out.2
          have hko : k < os.length := by have := hsc.len; omega
          obtain ⟨b, o, rfl, _, hcl⟩ := hsc.cells (by omega)
          have hop := hsc.each k hko
          have LE0 := loadOp (hcl k hko) hop
          clear hcl hsc
          revert hop LE0
          generalize os[k] = op
          intro hop LE0
          have LE : Hid (_) := LE0
          have HOp : Hid (OpIn wr w.heap.size op) := hop
          clear hop LE0
          have i1 : (k : Int) < 70 := by omega
          have i2 : (k : Int) < (ls : Int) := by omega
          have i3 : (0 : Int) ≤ (k : Int) := by omega
          go_wp2_with ((with_reducible refine at_ops ?_); (refine wpList_load_is (by rfl) 53 rfl rfl LE.out ?_); simp only [Act.put, List.setIfInBounds_toArray, List.set_cons_zero, List.set_cons_succ])
          clear LE
          refine (plays_any HR.out.1 (by omega) op HOp.out).mono ?_
          rintro e1 w8 ⟨rfl, hst, hb8⟩
          have HN : Hid (Sq w8 w.heap.size P 2 (k + 1 + 1) ∧ Below w.heap.size w w8) := ⟨hst, HR.out.2.trans hb8⟩
          clear hst hb8 HOp HR
          go_wp2_with fail
          go_roundw
          case rel => exact ⟨k + 1, by omega, by omega, rfl, by go_num, HN.out⟩
          case measure => simp [intOf]; omega
        · have i1 : ¬ (k : Int) < 70 := by omega
          have i2 : (k : Int) < (ls : Int) := by omega
          have U7 : Hid (_) := build7 wr
          have HE : Hid (_) := HR
          go_wp2_with ((with_reducible refine at_ops ?_); (refine wpList_build_is (vs := [(0, .int .i64 7), (2, .int .i64 99)]) (by rfl) 53 rfl (by rfl) U7.out ?_); simp only [Act.put, List.setIfInBounds_toArray, List.set_cons_zero, List.set_cons_succ])
          clear U7
          refine (plays_all HR.out.1 (by omega) 0 99 (R.zs 32) 0 _ _).mono ?_
          rintro e1 wx ⟨rfl, hst, hbx⟩
          have HX : Hid (Sq wx w.heap.size P 2 (k + 1 + 1) ∧ Below w.heap.size w wx) := ⟨hst, HR.out.2.trans hbx⟩
          clear hst hbx HE HR
          have U8 : Hid (_) := build71 wx
          go_wp2_with ((with_reducible refine at_ops ?_); (refine wpList_build_is (vs := [(0, .int .i64 7), (1, .int .i64 1), (2, .int .i64 99)]) (by rfl) 53 rfl (by rfl) U8.out ?_); simp only [Act.put, List.setIfInBounds_toArray, List.set_cons_zero, List.set_cons_succ])
          clear U8
          refine (plays_all HX.out.1 (by omega) 1 99 (R.zs 32) 0 _ _).mono ?_
          rintro e1 wy ⟨rfl, -, hby⟩
          have HY : Hid (Below w.heap.size w wy) := HX.out.2.trans hby
          clear hby HX
          go_wp2_with fail
          go_ret
          exact ⟨rfl, HY.out⟩
      · have i2 : ¬ (k : Int) < (ls : Int) := by omega
        have U7 : Hid (_) := build7 wr
        have HE : Hid (_) := HR
        go_wp2_with ((with_reducible refine at_ops ?_); (refine wpList_build_is (vs := [(0, .int .i64 7), (2, .int .i64 99)]) (by rfl) 53 rfl (by rfl) U7.out ?_); simp only [Act.put, List.setIfInBounds_toArray, List.set_cons_zero, List.set_cons_succ])
        clear U7
        refine (plays_all HR.out.1 (by omega) 0 99 (R.zs 32) 0 _ _).mono ?_
        rintro e1 wx ⟨rfl, hst, hbx⟩
        have HX : Hid (Sq wx w.heap.size P 2 (k + 1 + 1) ∧ Below w.heap.size w wx) := ⟨hst, HR.out.2.trans hbx⟩
        clear hst hbx HE HR
        have U8 : Hid (_) := build71 wx
        go_wp2_with ((with_reducible refine at_ops ?_); (refine wpList_build_is (vs := [(0, .int .i64 7), (1, .int .i64 1), (2, .int .i64 99)]) (by rfl) 53 rfl (by rfl) U8.out ?_); simp only [Act.put, List.setIfInBounds_toArray, List.set_cons_zero, List.set_cons_succ])
        clear U8
        refine (plays_all HX.out.1 (by omega) 1 99 (R.zs 32) 0 _ _).mono ?_
        rintro e1 wy ⟨rfl, -, hby⟩
        have HY : Hid (Below w.heap.size w wy) := HX.out.2.trans hby
        clear hby HX
        go_wp2_with fail
        go_ret
        exact ⟨rfl, HY.out⟩
  · refine (open_no s t l ht0 hl0 D3.out hr).mono ?_
    rintro e w4 ⟨rfl, b4⟩
    have C4 : Hid (CAt w4 w.heap.size s) := LAt.later C3.out b4
    have F4 : Hid (LAt 25 w4 (w.heap.size + 1) [.int .u64 t, .int .u64 l]) := LAt.later F3.out b4
    have R4 : Hid (Ref w4 (fun k => w2.heap.size ≤ k ∧ k < w3.heap.size) q n d []) := R3.out.later b4
    have B4 : Hid (Below w3.heap.size w3 w4) := b4
    have L4 : Hid (_) := CAt.load23 C4.out
    have f0 : w4.cell? ⟨w.heap.size + 1, 0, none⟩ = some (.int .u64 t) := LAt.cell F4.out 0
    have f1 : w4.cell? ⟨w.heap.size + 1, 1, none⟩ = some (.int .u64 l) := LAt.cell F4.out 1
    clear b4 C3 F3 R3 D3
    go_wp2_with ((with_reducible refine at_ops ?_); (refine wpList_load_is (by rfl) 23 rfl rfl L4.out ?_); simp only [Act.put, List.setIfInBounds_toArray, List.set_cons_zero, List.set_cons_succ])
    clear L4 f0 f1
    refine (ropen_no s t l ht0 hl0 R4.out hr).mono ?_
    rintro e w5 ⟨rfl, b5⟩
    have B5 : Hid (Below w4.heap.size w4 w5) := b5
    clear b5 C4 F4 R4
    generalize opnS s n t l = oo at *
    go_wp2_with fail
    go_ret
    exact ⟨rfl, below_then (below_then (below_then (below_then B1.out B2.out) B3.out) B4.out) B5.out⟩
end Go.Proofs.YtmcpjokbkkfgfaaGreatDoor
