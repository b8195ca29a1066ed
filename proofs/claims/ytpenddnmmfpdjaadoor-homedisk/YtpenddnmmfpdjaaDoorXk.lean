/-
  plays, whatever the step; how the desk begins; what holds behind apart.
-/
import Derived.Test.YtpenddnmmfpdjaaDoorXd
import Derived.Test.YtpenddnmmfpdjaaDoorXe
import Derived.Test.YtpenddnmmfpdjaaDoorXf
import Derived.Test.YtpenddnmmfpdjaaDoorXg
import Derived.Test.YtpenddnmmfpdjaaDoorXh
import Derived.Test.YtpenddnmmfpdjaaDoorXj
import Derived.Test.YtpenddnmmfpdjaaDoorYb
namespace Go.Proofs.YtpenddnmmfpdjaaDoor
open Go.RowKit

theorem BIn.kept0 {w w' : World} {S : Nat → Prop} {p : Option Addr} {n : Nat} {xs : List Int} (h : BIn w p n xs) (hk : Kept S w w') (hs : ∀ a, p = some a → 0 < n → ¬ S a.block) : BIn w' p n xs := by
  by_cases h0 : 0 < n
  · exact h.kept hk (fun a ea => hs a ea h0)
  · exact ⟨h.len, h.byte, fun c => absurd c h0⟩
/-- a step -/
structure OpV where
  kd : Int
  b : Int
  v : List Int
  pr : Option Addr
  lr : Nat
  cr : Nat
  xs : List Int
  pk : Option Addr
  lk : Nat
  ck : Nat
  ys : List Int
  o : Sup
  odd : Bool
def OpV.val (o : OpV) : List Value := ocells o.kd o.b o.v (.slice o.pr o.lr o.cr) (.slice o.pk o.lk o.ck) o.o o.odd
/-- a step whose lists lie below B -/
structure OpIn (w : World) (B : Nat) (o : OpV) : Prop where
  vl : o.v.length = 32
  vb : Bytes o.v
  raw : BIn w o.pr o.lr o.xs
  rB : ∀ a, o.pr = some a → 0 < o.lr → a.block < B
  keep : IIn w o.pk o.lk o.ys
  kB : ∀ a, o.pk = some a → 0 < o.lk → a.block < B
  kb : o.lk ≤ 140737488355328
theorem OpIn.below {w w' : World} {B : Nat} {o : OpV} (h : OpIn w B o) (hb : Below B w w') : OpIn w' B o := by
  have hk : Kept (fun k => B ≤ k) w w' := ⟨hb.os, hb.tape, hb.output, hb.size, fun k _ hk => hb.block k (by omega)⟩
  exact ⟨h.vl, h.vb, h.raw.kept0 hk (fun a ea h0 => by have := h.rB a ea h0; omega), h.rB, h.keep.kept0 hk (fun a ea h0 => by have := h.kB a ea h0; omega), h.kB, h.kb⟩
theorem plays_any {w : World} {B g p r n K : Nat} {s : Sup} (h : St w B g p r n s K) (hK : K ≤ 100) (o : OpV) (ho : OpIn w B o) :
    Calls Tryd.prog 30 #[.pointer (some ⟨g, 0, none⟩), .agg o.val.toArray] w fun e0 w' => e0 = .returned (.bool true) ∧ St w' B g p r n s (K + 1) ∧ Below B w w' := by
  obtain ⟨kd, b, v, pr, lr, cr, xs, pk, lk, ck, ys, oc, odd⟩ := o
  show Calls Tryd.prog 30 #[.pointer (some ⟨g, 0, none⟩), .agg (ocells kd b v (.slice pr lr cr) (.slice pk lk ck) oc odd).toArray] w _
  by_cases k1 : kd = 1
  · rw [k1]; exact plays_save h hK b v ho.vl ho.vb _ _ oc odd
  by_cases k2 : kd = 2
  · rw [k2]; exact plays_load h hK b v ho.vl ho.vb _ _ oc odd
  by_cases k3 : kd = 3
  · rw [k3]; exact plays_all h hK b v ho.vl ho.vb _ _ oc odd
  by_cases k4 : kd = 4
  · rw [k4]; exact plays_raw h hK b v ho.vl ho.vb pr lr cr _ oc odd xs ho.raw
  by_cases k5 : kd = 5
  · rw [k5]; exact plays_flush h hK b v ho.vl ho.vb _ _ oc odd
  by_cases k6 : kd = 6
  · rw [k6]; exact plays_crash h hK b v ho.vl ho.vb _ pk lk ck oc odd ys ho.keep ho.kB ho.kb
  · exact plays_none h hK b v ho.vl ho.vb _ _ oc odd kd k1 k2 k3 k4 k5 k6
/-- how a script lies: l steps of 42 cells -/
structure ScIn (w : World) (B : Nat) (p : Option Addr) (l : Nat) (os : List OpV) : Prop where
  len : os.length = l
  cells : 0 < l → ∃ b o, p = some ⟨b, o, none⟩ ∧ b < B ∧ ∀ i (h : i < os.length), w.rangeAt b (o + i * 42) os[i].val
  each : ∀ i (h : i < os.length), OpIn w B os[i]
theorem ScIn.below {w w' : World} {B l : Nat} {p : Option Addr} {os : List OpV} (h : ScIn w B p l os) (hb : Below B w w') : ScIn w' B p l os := by
  refine ⟨h.len, fun h0 => ?_, fun i hi => (h.each i hi).below hb⟩
  obtain ⟨b, o, e, hB, hc⟩ := h.cells h0
  exact ⟨b, o, e, hB, fun i hi => rangeAt_same (hc i hi) (hb.block b hB)⟩
theorem size73 : (Tryd.prog.info? 73).map (·.size) = some 42 := by kernel_rfl
theorem val_len {w : World} {B : Nat} {o : OpV} (h : OpIn w B o) : o.val.length = 42 := ocells_len _ _ h.vl _ _ _ _
theorem load73 {w : World} {b o : Nat} {x : OpV} {B : Nat} (h : w.rangeAt b o x.val) (hx : OpIn w B x) : (Instr.loadAt 73 (.pointer (some ⟨b, o, none⟩))).run Tryd.prog w = .ok (.agg x.val.toArray) w :=
  run_loadAt_mid w b o 73 x.val _ h Tryd.underlying73 rfl (by rw [size73, val_len hx])
/-- the desk is built -/
def kz : List Value := .pointer none :: .pointer none :: (ccells sup0 ++ [.slice none 0 0, .slice none 0 0])
def plK : List (Nat × Nat) := [(0, 1), (1, 1), (2, 5), (7, 1), (8, 1)]
theorem places69 : placesOf Tryd.prog 69 = some plK := by kernel_rfl
theorem zero69 : (Tryd.prog.info? 69).bind (·.zero) = some (.agg kz.toArray) := by kernel_rfl
theorem fill69 (p r : Nat) (s : Sup) : Instr.fill (plK.toArray[·]?) kz.toArray [(0, .pointer (some ⟨p, 0, none⟩)), (1, .pointer (some ⟨r, 0, none⟩)), (2, .agg (ccells s).toArray)] = some (dcells p r s (.slice none 0 0) (.slice none 0 0)).toArray := by
  rw [fill_step 0 1 0 rfl _ [.pointer (some ⟨p, 0, none⟩)] _ rfl rfl (by simp [kz, ccells]), fill_step 1 1 1 rfl _ [.pointer (some ⟨r, 0, none⟩)] _ rfl rfl (by simp [kz, ccells]), fill_step 2 5 2 rfl _ (ccells s) _ rfl rfl (by simp [kz, ccells])]
  rfl
theorem build69 (w : World) (p r : Nat) (s : Sup) : (Instr.build 69 #[(0, .pointer (some ⟨p, 0, none⟩)), (1, .pointer (some ⟨r, 0, none⟩)), (2, .agg (ccells s).toArray)]).run Tryd.prog w = .ok (.agg (dcells p r s (.slice none 0 0) (.slice none 0 0)).toArray) w :=
  run_build w 69 _ _ ((built_of 69 _ _ _ places69 zero69).trans (fill69 p r s))
theorem build73 (w : World) : (Instr.build 73 #[(0, .int .i64 3)]).run Tryd.prog w = .ok (.agg (ocells 3 0 (zs 32) (.slice none 0 0) (.slice none 0 0) sup0 false).toArray) w := run_build w 73 _ _ (by kernel_rfl)
/-- the roles at the beginning -/
def R0 (a1 a2 a3 : Nat) : Nat → Nat := fun k => if k < a1 then 0 else if k < a2 then 1 else if k < a3 then 2 else if k = a3 then 3 else 0
theorem St.start {wA w2 w3 : World} {B n p r : Nat} {s : Sup} {d : List Int} (hB : B ≤ wA.heap.size) (h1 : 1 < B) (ht : Tab wA) (b2 : Below wA.heap.size wA w2) (b3 : Below w2.heap.size w2 w3)
    (d0 : Dsk w2 (fun k => wA.heap.size ≤ k) p n d []) (r0 : Ref w3 (fun k => w2.heap.size ≤ k) r n d []) :
    St (w3.alloc (.cells (dcells p r s (.slice none 0 0) (.slice none 0 0)).toArray 69)) B w3.heap.size p r n s 0 ∧ Below wA.heap.size wA (w3.alloc (.cells (dcells p r s (.slice none 0 0) (.slice none 0 0)).toArray 69)) := by
  have s2 := b2.size
  have s3 := b3.size
  have b4 := below_alloc w3 (.cells (dcells p r s (.slice none 0 0) (.slice none 0 0)).toArray 69)
  have hK : KAt (w3.alloc (.cells (dcells p r s (.slice none 0 0) (.slice none 0 0)).toArray 69)) w3.heap.size p r s (.slice none 0 0) (.slice none 0 0) := LAt.new 69 w3 _
  have sz : (w3.alloc (.cells (dcells p r s (.slice none 0 0) (.slice none 0 0)).toArray 69)).heap.size = w3.heap.size + 1 := by simp
  revert b4 hK sz
  generalize w3.alloc (.cells (dcells p r s (.slice none 0 0) (.slice none 0 0)).toArray 69) = w4
  intro b4 hK sz
  have bA : Below wA.heap.size wA w4 := below_then (below_then b2 b3) b4
  refine ⟨⟨R0 wA.heap.size w2.heap.size w3.heap.size, d, [], 0, ⟨ht.later bA, h1, ⟨_, _, [], [], hK, ⟨⟨rfl, .inl ⟨rfl, rfl⟩⟩, ⟨rfl, .inl ⟨rfl, rfl⟩⟩, fun k hk => by simp [Value.ownBlock] at hk, fun k hk => by simp [Value.ownBlock] at hk, fun i h1 _ => by simp at h1⟩⟩, ?_, ?_, ?_, fun k hk => ?_, fun k hk => ?_⟩, Nat.le_refl _, Nat.le_refl _, by omega⟩, bA⟩
  · unfold R0; rw [if_neg (by omega), if_neg (by omega), if_neg (by omega), if_pos rfl]
  · refine (d0.mono (fun k h1 h2 => ?_)).later (below_then b3 b4)
    unfold R0; rw [if_neg (by omega), if_pos h1]
  · refine (r0.mono (fun k h1 h2 => ?_)).later b4
    unfold R0; rw [if_neg (by omega), if_neg (by omega), if_pos h1]
  · unfold R0; rw [if_neg (by omega), if_neg (by omega), if_neg (by omega), if_neg (by omega)]
  · unfold R0; rw [if_pos (by omega)]
theorem St.same {w : World} {B g p r n : Nat} {s : Sup} {K : Nat} (h : St w B g p r n s K) (hK : K ≤ 1000) : Calls Tryd.prog 29 #[.pointer (some ⟨g, 0, none⟩)] w fun e w' => e = .returned (.bool true) ∧ Below w.heap.size w w' := by
  obtain ⟨R, d, ws, m, hD, hl, hm, hB⟩ := h
  obtain ⟨vt, vw, tl, wl, hk, ht⟩ := hD.desk
  exact desk_same hk hD.dsk hD.ref (by omega)
theorem Z.St.same {w : World} {B g p r n : Nat} {s : Sup} {K : Nat} (h : Z.St w B g p r n s K) (hK : K ≤ 1000) : Calls Tryd.prog 29 #[.pointer (some ⟨g, 0, none⟩)] w fun e w' => e = .returned (.bool true) ∧ Below w.heap.size w w' := by
  obtain ⟨R, d, ws, m, hD, hl, hm, hB⟩ := h
  obtain ⟨vt, vw, tl, wl, hk, ht⟩ := hD.desk
  exact desk_same hk hD.dsk hD.ref (by omega)

/-- an element of a list that is owned -/
theorem own_at {w : World} {base e m c j : Nat} {p : Option Addr} {tl : List Value} (h : w.ownsRow base e 1 (.slice p m c) m tl) (hj : j < tl.length) : ∃ g, p = some ⟨g, 0, none⟩ ∧ w.cell? ⟨g, j, none⟩ = some tl[j] := by
  have hl := h.1
  rcases h.2 with ⟨_, h2⟩ | ⟨g, cap, cur, h1, _⟩
  · omega
  · simp only [Value.slice.injEq] at h1
    obtain ⟨rfl, _, _⟩ := h1
    have := own_range h j _ (List.getElem?_eq_getElem hj)
    rw [Nat.zero_add] at this
    exact ⟨g, rfl, this⟩
/-- a slice's parts -/
def slP : Value → Option Addr | .slice p _ _ => p | _ => none
def slN : Value → Nat | .slice _ n _ => n | _ => 0
def slC : Value → Nat | .slice _ _ c => c | _ => 0
def elt (tl : List Value) (i : Nat) : Value := tl.getD i (.slice none 0 0)
theorem TD.key {w : World} {R : Nat → Nat} {m : Nat} {vt vw : Value} {tl wl : List Value} (h : TD w R m vt vw tl wl) (i : Nat) (hi : i < m) : ∃ q n c xs, elt tl i = .slice q n c ∧ n ≤ 64 ∧ w.ownsRow 0 23 32 (.slice q n c) n xs ∧ (∀ a, q = some a → R a.block = 10 + i) := by
  have l1 := h.told.1
  have l2 := h.want.1
  have hp := h.each i (by omega) (by omega)
  obtain ⟨⟨q, n, c, q2, c2, vs, e1, e2, h1, h2, h3, h4, h5⟩, h6, _⟩ := hp
  refine ⟨q, n, c, _, ?_, h1, h4, fun a ea => h6 _ (by rw [e1, ea]; rfl)⟩
  unfold elt
  rw [← e1, List.getD, List.getElem?_eq_getElem (by omega)]
  rfl
theorem TD.fam {w : World} {R : Nat → Nat} {m gt ct : Nat} {vw : Value} {tl wl : List Value} (h : TD w R m (.slice (some ⟨gt, 0, none⟩) m ct) vw tl wl) (hm : m ≤ 130) :
    V.Fam w 0 gt m (fun i => slP (elt tl i)) (fun i => slN (elt tl i)) (fun i => slC (elt tl i)) := by
  have l1 := h.told.1
  refine ⟨hm, fun i hi => ?_, ?_, fun i hi => ?_, fun i j a b hi hj hne ha hb e => ?_, fun i hi => ?_, Nat.zero_le _⟩
  · obtain ⟨q, n, c, xs, e, _⟩ := h.key i hi
    simp only [e, slP, slN, slC]
    have := own_range h.told i (elt tl i) (by unfold elt; rw [List.getD, List.getElem?_eq_getElem (by omega)]; rfl)
    rw [Nat.zero_add, e] at this
    exact this
  · obtain ⟨cur, hc, _⟩ := (own_blk h.told).1
    exact ⟨cur, hc⟩
  · obtain ⟨q, n, c, xs, e, _, ho, _⟩ := h.key i hi
    simp only [e, slP, slN, slC]
    exact ⟨xs, ho⟩
  · obtain ⟨q, n, c, xs, e1, _, _, h1⟩ := h.key i hi
    obtain ⟨q', n', c', xs', e2, _, _, h2⟩ := h.key j hj
    simp only [e1, slP] at ha
    simp only [e2, slP] at hb
    have r1 := h1 a ha
    have r2 := h2 b hb
    rw [e] at r1
    omega
  · obtain ⟨q, n, c, xs, e, hn, _⟩ := h.key i hi
    simp only [e, slN]
    exact hn
/-- behind apart -/
theorem Dk.apart {w w' : World} {R : Nat → Nat} {B g p r n : Nat} {s : Sup} {d : List Int} {ws : List Wr} {e : List Int} {us : List Wr} {m : Nat} {vt vw : Value} {tl wl : List Value} (h : Dk w R B g p r n s d ws e us m) (hK : KAt w g p r s vt vw) (hT : TD w R m vt vw tl wl) (hB : B ≤ w.heap.size)
    (hf : V.Fr m (fun i => slP (elt tl i)) w w') : Z.Dk w' R B g p r n s d ws e us m ∧ Below B w w' := by
  have kp : ∀ k, k < w.heap.size → R k < 10 → w'.heap[k]? = w.heap[k]? := fun k hk hr => hf.block k hk (fun i a hi ha e => by
    obtain ⟨q, n, c, xs, e1, _, _, h1⟩ := hT.key i hi
    simp only [e1, slP] at ha
    have := h1 a ha
    rw [e] at this
    omega)
  have hg := LAt.lt hK
  have b1 := h.b1
  have sz := hf.size
  exact ⟨⟨h.tab.kept (kp 0 (by omega) (by rw [h.lo 0 (by omega)]; omega)) (kp 1 (by omega) (by rw [h.lo 1 (by omega)]; omega)), h.b1,
    ⟨vt, vw, tl, wl, (kp g hg (by rw [h.rg]; omega)).trans hK, ⟨own_same hT.told (fun k hk => kp k (own_lt hT.told hk) (by rw [hT.rt k hk]; omega)), own_same hT.want (fun k hk => kp k (own_lt hT.want hk) (by rw [hT.rw k hk]; omega)), hT.rt, hT.rw, fun _ _ _ => ⟨trivial⟩⟩⟩, h.rg,
    h.dsk.same (fun _ _ h => h) (fun k hk h1 => kp k hk (by omega)), h.ref.same (fun _ _ h => h) (fun k hk h1 => kp k hk (by omega)), fun k hk => h.hi k (by omega), h.lo⟩,
    ⟨hf.os, hf.tape, hf.output, sz, fun k hk => kp k (by omega) (by rw [h.lo k hk]; omega)⟩⟩
theorem Dk.toZ {w : World} {R : Nat → Nat} {B g p r n : Nat} {s : Sup} {d : List Int} {ws : List Wr} {e : List Int} {us : List Wr} {m : Nat} (h : Dk w R B g p r n s d ws e us m) : Z.Dk w R B g p r n s d ws e us m := by
  obtain ⟨vt, vw, tl, wl, hK, hT⟩ := h.desk
  exact ⟨h.tab, h.b1, ⟨vt, vw, tl, wl, hK, ⟨hT.told, hT.want, hT.rt, hT.rw, fun _ _ _ => ⟨trivial⟩⟩⟩, h.rg, h.dsk, h.ref, h.hi, h.lo⟩

set_option maxHeartbeats 1000000 in
set_option maxRecDepth 100000 in
theorem apart_nil (p : Option Addr) (c : Nat) (w : World) : Calls Tryd.prog 31 #[.slice p 0 c] w fun e w' => e = .returned (.bool true) ∧ Below w.heap.size w w' := by
  go_enter Tryd.func31, Tryd.ntmps31
  go_wp2_with fail
  go_loopw [3] (fun i wr => i = .int .i64 0 ∧ Hid (Below w.heap.size w wr)) (fun _ _ => 0)
  case atStart => exact ⟨rfl, Below.refl _ _⟩
  case round =>
    obtain ⟨rfl, HB⟩ := hrel
    go_wp2_with fail
    go_loopw [6] (fun i wr => i = .int .i64 0 ∧ Hid (Below w.heap.size w wr)) (fun _ _ => 0)
    case atStart => exact ⟨rfl, HB.out⟩
    case round =>
      obtain ⟨rfl, HB⟩ := hrel
      go_wp2_with fail
      go_loopw [9] (fun i wr => i = .int .i64 0 ∧ Hid (Below w.heap.size w wr)) (fun _ _ => 0)
      case atStart => exact ⟨rfl, HB.out⟩
      case round =>
        obtain ⟨rfl, HB⟩ := hrel
        go_wp2_with fail
        go_ret
        exact ⟨rfl, HB.out⟩
end Go.Proofs.YtpenddnmmfpdjaaDoor
