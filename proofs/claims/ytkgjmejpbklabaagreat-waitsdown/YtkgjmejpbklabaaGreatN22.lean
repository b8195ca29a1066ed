/-
  Layer 15: Heights. Layer 15: awake. Layer 15: sameEdges.
-/
import Derived.Test.YtkgjmejpbklabaaGreatN12
import Derived.Test.YtkgjmejpbklabaaGreatHa
import Derived.BigQuiet
import Derived.BigRegion
import Derived.Test.YtkgjmejpbklabaaGreatHb
namespace Go.Proofs.YtkgjmejpbklabaaGreat
open Go.RowKit
open B (IIn I64)
/-- the heights that are told, by tickets -/
def hmp (ts : List Int) (a : List Nat) (h : Nat → Nat) (t : Int) : Option Value := (a.find? fun x => ts.getD x 0 == t).map fun x => Value.int .i64 (h x : Int)
theorem hmp_in {ts : List Int} {a : List Nat} {h : Nat → Nat} (hup : ts.Pairwise (· < ·)) (ha : ∀ x ∈ a, x < ts.length) {x : Nat} (hx : x ∈ a) : hmp ts a h (ts.getD x 0) = some (.int .i64 (h x : Int)) := by
  unfold hmp
  cases hf : a.find? (fun y => ts.getD y 0 == ts.getD x 0) with
  | none =>
    have := List.find?_eq_none.1 hf x hx
    simp at this
  | some y =>
    have h1 := List.find?_some hf
    have h2 := List.mem_of_find?_eq_some hf
    have e1 : ts[y]? = some (ts.getD x 0) := by
      have := ha y h2
      rw [List.getElem?_eq_getElem this]
      have h3 : ts.getD y 0 = ts.getD x 0 := by simpa using h1
      rw [← h3]; simp [List.getD, List.getElem?_eq_getElem this]
    have e2 : ts[x]? = some (ts.getD x 0) := by
      have := ha x hx
      rw [List.getElem?_eq_getElem this]
      simp [List.getD, List.getElem?_eq_getElem this]
    rw [up_at hup e1 e2]; rfl
theorem hmp_out {ts : List Int} {a : List Nat} {h : Nat → Nat} (hup : ts.Pairwise (· < ·)) (ha : ∀ x ∈ a, x < ts.length) {x : Nat} (hl : x < ts.length) (hx : x ∉ a) : hmp ts a h (ts.getD x 0) = none := by
  unfold hmp
  cases hf : a.find? (fun y => ts.getD y 0 == ts.getD x 0) with
  | none => rfl
  | some y =>
    have h1 := List.find?_some hf
    have h2 := List.mem_of_find?_eq_some hf
    have e1 : ts[y]? = some (ts.getD x 0) := by
      have := ha y h2
      rw [List.getElem?_eq_getElem this]
      have h3 : ts.getD y 0 = ts.getD x 0 := by simpa using h1
      rw [← h3]; simp [List.getD, List.getElem?_eq_getElem this]
    have e2 : ts[x]? = some (ts.getD x 0) := by
      rw [List.getElem?_eq_getElem hl]
      simp [List.getD, List.getElem?_eq_getElem hl]
    exact absurd (up_at hup e1 e2 ▸ h2) hx
theorem hmp_put {ts : List Int} {a : List Nat} {h : Nat → Nat} (hup : ts.Pairwise (· < ·)) (ha : ∀ x ∈ a, x < ts.length) {p : Nat} (hl : p < ts.length) (hp : p ∉ a) (v : Nat) : (fun u => if u = ts.getD p 0 then some (Value.int .i64 (v : Int)) else hmp ts a h u) = hmp ts (a ++ [p]) (fun x => if x = p then v else h x) := by
  funext u
  by_cases e : u = ts.getD p 0
  · subst e
    rw [if_pos rfl, hmp_in hup (fun x hx => ?_) (show p ∈ a ++ [p] by simp)]
    · simp
    · rcases List.mem_append.1 hx with hx | hx
      · exact ha x hx
      · simp at hx; omega
  · rw [if_neg e]
    unfold hmp
    rw [List.find?_append]
    have h1 : [p].find? (fun x => ts.getD x 0 == u) = none := by
      rw [List.find?_eq_none]
      intro x hx
      simp at hx; subst hx
      simpa using fun h2 => e h2.symm
    rw [h1]
    cases hf : a.find? (fun x => ts.getD x 0 == u) with
    | none => rfl
    | some y =>
      have h2 := List.mem_of_find?_eq_some hf
      have h3 : y ≠ p := fun e2 => hp (e2 ▸ h2)
      simp [h3]
abbrev zero64 : Value := .int .i64 0
theorem zeroI (w : World) : (zeroValue 3).run Tryz.prog w = .ok zero64 w := by kernel_rfl
abbrev hgtV (b8 b4 b9 : Nat) : Value := .func (.func 25) #[] #[.pointer (some ⟨b8, 0, none⟩), .pointer (some ⟨b4, 0, none⟩), .pointer (some ⟨b9, 0, none⟩)]
/-- what stands while heights are told: those of a -/
structure Hst (w W : World) (k b4 tg cT ng b8 mb b9 : Nat) (ts : List Int) (nx : List (List Nat)) (a : List Nat) (h : Nat → Nat) : Prop where
  rs : Rst w W k b4 tg cT ng ts nx
  b8x : VBx W b8 (.map (some mb)) 34
  b9x : VBx W b9 (hgtV b8 b4 b9) 76
  mp : VMp zero64 W mb a.length a.length (hmp ts a h)
  lt : ∀ x ∈ a, x < k
  d1 : mb ≠ b8 ∧ mb ≠ b9 ∧ mb ≠ b4 ∧ b4 < mb
  lm : w.heap.size ≤ mb
theorem Hst.later {w W W' : World} {k b4 tg cT ng b8 mb b9 : Nat} {ts : List Int} {nx : List (List Nat)} {a : List Nat} {h : Nat → Nat} (hs : Hst w W k b4 tg cT ng b8 mb b9 ts nx a h) (hb : RowKit.Below W.heap.size W W') : Hst w W' k b4 tg cT ng b8 mb b9 ts nx a h := { hs with
  rs := hs.rs.later hb
  b8x := hs.b8x.later hb
  b9x := hs.b9x.later hb
  mp := hs.mp.later hb }
set_option maxHeartbeats 2000000 in
set_option maxRecDepth 100000 in
theorem told_at {w W : World} {k b4 tg cT ng b8 mb b9 x : Nat} {ts : List Int} {nx : List (List Nat)} {a : List Nat} {h : Nat → Nat} (hs : Hst w W k b4 tg cT ng b8 mb b9 ts nx a h) (hk : ts.length = k) (hup : ts.Pairwise (· < ·)) (hu : ∀ t ∈ ts, UW t) (hx : x ∈ a) :
    Calls Tryz.prog 25 #[.int .i64 (x : Int), .pointer (some ⟨b8, 0, none⟩), .pointer (some ⟨b4, 0, none⟩), .pointer (some ⟨b9, 0, none⟩)] W fun e w' => e = .returned (.int .i64 (h x : Int)) ∧ RowKit.Below W.heap.size W w' := by
  have hxk := hs.lt x hx
  have c8 := hs.b8x.c
  have c0 := hs.rs.bx.c0
  have ct : W.cell? ⟨tg, x, none⟩ = some (.int .u64 (ts.getD x 0)) := O.own_cell hs.rs.tk (U64_get (by omega))
  have hut : UW (ts.getD x 0) := hu _ (by rw [List.getD, List.getElem?_eq_getElem (by omega)]; exact List.getElem_mem _)
  have hlk : ∀ q, (Instr.lookup 34 (.map (some mb)) (.int .u64 (ts.getD x 0)) true).run Tryz.prog (W.drewN q) = .ok (.tuple #[.int .i64 (h x : Int), .bool true]) (W.drewN q) := fun q => by
    have := (hs.mp.later (below_dr _ _ q)).run_look Tryz.underlying34 (zeroI _) hut
    rw [hmp_in hup (fun y hy => by have := hs.lt y hy; omega) hx] at this
    exact this
  have hlk0 := hlk 0
  clear hs hup hu hut
  generalize ts.getD x 0 = t at *
  go_enter Tryz.func25, Tryz.ntmps25
  go_wp2_with fail
  go_quiet (fail)
  go_wp2_with fail
  go_ret
  exact ⟨rfl, below_dr _ _ _⟩
theorem row_take {l : List Nat} {j : Nat} (hj : j < l.length) : l.take (j + 1) = l.take j ++ [l.getD j 0] ∧ l.getD j 0 ∈ l := by
  refine ⟨?_, ?_⟩
  · rw [List.take_add_one, List.getElem?_eq_getElem hj]
    simp [List.getD, List.getElem?_eq_getElem hj]
  · rw [List.getD, List.getElem?_eq_getElem hj]; exact List.getElem_mem _
theorem hmx_le {h : Nat → Nat} {l : List Nat} {M : Nat} (hl : ∀ y ∈ l, h y < M) : hmx h l ≤ M := by
  rcases fold_is h l 0 with e | ⟨y, hy, e⟩
  · unfold hmx; omega
  · have := hl y hy
    unfold hmx; omega
set_option maxHeartbeats 2000000 in
set_option maxRecDepth 100000 in
theorem fresh_at {w W : World} {k b4 tg cT ng b8 mb b9 p : Nat} {ts : List Int} {nx : List (List Nat)} {a : List Nat} {h : Nat → Nat} (hs : Hst w W k b4 tg cT ng b8 mb b9 ts nx a h) (hk : ts.length = k) (hn : nx.length = k) (hrl : (nx.getD p []).length ≤ 9000) (hup : ts.Pairwise (· < ·)) (hu : ∀ t ∈ ts, UW t) (hpk : p < k) (hp : p ∉ a) (hd : ∀ y, Ed nx p y → y ∈ a) (hlow : ∀ x ∈ a, h x < a.length) (hal : a.length ≤ 9000) :
    Calls Tryz.prog 25 #[.int .i64 (p : Int), .pointer (some ⟨b8, 0, none⟩), .pointer (some ⟨b4, 0, none⟩), .pointer (some ⟨b9, 0, none⟩)] W fun e w' => ∃ v, e = .returned v ∧ Hst w w' k b4 tg cT ng b8 mb b9 ts nx (a ++ [p]) (fun x => if x = p then hmx h (nx.getD p []) else h x) ∧ Kept (· = mb) W w' := by
  have HS : Hid (Hst w W k b4 tg cT ng b8 mb b9 ts nx a h) := hs
  have c8 := hs.b8x.c
  have c0 := hs.rs.bx.c0
  have ct : W.cell? ⟨tg, p, none⟩ = some (.int .u64 (ts.getD p 0)) := O.own_cell hs.rs.tk (U64_get (by omega))
  have HCT : Hid (∀ W', RowKit.Below W.heap.size W W' → W'.cell? ⟨tg, p, none⟩ = some (.int .u64 (ts.getD p 0))) := fun W' hb => O.own_cell (O.own_later hs.rs.tk hb) (U64_get (by omega))
  have hut : UW (ts.getD p 0) := hu _ (by rw [List.getD, List.getElem?_eq_getElem (by omega)]; exact List.getElem_mem _)
  have hlt : ∀ y ∈ a, y < ts.length := fun y hy => by have := hs.lt y hy; omega
  have hno := hmp_out (h := h) hup hlt (x := p) (by omega) hp
  have hlk : ∀ q, (Instr.lookup 34 (.map (some mb)) (.int .u64 (ts.getD p 0)) true).run Tryz.prog (W.drewN q) = .ok (.tuple #[.int .i64 0, .bool false]) (W.drewN q) := fun q => by
    have := (hs.mp.later (below_dr _ _ q)).run_look Tryz.underlying34 (zeroI _) hut
    rw [hno] at this
    exact this
  have hlk0 := hlk 0
  have HPUT : Hid (∀ (W' : World) (v : Nat), Hst w W' k b4 tg cT ng b8 mb b9 ts nx a h → ∃ w2, (Instr.mapUpdate 34 (.map (some mb)) (.int .u64 (ts.getD p 0)) (.int .i64 (v : Int))).run Tryz.prog W' = .ok () w2 ∧ Hst w w2 k b4 tg cT ng b8 mb b9 ts nx (a ++ [p]) (fun x => if x = p then v else h x) ∧ Kept (· = mb) W' w2) := fun W' v hs' => by
    obtain ⟨w2, hr, hm, hk2⟩ := hs'.mp.run_put Tryz.underlying34 (by omega) hut (.int .i64 (v : Int))
    refine ⟨w2, hr, ?_, hk2⟩
    rw [hno, hmp_put hup hlt (by omega) hp v] at hm
    have hd1 := hs'.d1
    exact {
      rs := {
        bel := hk2.into hs'.rs.bel (fun b hb e => by have := hs'.lm; omega) (Nat.le_refl _)
        bx := hs'.rs.bx.far hk2 (fun e => hd1.2.2.1 e.symm)
        tk := O.own_far hs'.rs.tk hk2 fun b hb e => by
          obtain ⟨es, cl, hmt⟩ := hs'.mp.typ
          exact O.own_notMap hs'.rs.tk hmt (by rw [← e]; exact hb)
        nin := hs'.rs.nin.far hk2 fun b hb e => by have := hd1.2.2.2; omega }
      b8x := hs'.b8x.far hk2 (fun e => hd1.1 e.symm)
      b9x := hs'.b9x.far hk2 (fun e => hd1.2.1 e.symm)
      mp := by rw [List.length_append, List.length_singleton]; exact hm
      lt := fun x hx => by
        rcases List.mem_append.1 hx with hx | hx
        · exact hs'.lt x hx
        · simp at hx; omega
      d1 := hd1
      lm := hs'.lm }
  have HTO : Hid (∀ (W' : World) (y : Nat), Hst w W' k b4 tg cT ng b8 mb b9 ts nx a h → y ∈ a → Calls Tryz.prog 25 #[.int .i64 (y : Int), .pointer (some ⟨b8, 0, none⟩), .pointer (some ⟨b4, 0, none⟩), .pointer (some ⟨b9, 0, none⟩)] W' fun e w' => e = .returned (.int .i64 (h y : Int)) ∧ RowKit.Below W'.heap.size W' w') := fun W' y hs' hy => told_at hs' hk hup hu hy
  have HLO : Hid (∀ x ∈ a, h x < a.length) := hlow
  have HDN : Hid (∀ y, y ∈ nx.getD p [] → y ∈ a) := hd
  clear hs hup hu hut hno hlt hlow hd hp
  generalize ts.getD p 0 = t at *
  go_enter Tryz.func25, Tryz.ntmps25
  go_wp2_with fail
  go_quiet (fail)
  generalize hW1 : W.drewN nq = W1 at *
  have HK1 : Hid (RowKit.Below W.heap.size W W1) := by rw [← hW1]; exact below_dr _ _ _
  have HS1 : Hid (Hst w W1 k b4 tg cT ng b8 mb b9 ts nx a h) := HS.out.later HK1.out
  clear hW1 hlk hlk0 c8 c0 ct HS
  obtain ⟨pr, kr, hcr, hir⟩ := NIn.at HS1.out.rs.nin p (by omega)
  obtain ⟨row, hrow⟩ : ∃ row, nx.getD p [] = row := ⟨_, rfl⟩
  have HRW : Hid (nx.getD p [] = row) := hrow
  rw [hrow] at hcr hir HDN hrl
  clear hrow
  have c1 := HS1.out.rs.bx.c1
  have HIR : Hid (∀ W', RowKit.Below W1.heap.size W1 W' → IIn W' pr row.length (nz row)) := fun W' hb => hir.later hb
  clear hir
  go_wp2_with fail
  clear hcr c1
  go_loopw [6, 28] (fun v6 v W' => ∃ (j : Nat), v6 = .int .i64 ((hmx h (row.take j) : Nat) : Int) ∧ v = .int .i64 (j : Int) ∧ j ≤ row.length ∧ Hid (RowKit.Below W1.heap.size W1 W')) (fun v6 v _ => row.length - (intV v).toNat)
  case atStart => exact ⟨0, rfl, rfl, by omega, RowKit.Below.refl _ _⟩
  case round =>
    obtain ⟨j, rfl, rfl, hj, HB⟩ := hrel
    have HSr : Hid (Hst w wr k b4 tg cT ng b8 mb b9 ts nx a h) := HS1.out.later HB.out
    by_cases hjr : j < row.length
    · obtain ⟨rb, ro, rfl, hcs⟩ := (HIR.out wr HB.out).cells (by omega)
      have hcj := hcs j hjr
      rw [nz_getD] at hcj
      obtain ⟨htk, hmem⟩ := row_take hjr
      have HSN : Hid (hmx h (row.take (j + 1)) = max (hmx h (row.take j)) (1 + h (row.getD j 0))) := by
        show _ = _
        rw [htk, hmx_snoc]
      have hya := HDN.out _ hmem
      have hlo := HLO.out _ hya
      have HCL : Hid _ := HTO.out wr _ HSr.out hya
      have c9 := HSr.out.b9x.c
      clear hcs htk hmem
      generalize row.getD j 0 = y at *
      generalize hmx h (row.take j) = hv at *
      go_wp2_with fail
      refine Calls.mono HCL.out ?_
      rintro e w' ⟨rfl, hb'⟩
      have HB' : Hid (RowKit.Below W1.heap.size W1 w') := below_then HB.out hb'
      clear HCL hb' c9 hcj
      generalize h y = hy at *
      go_wp2_with fail
      go_roundw
      case rel => exact ⟨j + 1, by rw [HSN.out]; congr 1; omega, rfl, by omega, HB'⟩
      case measure => simp [intV]; omega
    · have HT : Hid (row.take j = row) := by show _ = _; rw [show j = row.length by omega, List.take_length]
      rw [HT.out]
      have HST := HSr.out.later (below_dr _ wr 1)
      obtain ⟨w2, hrun, hs2, hk2⟩ := HPUT.out wr.drew (hmx h row) HST
      have c8 := HSr.out.b8x.c
      have c0 := HSr.out.rs.bx.c0
      have ct : wr.cell? ⟨tg, p, none⟩ = some (.int .u64 t) := by
        have := HCT.out wr (below_then HK1.out HB.out)
        exact this
      have HS2 : Hid (Hst w w2 k b4 tg cT ng b8 mb b9 ts nx (a ++ [p]) (fun x => if x = p then hmx h row else h x)) := hs2
      have HK2 : Hid (Kept (· = mb) W w2) := (Kept.of_below _ ((below_then HK1.out HB.out).trans (below_dr _ wr 1))).trans hk2 fun _ _ h => h
      clear HST hs2 hk2
      obtain ⟨hv, ehv⟩ : ∃ hv, hv = hmx h row := ⟨_, rfl⟩
      rw [← ehv] at hrun ⊢
      clear ehv
      go_wp2_with fail
      go_region
      all_goals
        go_wp2_with fail
        go_ret
        exact ⟨_, rfl, by rw [HRW.out]; exact HS2.out, HK2.out⟩
theorem run_store_func {P : Program} {w : World} {a : Addr} {m : Mode} (f : Fn) (fs cs : Array Value) : (store a (.func f fs cs) m).run P w = stored P w a (.func f fs cs) m := run_store P w a _ m rfl
attribute [local go_sem] run_store_func
theorem makeH (w : World) (n : Nat) : (Instr.makeMap 34 (some (.int .i64 (n : Int)))).run Tryz.prog w = .ok (.map (some w.heap.size)) (w.alloc (.map #[] 0)) := by
  simp [Instr.makeMap, run_underlying Tryz.underlying34, asInt, asIntOf, Result.andThen]
set_option maxHeartbeats 2000000 in
set_option maxRecDepth 100000 in
theorem heights_at {w : World} {p : Option Addr} {n c : Nat} {es : List Eg} (hE : EIn w p n es) (hz : n ≤ 4500) (hw : ∀ e ∈ es, UW e.f ∧ UW e.t) :
    Calls Tryz.prog 9 #[.slice p n c] w fun e w' => RowKit.Below w.heap.size w w' ∧ ∃ (ts : List Int) (nx : List (List Nat)), GIs (egs es) ts nx ∧ ts.length ≤ 9000 ∧
      ((e = .returned (.tuple #[.map none, .int .i64 2]) ∧ ∃ x, OnR (Ed nx) x) ∨ ((∀ x, ¬ OnR (Ed nx) x) ∧ ∃ mb o h, e = .returned (.tuple #[.map (some mb), .int .i64 0]) ∧ w.heap.size ≤ mb ∧ Stl (Ed nx) ts.length o ∧ Hok (Ed nx) o h ∧ VMp zero64 w' mb o.length o.length (hmp ts o h))) := by
  go_enter Tryz.func9, Tryz.ntmps9
  go_wp2_with fail
  refine (graphOf_at hE hz).mono ?_
  rintro e w1 ⟨tg, cT, ng, ts, nx, rfl, hb1, hGI, hk9, hT1, hN1⟩
  obtain ⟨k, hk⟩ : ∃ k, ts.length = k := ⟨_, rfl⟩
  rw [hk] at hT1 hN1 hk9 ⊢
  have HGI : Hid (GIs (egs es) ts nx) := hGI
  have HK : Hid (ts.length = k) := hk
  have HGL : Hid (nx.length = k ∧ (∀ i v, v ∈ nx.getD i [] → v < k) ∧ (∀ i, (nx.getD i []).Nodup) ∧ (k ≤ 9000 → ∀ i, (nx.getD i []).length ≤ 9000)) := hGI.len2 hk
  have HUW : Hid (∀ t ∈ ts, UW t) := fun t ht => by
    obtain ⟨e, he, h1⟩ := (hGI.mem t).1 ht
    obtain ⟨x, hx, rfl⟩ := List.mem_map.1 he
    rcases h1 with rfl | rfl
    · exact (hw x hx).1
    · exact (hw x hx).2
  have HST0 : Hid (Rst w (w1.alloc (Obj.cells #[Value.slice (some ⟨tg, 0, none⟩) k cT, Value.slice (some ⟨ng, 0, none⟩) k k] 70)) k w1.heap.size tg cT ng ts nx) := {
    bel := below_then hb1 (below_alloc _ _)
    bx := GBx.new w1 _ _
    tk := O.own_later hT1 (below_alloc _ _)
    nin := hN1.later (below_alloc _ _) }
  clear hb1 hGI hT1 hN1 hk hE hw
  go_upto_region 2 with fail
  generalize w1.alloc (Obj.cells #[Value.slice (some ⟨tg, 0, none⟩) k cT, Value.slice (some ⟨ng, 0, none⟩) k k] 70) = W1 at HST0 ⊢
  generalize w1.heap.size = b4 at *
  have c0 := HST0.out.bx.c0
  have c1 := HST0.out.bx.c1
  go_wp2_with fail
  clear c0 c1
  refine (settled_at HGL.out.1 hk9 HST0.out.nin HGL.out.2.1 (HGL.out.2.2.2 hk9)).mono ?_
  rintro e w2 ⟨po, co, o, rfl, hOr, bn, hStl⟩
  have HST : Hid (Rst w w2 k b4 tg cT ng ts nx) := HST0.out.later bn
  have HSL : Hid (Stl (Ed nx) k o) := hStl
  have HOO : Hid (w2.ownsRow W1.heap.size 3 1 (.slice po o.length co) o.length (I64 (nz o))) := hOr
  have hb4 : b4 < W1.heap.size := HST0.out.bx.lt
  clear hStl hOr bn HST0
  have c0 := HST.out.bx.c0
  have c1 := HST.out.bx.c1
  go_wp2_with fail
  clear c0 c1
  refine (leastOnRing_two HGL.out.1 hk9 HST.out.nin HGL.out.2.1 HGL.out.2.2.1 rfl (own_iin HOO.out) HSL.out).mono ?_
  rintro e w3 ⟨bn, m, bb, rfl, hM⟩
  have HST3 : Hid (Rst w w3 k b4 tg cT ng ts nx) := HST.out.later bn
  have HOO3 : Hid (w3.ownsRow W1.heap.size 3 1 (.slice po o.length co) o.length (I64 (nz o))) := O.own_later HOO.out bn
  cases bb with
  | true =>
    have HN : Hid (∃ x, OnR (Ed nx) x) := by
      rcases hM with h | h
      · cases h.1
      · exact ⟨m, h.2.2.1⟩
    clear hM bn HST HOO
    go_wp2_with fail
    go_ret2
    exact ⟨HST3.out.bel, ts, nx, HGI.out, by have := HK.out; omega, .inl ⟨rfl, HN.out⟩⟩
  | false =>
    have HN : Hid (∀ x, ¬ OnR (Ed nx) x) := by
      rcases hM with h | h
      · exact h.2
      · cases h.1
    clear hM bn HST HOO
    have hmk := fun w => makeH w k
    have c0 := HST3.out.bx.c0
    go_upto_region 8 with fail
    clear hmk c0
    obtain ⟨W4, eW4⟩ : ∃ W4, ((w3.alloc (Obj.map #[] 0)).alloc (Obj.cells #[Value.map (some w3.heap.size)] 34)).alloc (Obj.cells #[Value.nilFunc] 76) = W4 := ⟨_, rfl⟩
    have hs1 : (w3.alloc (Obj.map #[] 0)).heap.size = w3.heap.size + 1 := by simp
    have hs2 : ((w3.alloc (Obj.map #[] 0)).alloc (Obj.cells #[Value.map (some w3.heap.size)] 34)).heap.size = w3.heap.size + 1 + 1 := by simp
    have hb4' : RowKit.Below w3.heap.size w3 W4 := by rw [← eW4]; exact below_then (below_then (below_alloc w3 _) (below_alloc _ _)) (below_alloc _ _)
    have hm4 : VMp zero64 W4 w3.heap.size 0 0 (fun _ => none) := by rw [← eW4]; exact ((VMp.made zero64 w3).later (below_alloc _ _)).later (below_alloc _ _)
    have h8 : VBx W4 (w3.heap.size + 1) (.map (some w3.heap.size)) 34 := by
      rw [← eW4]
      have := (VBx.new (w3.alloc (Obj.map #[] 0)) (.map (some w3.heap.size)) 34).later (below_alloc _ (Obj.cells #[Value.nilFunc] 76))
      rw [hs1] at this
      exact this
    have h9 : VBx W4 (w3.heap.size + 1 + 1) .nilFunc 76 := by
      rw [← eW4]
      have := VBx.new ((w3.alloc (Obj.map #[] 0)).alloc (Obj.cells #[Value.map (some w3.heap.size)] 34)) .nilFunc 76
      rw [hs2] at this
      exact this
    rw [eW4]
    clear eW4 hs1 hs2
    obtain ⟨mb, emb⟩ : ∃ mb, w3.heap.size = mb := ⟨_, rfl⟩
    have HO4 : Hid (W4.ownsRow W1.heap.size 3 1 (.slice po o.length co) o.length (I64 (nz o)) ∧ ∀ g, (Value.slice po o.length co).ownBlock = some g → g < mb) := ⟨O.own_later HOO3.out hb4', fun g hg => by rw [← emb]; exact (HOO3.out.lt g hg).2⟩
    have HR4 : Hid (Rst w W4 k b4 tg cT ng ts nx) := HST3.out.later hb4'
    have hbm : b4 < mb := by rw [← emb]; exact HST3.out.bx.lt
    have hwm : w.heap.size ≤ mb := by rw [← emb]; exact HST3.out.bel.size
    rw [emb] at hm4 h8 h9 ⊢
    clear hb4' emb HST3 HOO3
    have c9 := h9.c
    have f9 := h9.f
    have HH0 : Hid (Hst w (W4.setCell ⟨mb + 1 + 1, 0, none⟩ (hgtV (mb + 1) b4 (mb + 1 + 1))) k b4 tg cT ng (mb + 1) mb (mb + 1 + 1) ts nx [] (fun _ => 0)) := by
      have hk : Kept (· = mb + 1 + 1) W4 (W4.setCell ⟨mb + 1 + 1, 0, none⟩ (hgtV (mb + 1) b4 (mb + 1 + 1))) := Kept.setCell _ 0 _
      exact {
        rs := {
          bel := hk.into HR4.out.bel (fun b hb e => by omega) (Nat.le_refl _)
          bx := HR4.out.bx.far hk (by omega)
          tk := O.own_far HR4.out.tk hk fun b hb e => O.own_not HR4.out.tk h9 (by decide) (by rw [← e]; exact hb)
          nin := HR4.out.nin.far hk fun b hb e => by omega }
        b8x := h8.far hk (by omega)
        b9x := h9.put _
        mp := hm4.far hk (by omega)
        lt := fun x hx => by simp at hx
        d1 := ⟨by omega, by omega, by omega, hbm⟩
        lm := hwm }
    have HO5 : Hid ((W4.setCell ⟨mb + 1 + 1, 0, none⟩ (hgtV (mb + 1) b4 (mb + 1 + 1))).ownsRow W1.heap.size 3 1 (.slice po o.length co) o.length (I64 (nz o))) := O.own_far HO4.out.1 (Kept.setCell _ 0 _) fun b hb e => by have := HO4.out.2 b hb; omega
    clear hm4 h8 h9 HR4
    go_wp2_with fail
    clear c9 f9
    generalize (W4.setCell ⟨mb + 1 + 1, 0, none⟩ (hgtV (mb + 1) b4 (mb + 1 + 1))) = W5 at HH0 HO5 ⊢
    have hol : o.length ≤ 9000 := by
      have := nodup_lt (n := k) HSL.out.nd fun x hx => (HSL.out.all x).1 hx
      omega
    go_loopw [30] (fun v W => ∃ (j : Nat) (h : Nat → Nat), v = .int .i64 (j : Int) ∧ j ≤ o.length ∧ Hid (Hst w W k b4 tg cT ng (mb + 1) mb (mb + 1 + 1) ts nx (o.take j) h) ∧ Hid (Hok (Ed nx) (o.take j) h) ∧ Hid (W.ownsRow W1.heap.size 3 1 (.slice po o.length co) o.length (I64 (nz o)))) (fun v _ => o.length - (intV v).toNat)
    case atStart => exact ⟨0, fun _ => 0, rfl, by omega, by simpa using HH0, Hok.start, HO5⟩
    case round =>
      obtain ⟨j, h, rfl, hj, HHj, HOK, HOj⟩ := hrel
      by_cases hjo : j < o.length
      · obtain ⟨og, oc, eo, -⟩ := O.own_some HOj.out (by omega)
        cases eo
        have hcj : wr.cell? ⟨og, j, none⟩ = some (.int .i64 ((o.getD j 0 : Nat) : Int)) := O.own_cell HOj.out (nzI_get hjo)
        obtain ⟨htk, hmem⟩ := row_take hjo
        have hpk : o.getD j 0 < k := (HSL.out.all _).1 hmem
        have hgd : o.getD j 0 = o[j] := by simp [List.getD, List.getElem?_eq_getElem hjo]
        have hsplit : o = o.take j ++ o.getD j 0 :: o.drop (j + 1) := by
          rw [hgd, List.getElem_cons_drop hjo, List.take_append_drop]
        have hpn : o.getD j 0 ∉ o.take j := fun hc => by
          have := HSL.out.nd
          rw [hsplit] at this
          exact (List.nodup_append.1 this).2.2 _ hc _ (by simp) rfl
        have hdn : ∀ y, Ed nx (o.getD j 0) y → y ∈ o.take j := fun y hy => HSL.out.down HN.out hsplit hy
        have hlow : ∀ x ∈ o.take j, h x < (o.take j).length := HOK.out.low
        have HCL : Hid _ := fresh_at HHj.out HK.out HGL.out.1 (HGL.out.2.2.2 hk9 _) HGI.out.up HUW.out hpk hpn hdn hlow (by rw [List.length_take]; omega)
        have HOK2 : Hid (Hok (Ed nx) (o.take (j + 1)) (fun x => if x = o.getD j 0 then hmx h (nx.getD (o.getD j 0) []) else h x)) := by
          show Hok _ _ _
          rw [htk]; exact HOK.out.step hpn hdn
        have HTK : Hid (o.take (j + 1) = o.take j ++ [o.getD j 0]) := htk
        have c9 := HHj.out.b9x.c
        clear htk hmem hsplit hpn hdn hlow hgd
        generalize o.getD j 0 = x at *
        go_wp2_with fail
        refine Calls.mono HCL.out ?_
        rintro e w' ⟨v, rfl, hs', hk'⟩
        have HH' : Hid (Hst w w' k b4 tg cT ng (mb + 1) mb (mb + 1 + 1) ts nx (o.take j ++ [x]) (fun y => if y = x then hmx h (nx.getD x []) else h y)) := hs'
        have HO' : Hid (w'.ownsRow W1.heap.size 3 1 (.slice (some ⟨og, 0, none⟩) o.length co) o.length (I64 (nz o))) := O.own_far HOj.out hk' fun b hb e => by have := HO4.out.2 b hb; omega
        clear HCL hs' hk' c9 hcj
        go_wp2_with fail
        go_roundw
        case rel => exact ⟨j + 1, _, rfl, by omega, by rw [HTK.out]; exact HH', HOK2, HO'⟩
        case measure => simp [intV]; omega
      · have HT : Hid (o.take j = o) := by show _ = _; rw [show j = o.length by omega, List.take_length]
        rw [HT.out] at HHj HOK
        have c8 := HHj.out.b8x.c
        go_wp2_with fail
        go_ret2
        refine ⟨HHj.out.rs.bel, ts, nx, HGI.out, by have := HK.out; omega, .inr ⟨HN.out, mb, o, h, rfl, HHj.out.lm, ?_, HOK.out, HHj.out.mp⟩⟩
        rw [HK.out]; exact HSL.out
end Go.Proofs.YtkgjmejpbklabaaGreat
namespace Go.Proofs.YtkgjmejpbklabaaGreat
open Go.RowKit
theorem GIs.ts_is {es : List (Int × Int)} {ts : List Int} {nx : List (List Nat)} (h : GIs es ts nx) {l : List Int} (hl : l.Pairwise (· < ·)) (hm : ∀ x, x ∈ l ↔ ∃ e ∈ es, x = e.1 ∨ x = e.2) : ts = l := up_one h.up hl fun x => by rw [h.mem, hm]
theorem at_iff {ts : List Int} (h : ts.Pairwise (· < ·)) {i j : Nat} {x : Int} (hj : ts[j]? = some x) : ts[i]? = some x ↔ i = j := ⟨fun hi => up_at h hi hj, fun e => by rw [e]; exact hj⟩
def es3 : List Eg := [⟨1, 2, 0, 0⟩, ⟨2, 3, 0, 0⟩, ⟨3, 1, 0, 0⟩, ⟨5, 1, 0, 0⟩]
def es5 : List Eg := [⟨1, 5, 0, 0⟩, ⟨5, 2, 0, 0⟩, ⟨5, 9, 0, 0⟩, ⟨2, 5, 0, 0⟩, ⟨9, 1, 0, 0⟩]
theorem ring3 {ts : List Int} {nx : List (List Nat)} {l : List Nat} (h : GIs (egs es3) ts nx) (hr : RingIs (Ed nx) l) : tks ts l = [1, 2, 3] := by
  have hts : ts = [1, 2, 3, 5] := h.ts_is (by decide) (fun x => by simp [egs, es3, Eg.pr]; omega)
  subst hts
  have hE : ∀ u v, Ed nx u v ↔ ((u = 0 ∧ v = 1) ∨ (u = 1 ∧ v = 2) ∨ (u = 2 ∧ v = 0) ∨ (u = 3 ∧ v = 0)) := fun u v => by
    have a1 := fun i => at_iff h.up (i := i) (j := 0) (x := 1) rfl
    have a2 := fun i => at_iff h.up (i := i) (j := 1) (x := 2) rfl
    have a3 := fun i => at_iff h.up (i := i) (j := 2) (x := 3) rfl
    have a5 := fun i => at_iff h.up (i := i) (j := 3) (x := 5) rfl
    unfold Ed
    rw [h.ed]
    simp only [egs, es3, Eg.pr, List.map_cons, List.map_nil, List.mem_cons, List.not_mem_nil, or_false]
    constructor
    · rintro ⟨e, rfl | rfl | rfl | rfl, h1, h2⟩
      · exact .inl ⟨(a1 _).1 h1, (a2 _).1 h2⟩
      · exact .inr (.inl ⟨(a2 _).1 h1, (a3 _).1 h2⟩)
      · exact .inr (.inr (.inl ⟨(a3 _).1 h1, (a1 _).1 h2⟩))
      · exact .inr (.inr (.inr ⟨(a5 _).1 h1, (a1 _).1 h2⟩))
    · rintro (⟨rfl, rfl⟩ | ⟨rfl, rfl⟩ | ⟨rfl, rfl⟩ | ⟨rfl, rfl⟩)
      · exact ⟨(1, 2), .inl rfl, rfl, rfl⟩
      · exact ⟨(2, 3), .inr (.inl rfl), rfl, rfl⟩
      · exact ⟨(3, 1), .inr (.inr (.inl rfl)), rfl, rfl⟩
      · exact ⟨(5, 1), .inr (.inr (.inr rfl)), rfl, rfl⟩
  have hp : Pt (Ed nx) 3 0 0 := ⟨1, (hE _ _).2 (by omega), 2, (hE _ _).2 (by omega), 0, (hE _ _).2 (by omega), rfl⟩
  have hq : RingIs (Ed nx) [0, 1, 2] := by
    refine .inr ⟨0, 3, ⟨2, hp⟩, fun x _ => Nat.zero_le _, ⟨by omega, hp, fun j h0 hj hw => ?_⟩, [1, 2], rfl, 1, ⟨(hE _ _).2 (by omega), ⟨2, (hE _ _).2 (by omega), 0, (hE _ _).2 (by omega), rfl⟩, fun z hz _ => ?_⟩, [2], rfl, 2, ⟨(hE _ _).2 (by omega), ⟨0, (hE _ _).2 (by omega), rfl⟩, fun z hz _ => ?_⟩, [], rfl, 0, ⟨(hE _ _).2 (by omega), rfl, fun z _ _ => Nat.zero_le _⟩, rfl⟩
    · have : j = 1 ∨ j = 2 := by omega
      rcases this with rfl | rfl
      · obtain ⟨x, h1, h2⟩ := hw
        have h2 : x = 0 := h2
        have := (hE _ _).1 h1; omega
      · obtain ⟨x, h1, y, h2, h3⟩ := hw
        have h3 : y = 0 := h3
        have := (hE _ _).1 h1; have := (hE _ _).1 h2; omega
    · have := (hE _ _).1 hz; omega
    · have := (hE _ _).1 hz; omega
  rw [hr.one hq]
  rfl
theorem ring5 {ts : List Int} {nx : List (List Nat)} {l : List Nat} (h : GIs (egs es5) ts nx) (hr : RingIs (Ed nx) l) : tks ts l = [1, 5, 9] := by
  have hts : ts = [1, 2, 5, 9] := h.ts_is (by decide) (fun x => by simp [egs, es5, Eg.pr]; omega)
  subst hts
  have hE : ∀ u v, Ed nx u v ↔ ((u = 0 ∧ v = 2) ∨ (u = 2 ∧ v = 1) ∨ (u = 2 ∧ v = 3) ∨ (u = 1 ∧ v = 2) ∨ (u = 3 ∧ v = 0)) := fun u v => by
    have a1 := fun i => at_iff h.up (i := i) (j := 0) (x := 1) rfl
    have a2 := fun i => at_iff h.up (i := i) (j := 1) (x := 2) rfl
    have a5 := fun i => at_iff h.up (i := i) (j := 2) (x := 5) rfl
    have a9 := fun i => at_iff h.up (i := i) (j := 3) (x := 9) rfl
    unfold Ed
    rw [h.ed]
    simp only [egs, es5, Eg.pr, List.map_cons, List.map_nil, List.mem_cons, List.not_mem_nil, or_false]
    constructor
    · rintro ⟨e, rfl | rfl | rfl | rfl | rfl, h1, h2⟩
      · exact .inl ⟨(a1 _).1 h1, (a5 _).1 h2⟩
      · exact .inr (.inl ⟨(a5 _).1 h1, (a2 _).1 h2⟩)
      · exact .inr (.inr (.inl ⟨(a5 _).1 h1, (a9 _).1 h2⟩))
      · exact .inr (.inr (.inr (.inl ⟨(a2 _).1 h1, (a5 _).1 h2⟩)))
      · exact .inr (.inr (.inr (.inr ⟨(a9 _).1 h1, (a1 _).1 h2⟩)))
    · rintro (⟨rfl, rfl⟩ | ⟨rfl, rfl⟩ | ⟨rfl, rfl⟩ | ⟨rfl, rfl⟩ | ⟨rfl, rfl⟩)
      · exact ⟨(1, 5), .inl rfl, rfl, rfl⟩
      · exact ⟨(5, 2), .inr (.inl rfl), rfl, rfl⟩
      · exact ⟨(5, 9), .inr (.inr (.inl rfl)), rfl, rfl⟩
      · exact ⟨(2, 5), .inr (.inr (.inr (.inl rfl))), rfl, rfl⟩
      · exact ⟨(9, 1), .inr (.inr (.inr (.inr rfl))), rfl, rfl⟩
  have hp : Pt (Ed nx) 3 0 0 := ⟨2, (hE _ _).2 (by omega), 3, (hE _ _).2 (by omega), 0, (hE _ _).2 (by omega), rfl⟩
  have hq : RingIs (Ed nx) [0, 2, 3] := by
    refine .inr ⟨0, 3, ⟨2, hp⟩, fun x _ => Nat.zero_le _, ⟨by omega, hp, fun j h0 hj hw => ?_⟩, [2, 3], rfl, 2, ⟨(hE _ _).2 (by omega), ⟨3, (hE _ _).2 (by omega), 0, (hE _ _).2 (by omega), rfl⟩, fun z hz _ => ?_⟩, [3], rfl, 3, ⟨(hE _ _).2 (by omega), ⟨0, (hE _ _).2 (by omega), rfl⟩, fun z hz hw => ?_⟩, [], rfl, 0, ⟨(hE _ _).2 (by omega), rfl, fun z _ _ => Nat.zero_le _⟩, rfl⟩
    · have : j = 1 ∨ j = 2 := by omega
      rcases this with rfl | rfl
      · obtain ⟨x, h1, h2⟩ := hw
        have h2 : x = 0 := h2
        have := (hE _ _).1 h1; omega
      · obtain ⟨x, h1, y, h2, h3⟩ := hw
        have h3 : y = 0 := h3
        have := (hE _ _).1 h1; have := (hE _ _).1 h2; omega
    · have := (hE _ _).1 hz; omega
    · obtain ⟨y, h1, h2⟩ := hw
      have h2 : y = 0 := h2
      have := (hE _ _).1 hz; have := (hE _ _).1 h1; omega
  rw [hr.one hq]
  rfl
theorem es_made (w : World) (es : List Eg) (n : Nat) (hl : es.length = n) (hn : n ≤ 9000) : EIn (w.alloc (.cells (ecs es).toArray 46)) (some ⟨w.heap.size, 0, none⟩) n es := EIn.of_own (base := 0) (c := n) (O.own_made w 46 4 (ecs es) (by rw [ecs_len, hl]) (by omega) (Nat.zero_le _))
theorem us_made (w : World) (xs : List Int) (n : Nat) (hl : xs.length = n) (hn : n ≤ 9000) : UIn (w.alloc (.cells (U64 xs).toArray 44)) (some ⟨w.heap.size, 0, none⟩) n xs := uin_of_own (base := 0) (c := n) (O.own_made w 44 1 (U64 xs) (by simp [U64, hl]) (by omega) (Nat.zero_le _))
set_option maxHeartbeats 2000000 in
set_option maxRecDepth 100000 in
theorem awake_at (w : World) : Calls Tryz.prog 12 #[] w fun e w' => e = .returned (.bool true) ∧ RowKit.Below w.heap.size w w' := by
  obtain ⟨w1, e1⟩ : ∃ w1, w.alloc (.cells (ecs es3).toArray 46) = w1 := ⟨_, rfl⟩
  obtain ⟨w2, e2⟩ : ∃ w2, w1.alloc (.cells (ecs es5).toArray 46) = w2 := ⟨_, rfl⟩
  have H3 : Hid (EIn w2 (some ⟨w.heap.size, 0, none⟩) 4 es3) := by
    have := (es_made w es3 4 rfl (by omega)).later (below_alloc _ (.cells (ecs es5).toArray 46))
    rw [e1, e2] at this
    exact this
  have H5 : Hid (EIn w2 (some ⟨w.heap.size + 1, 0, none⟩) 5 es5) := by
    have := es_made w1 es5 5 rfl (by omega)
    rw [e2, ← e1, World.size_alloc] at this
    exact this
  have HB : Hid (RowKit.Below w.heap.size w w2) := by rw [← e2, ← e1]; exact below_then (below_alloc w _) (below_alloc _ _)
  have HW : Hid (w2 = (w.alloc (.cells (ecs es3).toArray 46)).alloc (.cells (ecs es5).toArray 46)) := by rw [e1, e2]; rfl
  clear e1 e2
  go_enter Tryz.func12, Tryz.ntmps12
  go_upto_region 3 with fail
  show Code.wp _ _ _ _ ((w.alloc (.cells (ecs es3).toArray 46)).alloc (.cells (ecs es5).toArray 46))
  rw [← HW.out]
  clear HW
  go_wp2_with fail
  refine (ring_at H3.out (by omega)).mono ?_
  rintro e w3 ⟨q3, c3, l3, ts, nx, rfl, ho, hb, hg, hr⟩
  have e3 := ring3 hg hr
  have hl3 : l3.length = 3 := by have := congrArg List.length e3; simpa [tks] using this
  rw [e3, hl3] at ho
  rw [hl3]
  have HU3 : Hid (UIn (w3.alloc (.cells (U64 [1, 2, 3]).toArray 44)) q3 3 [1, 2, 3] ∧ UIn (w3.alloc (.cells (U64 [1, 2, 3]).toArray 44)) (some ⟨w3.heap.size, 0, none⟩) 3 [1, 2, 3]) := ⟨(uin_of_own ho).later (below_alloc _ _), us_made w3 [1, 2, 3] 3 rfl (by omega)⟩
  have HB3 : Hid (RowKit.Below w.heap.size w w3) := below_then HB.out hb
  have H53 : Hid (EIn (w3.alloc (.cells (U64 [1, 2, 3]).toArray 44)) (some ⟨w.heap.size + 1, 0, none⟩) 5 es5) := (H5.out.later hb).later (below_alloc _ _)
  clear ho hb hg hr e3 hl3 H3 H5
  go_wp2_with fail
  refine (same_is HU3.out.1 HU3.out.2 (by omega) rfl).mono ?_
  rintro e w4 ⟨rfl, k4, hw4⟩
  have HB4 : Hid (RowKit.Below w.heap.size w w4) := by rw [hw4]; exact (below_then HB3.out (below_alloc _ _)).trans (below_dr _ _ k4)
  have H54 : Hid (EIn w4 (some ⟨w.heap.size + 1, 0, none⟩) 5 es5) := by rw [hw4]; exact H53.out.later (below_dr _ _ k4)
  clear hw4 HU3 HB3 H53
  go_wp2_with fail
  refine (ring_at H54.out (by omega)).mono ?_
  rintro e w5 ⟨q5, c5, l5, ts5, nx5, rfl, ho, hb, hg, hr⟩
  have e5 := ring5 hg hr
  have hl5 : l5.length = 3 := by have := congrArg List.length e5; simpa [tks] using this
  rw [e5, hl5] at ho
  rw [hl5]
  have HU5 : Hid (UIn (w5.alloc (.cells (U64 [1, 5, 9]).toArray 44)) q5 3 [1, 5, 9] ∧ UIn (w5.alloc (.cells (U64 [1, 5, 9]).toArray 44)) (some ⟨w5.heap.size, 0, none⟩) 3 [1, 5, 9]) := ⟨(uin_of_own ho).later (below_alloc _ _), us_made w5 [1, 5, 9] 3 rfl (by omega)⟩
  have HB5 : Hid (RowKit.Below w.heap.size w w5) := below_then HB4.out hb
  clear ho hb hg hr e5 hl5 H54 HB4
  go_wp2_with fail
  refine (same_is HU5.out.1 HU5.out.2 (by omega) rfl).mono ?_
  rintro e w6 ⟨rfl, k6, hw6⟩
  have HB6 : Hid (RowKit.Below w.heap.size w w6) := by rw [hw6]; exact (below_then HB5.out (below_alloc _ _)).trans (below_dr _ _ k6)
  clear hw6 HU5 HB5
  have HE7 : Hid (EIn ((w6.alloc (.cells (ecs [⟨3, 2, 0, 0⟩]).toArray 46)).alloc (.cells (U64 [3, 2, 9]).toArray 44)) (some ⟨w6.heap.size, 0, none⟩) 1 [⟨3, 2, 0, 0⟩]) := (es_made w6 [⟨3, 2, 0, 0⟩] 1 rfl (by omega)).later (below_alloc _ _)
  have HU7 : Hid (UIn ((w6.alloc (.cells (ecs [⟨3, 2, 0, 0⟩]).toArray 46)).alloc (.cells (U64 [3, 2, 9]).toArray 44)) (some ⟨w6.heap.size + 1, 0, none⟩) 3 [3, 2, 9]) := by
    have := us_made (w6.alloc (.cells (ecs [⟨3, 2, 0, 0⟩]).toArray 46)) [3, 2, 9] 3 rfl (by omega)
    rw [World.size_alloc] at this
    exact this
  go_wp2_with fail
  refine (free_at HE7.out (by omega) (fun e he => by simp at he; subst he; decide) HU7.out (by omega) (fun t ht => by simp at ht; rcases ht with rfl | rfl | rfl <;> decide)).mono ?_
  rintro e w8 ⟨q8, c8, rfl, ho, hb⟩
  have hf : freS [⟨3, 2, 0, 0⟩] [3, 2, 9] = [2, 9] := by decide
  rw [hf] at ho ⊢
  have HB8 : Hid (RowKit.Below w.heap.size w w8) := below_then (below_then (below_then HB6.out (below_alloc _ _)) (below_alloc _ _)) hb
  have HU8 : Hid (UIn (w8.alloc (.cells (U64 [2, 9]).toArray 44)) q8 2 [2, 9] ∧ UIn (w8.alloc (.cells (U64 [2, 9]).toArray 44)) (some ⟨w8.heap.size, 0, none⟩) 2 [2, 9]) := ⟨(uin_of_own ho).later (below_alloc _ _), us_made w8 [2, 9] 2 rfl (by omega)⟩
  clear ho hb hf HE7 HU7
  go_wp2_with fail
  refine (same_is HU8.out.1 HU8.out.2 (by omega) rfl).mono ?_
  rintro e w9 ⟨rfl, k9, hw9⟩
  have HB9 : Hid (RowKit.Below w.heap.size w w9) := by rw [hw9]; exact (below_then HB8.out (below_alloc _ _)).trans (below_dr _ _ k9)
  clear hw9 HU8 HB8
  go_wp2_with fail
  go_ret
  exact ⟨rfl, HB9.out⟩
end Go.Proofs.YtkgjmejpbklabaaGreat
namespace Go.Proofs.YtkgjmejpbklabaaGreat
open Go.RowKit
set_option maxHeartbeats 2000000 in
set_option maxRecDepth 100000 in
theorem sameE_is {w : World} {p q : Option Addr} {n c d : Nat} {es : List Eg} (h1 : EIn w p n es) (h2 : EIn w q n es) (hn : n ≤ 10000) :
    Calls Tryz.prog 19 #[.slice p n c, .slice q n d] w fun e w' => e = .returned (.bool true) ∧ ∃ k, w' = w.drewN k := by
  have H1 : Hid (EIn w p n es) := h1
  have H2 : Hid (EIn w q n es) := h2
  clear h1 h2
  go_enter Tryz.func19, Tryz.ntmps19
  go_wp2_with fail
  go_loopw [13] (fun v W => ∃ (j k : Nat), v = .int .i64 (j : Int) ∧ j ≤ n ∧ Hid (W = w.drewN k)) (fun v _ => n - (intV v).toNat)
  case atStart => exact ⟨0, 0, rfl, by omega, rfl⟩
  case round =>
    obtain ⟨j, k, rfl, hj, HW⟩ := hrel
    by_cases hjn : j < n
    · obtain ⟨b1, o1, rfl, c1⟩ := H1.out.cells (by omega)
      obtain ⟨b2, o2, rfl, c2⟩ := H2.out.cells (by omega)
      obtain ⟨x1, x2, x3, x4⟩ := c1 j hjn
      obtain ⟨y1, y2, y3, y4⟩ := c2 j hjn
      have x1 : wr.cell? ⟨b1, o1 + j * 4, none⟩ = some (.int .u64 (es.getD j noEg).f) := by rw [HW.out]; exact x1
      have x2 : wr.cell? ⟨b1, o1 + j * 4 + 1, none⟩ = some (.int .u64 (es.getD j noEg).t) := by rw [HW.out]; exact x2
      have x3 : wr.cell? ⟨b1, o1 + j * 4 + 2, none⟩ = some (.int .i64 (es.getD j noEg).y) := by rw [HW.out]; exact x3
      have x4 : wr.cell? ⟨b1, o1 + j * 4 + 3, none⟩ = some (.int .i64 (es.getD j noEg).b) := by rw [HW.out]; exact x4
      have y1 : wr.cell? ⟨b2, o2 + j * 4, none⟩ = some (.int .u64 (es.getD j noEg).f) := by rw [HW.out]; exact y1
      have y2 : wr.cell? ⟨b2, o2 + j * 4 + 1, none⟩ = some (.int .u64 (es.getD j noEg).t) := by rw [HW.out]; exact y2
      have y3 : wr.cell? ⟨b2, o2 + j * 4 + 2, none⟩ = some (.int .i64 (es.getD j noEg).y) := by rw [HW.out]; exact y3
      have y4 : wr.cell? ⟨b2, o2 + j * 4 + 3, none⟩ = some (.int .i64 (es.getD j noEg).b) := by rw [HW.out]; exact y4
      clear c1 c2
      generalize es.getD j noEg = ed at *
      obtain ⟨ef, et, ey, ebk⟩ := ed
      simp only at x1 x2 x3 x4 y1 y2 y3 y4
      go_wp2_with fail
      go_quiet (fail)
      go_wp2_with fail
      go_roundw
      case rel => exact ⟨j + 1, k + nq, rfl, by omega, by show _ = _; rw [HW.out]; simp [World.drewN, Nat.add_assoc]⟩
      case measure => simp [intV]; omega
    · go_wp2_with fail
      go_ret
      exact ⟨rfl, k, HW.out⟩
end Go.Proofs.YtkgjmejpbklabaaGreat
