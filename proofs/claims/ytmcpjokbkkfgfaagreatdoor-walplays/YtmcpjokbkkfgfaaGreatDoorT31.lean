/-
  Layer 9: appends: Image.
-/
import Derived.Test.YtmcpjokbkkfgfaaGreatDoorT30
import Derived.Test.YtmcpjokbkkfgfaaGreatDoorT13
import Derived.Test.YtmcpjokbkkfgfaaGreatDoorT14
import Derived.Test.YtmcpjokbkkfgfaaGreatDoorT22
import Derived.Test.YtmcpjokbkkfgfaaGreatDoorT23
import Derived.Test.YtmcpjokbkkfgfaaGreatDoorT24
import Derived.Test.YtmcpjokbkkfgfaaGreatDoorT26
import Derived.BigQuiet
import Derived.Test.YtmcpjokbkkfgfaaGreatDoorT17
namespace Go.Proofs.YtmcpjokbkkfgfaaGreatDoor
open Go.RowKit


theorem len_snoc {ws : List Wr} {x : Wr} {k : Nat} (h : ws.length ≤ k) : (ws ++ [x]).length ≤ k + 1 := by rw [List.length_append]; simp only [List.length_cons, List.length_nil]; omega
abbrev imgSd (s : Sd) (b : Int) (v : List Int) : Sd := ⟨s.d, s.ws ++ [⟨(secN s.g s.g.fin).toNat, R.encS (imgR s.g b v)⟩], imgG s.g b⟩
abbrev comSd (s : Sd) : Sd := ⟨s.d, s.ws ++ [⟨(secN s.g s.g.fin).toNat, R.encS (comR s.g)⟩], comG s.g⟩
abbrev mkSd (s : Sd) (pos : Int) : Sd := ⟨s.d, s.ws ++ [⟨0, encS (supL s.g pos)⟩], mkG s.g pos⟩
set_option maxHeartbeats 1000000 in
set_option maxRecDepth 100000 in
theorem app_img {w : World} {B P M k i : Nat} (h : Sq w B P M k) (hi : i < M) (hk : k ≤ 1000) (wh b : Int) (v : List Int) (hv : v.length = 32) (_hvb : Bytes v) (pos : Int) (keep data : Value) :
    Calls Tryz.prog 26 #[.pointer (some ⟨P, 0, none⟩), .int .i64 i, .agg (ocells 1 wh b v pos keep data).toArray] w fun r w' => r = .returned (.bool true) ∧ Sq w' B P M (k + 1) ∧ Below B w w' := by
  obtain ⟨⟨R, L, x, K, y, e, bo, hW, hl, hB⟩, ht, hb1⟩ := h
  have hm2 := hW.m2
  obtain ⟨w0, hw0⟩ : ∃ x, x = w.alloc (.cells (ocells 1 wh b v pos keep data).toArray 53) := ⟨_, rfl⟩
  have ew := hw0.symm
  have b0 : Below w.heap.size w w0 := by rw [hw0]; exact below_alloc w _
  have O0 : OAt w0 w.heap.size 1 wh b v pos keep data := by rw [hw0]; exact LAt.new 53 w _
  have hW0 := hW.later b0
  have HB0 : Hid (Below w.heap.size w w0) := b0
  have HBB : Hid (B ≤ w.heap.size) := hB
  have HT : Hid (Tab w) := ht
  have H1 : Hid (1 < B) := hb1
  have HL : Hid (∀ i, i < M → (e i).ws.length ≤ k) := hl
  have HR0 : Hid (R w.heap.size = 0) := hW.hi _ (Nat.le_refl _)
  have hle : (e i).ws.length ≤ 100000 := by have := hl i hi; omega
  have i0 : (0 : Int) ≤ (i : Int) := by omega
  have i2 : (i : Int) < 2 := by omega
  have c0 := hW0.cl i hi
  have c2 := hW0.cr i hi
  have d0 : w0.drew.cell? ⟨P, i, none⟩ = some (.pointer (some ⟨L i, 0, none⟩)) := hW0.cl i hi
  have d2 : w0.drew.cell? ⟨P, 4 + i, none⟩ = some (.pointer (some ⟨K i, 0, none⟩)) := hW0.cr i hi
  have HW0 : Hid (Wd w0 R B P M L x K y e e bo) := hW0
  have HO0 : Hid (OAt w0 w.heap.size 1 wh b v pos keep data) := O0
  have HV : Hid (v.length = 32) := hv
  clear hw0 hW hW0 hl ht hB b0 O0 hv
  go_enter Tryz.func26, Tryz.ntmps26
  go_wp2_with fail
  clear ew
  go_quiet (fail)
  have HWa : Hid (Wd (w0.drewN nq) R B P M L x K y e e bo) := HW0.out.later (below_drawn nq)
  have HOa : Hid (OAt (w0.drewN nq) w.heap.size 1 wh b v pos keep data) := LAt.later HO0.out (below_drawn nq)
  have HBa : Hid (Below w.heap.size w (w0.drewN nq)) := below_then HB0.out (below_drawn nq)
  have HTa : Hid (Tab (w0.drewN nq)) := HT.out.later HBa.out
  have HLe : Hid (B ≤ (w0.drewN nq).heap.size) := Nat.le_trans HBB.out HBa.out.size
  clear c0 c2 d0 d2 HW0 HO0 HB0
  generalize w0.drewN nq = wa at *
  have ck := OAt.kind HOa.out
  by_cases hs : imgS (e i).g b = 0
  · have LV : Hid (_) := OAt.loadV HOa.out HV.out
    have cb := OAt.block HOa.out
    go_wp2_with ((with_reducible refine at_ops ?_); (refine wpList_load_is (by rfl) 49 rfl rfl LV.out ?_); simp only [Act.put, List.setIfInBounds_toArray, List.set_cons_zero, List.set_cons_succ])
    clear LV cb ck
    refine (image_ok (HWa.out.ls i hi) hle HTa.out b v HV.out _hvb hs).mono ?_
    rintro r1 w1 ⟨rfl, hd1, hk1⟩
    have g1 := HWa.out.setL (E := (imgSd (e i) b v)) hi hk1 hd1 HLe.out
    have O1 : OAt w1 w.heap.size 1 wh b v pos keep data := (hk1.block _ (LAt.lt HOa.out) (by rw [HR0.out]; omega)).trans HOa.out
    have HK1 : Hid (_) := hk1
    have HD1 : Hid (LS w1 (More (fun k => R k = 1 + i) wa) (L i) (x i) (imgSd (e i) b v)) := hd1
    have G1 : Hid (_) := g1
    have HO1 : Hid (OAt w1 w.heap.size 1 wh b v pos keep data) := O1
    clear hd1 hk1 g1 O1
    have LV : Hid (_) := OAt.loadV HO1.out HV.out
    have cb := OAt.block HO1.out
    go_wp2_with ((with_reducible refine at_ops ?_); (refine wpList_load_is (by rfl) 49 rfl rfl LV.out ?_); simp only [Act.put, List.setIfInBounds_toArray, List.set_cons_zero, List.set_cons_succ])
    clear LV cb
    refine (rimage_ok (G1.out.rs i hi) hle b v HV.out _hvb hs).mono ?_
    rintro r2 w2 ⟨rfl, hd2, hk2⟩
    have HF : Hid (Sq w2 B P M (k + 1) ∧ Below B wa w2) := HWa.out.step hi HL.out HLe.out HTa.out H1.out (E := (imgSd (e i) b v)) (b := b) HK1.out HD1.out hk2 hd2 (len_snoc (HL.out i hi))
    clear hd2 hk2 HK1 HD1 G1 HO1
    go_wp2_with fail
    go_ret
    exact ⟨rfl, HF.out.1, below_of HBa.out HBB.out HF.out.2⟩
  · have LV : Hid (_) := OAt.loadV HOa.out HV.out
    have cb := OAt.block HOa.out
    go_wp2_with ((with_reducible refine at_ops ?_); (refine wpList_load_is (by rfl) 49 rfl rfl LV.out ?_); simp only [Act.put, List.setIfInBounds_toArray, List.set_cons_zero, List.set_cons_succ])
    clear LV cb ck
    refine (image_no (HWa.out.ls i hi).log (HWa.out.ls i hi).ok b v hs).mono ?_
    rintro r1 w1 ⟨rfl, b1⟩
    have HW1 : Hid (Wd w1 R B P M L x K y e e bo) := HWa.out.later b1
    have HO1 : Hid (OAt w1 w.heap.size 1 wh b v pos keep data) := LAt.later HOa.out b1
    have HB1 : Hid (Below wa.heap.size wa w1) := b1
    clear b1
    have LV : Hid (_) := OAt.loadV HO1.out HV.out
    have cb := OAt.block HO1.out
    go_wp2_with ((with_reducible refine at_ops ?_); (refine wpList_load_is (by rfl) 49 rfl rfl LV.out ?_); simp only [Act.put, List.setIfInBounds_toArray, List.set_cons_zero, List.set_cons_succ])
    clear LV cb
    refine (rimage_no (HW1.out.rs i hi).log (HW1.out.rs i hi).ok (HW1.out.rs i hi).bk b v hs).mono ?_
    rintro r2 w2 ⟨rfl, b2⟩
    have HF : Hid (Sq w2 B P M (k + 1) ∧ Below B wa w2) := still HW1.out HL.out HLe.out HTa.out H1.out HB1.out b2
    clear b2 HW1 HB1 HO1
    generalize imgS (e i).g b = q at *
    go_wp2_with fail
    go_ret
    exact ⟨rfl, HF.out.1, below_of HBa.out HBB.out HF.out.2⟩
end Go.Proofs.YtmcpjokbkkfgfaaGreatDoor

/-
  Layer 9: appends: Commit, Flush, Mark, Free.
-/
namespace Go.Proofs.YtmcpjokbkkfgfaaGreatDoor
open Go.RowKit

set_option maxHeartbeats 1000000 in
set_option maxRecDepth 100000 in
theorem app_com {w : World} {B P M k i : Nat} (h : Sq w B P M k) (hi : i < M) (hk : k ≤ 1000) (wh b : Int) (v : List Int) (hv : v.length = 32) (_hvb : Bytes v) (pos : Int) (keep data : Value) :
    Calls Tryz.prog 26 #[.pointer (some ⟨P, 0, none⟩), .int .i64 i, .agg (ocells 2 wh b v pos keep data).toArray] w fun r w' => r = .returned (.bool true) ∧ Sq w' B P M (k + 1) ∧ Below B w w' := by
  obtain ⟨⟨R, L, x, K, y, e, bo, hW, hl, hB⟩, ht, hb1⟩ := h
  have hm2 := hW.m2
  obtain ⟨w0, hw0⟩ : ∃ x, x = w.alloc (.cells (ocells 2 wh b v pos keep data).toArray 53) := ⟨_, rfl⟩
  have ew := hw0.symm
  have b0 : Below w.heap.size w w0 := by rw [hw0]; exact below_alloc w _
  have O0 : OAt w0 w.heap.size 2 wh b v pos keep data := by rw [hw0]; exact LAt.new 53 w _
  have hW0 := hW.later b0
  have HB0 : Hid (Below w.heap.size w w0) := b0
  have HBB : Hid (B ≤ w.heap.size) := hB
  have HT : Hid (Tab w) := ht
  have H1 : Hid (1 < B) := hb1
  have HL : Hid (∀ i, i < M → (e i).ws.length ≤ k) := hl
  have HR0 : Hid (R w.heap.size = 0) := hW.hi _ (Nat.le_refl _)
  have hle : (e i).ws.length ≤ 100000 := by have := hl i hi; omega
  have i0 : (0 : Int) ≤ (i : Int) := by omega
  have i2 : (i : Int) < 2 := by omega
  have c0 := hW0.cl i hi
  have c2 := hW0.cr i hi
  have d0 : w0.drew.cell? ⟨P, i, none⟩ = some (.pointer (some ⟨L i, 0, none⟩)) := hW0.cl i hi
  have d2 : w0.drew.cell? ⟨P, 4 + i, none⟩ = some (.pointer (some ⟨K i, 0, none⟩)) := hW0.cr i hi
  have HW0 : Hid (Wd w0 R B P M L x K y e e bo) := hW0
  have HO0 : Hid (OAt w0 w.heap.size 2 wh b v pos keep data) := O0
  have HV : Hid (v.length = 32) := hv
  clear hw0 hW hW0 hl ht hB b0 O0 hv
  go_enter Tryz.func26, Tryz.ntmps26
  go_wp2_with fail
  clear ew
  go_quiet (fail)
  have HWa : Hid (Wd (w0.drewN nq) R B P M L x K y e e bo) := HW0.out.later (below_drawn nq)
  have HOa : Hid (OAt (w0.drewN nq) w.heap.size 2 wh b v pos keep data) := LAt.later HO0.out (below_drawn nq)
  have HBa : Hid (Below w.heap.size w (w0.drewN nq)) := below_then HB0.out (below_drawn nq)
  have HTa : Hid (Tab (w0.drewN nq)) := HT.out.later HBa.out
  have HLe : Hid (B ≤ (w0.drewN nq).heap.size) := Nat.le_trans HBB.out HBa.out.size
  clear c0 c2 d0 d2 HW0 HO0 HB0
  generalize w0.drewN nq = wa at *
  have ck := OAt.kind HOa.out
  by_cases hs : moreS (e i).g = 0
  · go_wp2_with fail
    clear ck
    refine (commit_ok (HWa.out.ls i hi) hle HTa.out hs).mono ?_
    rintro r1 w1 ⟨rfl, hd1, hk1⟩
    have g1 := HWa.out.setL (E := (comSd (e i))) hi hk1 hd1 HLe.out
    have O1 : OAt w1 w.heap.size 2 wh b v pos keep data := (hk1.block _ (LAt.lt HOa.out) (by rw [HR0.out]; omega)).trans HOa.out
    have HK1 : Hid (_) := hk1
    have HD1 : Hid (LS w1 (More (fun k => R k = 1 + i) wa) (L i) (x i) (comSd (e i))) := hd1
    have G1 : Hid (_) := g1
    have HO1 : Hid (OAt w1 w.heap.size 2 wh b v pos keep data) := O1
    clear hd1 hk1 g1 O1
    go_wp2_with fail
    refine (rcommit_ok (G1.out.rs i hi) hle hs).mono ?_
    rintro r2 w2 ⟨rfl, hd2, hk2⟩
    have HF : Hid (Sq w2 B P M (k + 1) ∧ Below B wa w2) := HWa.out.step hi HL.out HLe.out HTa.out H1.out (E := (comSd (e i))) (b := bo i) HK1.out HD1.out hk2 hd2 (len_snoc (HL.out i hi))
    clear hd2 hk2 HK1 HD1 G1 HO1
    go_wp2_with fail
    go_ret
    exact ⟨rfl, HF.out.1, below_of HBa.out HBB.out HF.out.2⟩
  · go_wp2_with fail
    clear ck
    refine (commit_no (HWa.out.ls i hi).log (HWa.out.ls i hi).ok hs).mono ?_
    rintro r1 w1 ⟨rfl, b1⟩
    have HW1 : Hid (Wd w1 R B P M L x K y e e bo) := HWa.out.later b1
    have HB1 : Hid (Below wa.heap.size wa w1) := b1
    clear b1
    go_wp2_with fail
    refine (rcommit_no (HW1.out.rs i hi).log (HW1.out.rs i hi).ok hs).mono ?_
    rintro r2 w2 ⟨rfl, b2⟩
    have HF : Hid (Sq w2 B P M (k + 1) ∧ Below B wa w2) := still HW1.out HL.out HLe.out HTa.out H1.out HB1.out b2
    clear b2 HW1 HB1
    generalize moreS (e i).g = q at *
    go_wp2_with fail
    go_ret
    exact ⟨rfl, HF.out.1, below_of HBa.out HBB.out HF.out.2⟩
set_option maxHeartbeats 1000000 in
set_option maxRecDepth 100000 in
theorem app_flu {w : World} {B P M k i : Nat} (h : Sq w B P M k) (hi : i < M) (hk : k ≤ 1000) (wh b : Int) (v : List Int) (hv : v.length = 32) (_hvb : Bytes v) (pos : Int) (keep data : Value) :
    Calls Tryz.prog 26 #[.pointer (some ⟨P, 0, none⟩), .int .i64 i, .agg (ocells 3 wh b v pos keep data).toArray] w fun r w' => r = .returned (.bool true) ∧ Sq w' B P M (k + 1) ∧ Below B w w' := by
  obtain ⟨⟨R, L, x, K, y, e, bo, hW, hl, hB⟩, ht, hb1⟩ := h
  have hm2 := hW.m2
  obtain ⟨w0, hw0⟩ : ∃ x, x = w.alloc (.cells (ocells 3 wh b v pos keep data).toArray 53) := ⟨_, rfl⟩
  have ew := hw0.symm
  have b0 : Below w.heap.size w w0 := by rw [hw0]; exact below_alloc w _
  have O0 : OAt w0 w.heap.size 3 wh b v pos keep data := by rw [hw0]; exact LAt.new 53 w _
  have hW0 := hW.later b0
  have HB0 : Hid (Below w.heap.size w w0) := b0
  have HBB : Hid (B ≤ w.heap.size) := hB
  have HT : Hid (Tab w) := ht
  have H1 : Hid (1 < B) := hb1
  have HL : Hid (∀ i, i < M → (e i).ws.length ≤ k) := hl
  have HR0 : Hid (R w.heap.size = 0) := hW.hi _ (Nat.le_refl _)
  have hle : (e i).ws.length ≤ 100000 := by have := hl i hi; omega
  have i0 : (0 : Int) ≤ (i : Int) := by omega
  have i2 : (i : Int) < 2 := by omega
  have c0 := hW0.cl i hi
  have c2 := hW0.cr i hi
  have d0 : w0.drew.cell? ⟨P, i, none⟩ = some (.pointer (some ⟨L i, 0, none⟩)) := hW0.cl i hi
  have d2 : w0.drew.cell? ⟨P, 4 + i, none⟩ = some (.pointer (some ⟨K i, 0, none⟩)) := hW0.cr i hi
  have HW0 : Hid (Wd w0 R B P M L x K y e e bo) := hW0
  have HO0 : Hid (OAt w0 w.heap.size 3 wh b v pos keep data) := O0
  have HV : Hid (v.length = 32) := hv
  clear hw0 hW hW0 hl ht hB b0 O0 hv
  go_enter Tryz.func26, Tryz.ntmps26
  go_wp2_with fail
  clear ew
  go_quiet (fail)
  have HWa : Hid (Wd (w0.drewN nq) R B P M L x K y e e bo) := HW0.out.later (below_drawn nq)
  have HOa : Hid (OAt (w0.drewN nq) w.heap.size 3 wh b v pos keep data) := LAt.later HO0.out (below_drawn nq)
  have HBa : Hid (Below w.heap.size w (w0.drewN nq)) := below_then HB0.out (below_drawn nq)
  have HTa : Hid (Tab (w0.drewN nq)) := HT.out.later HBa.out
  have HLe : Hid (B ≤ (w0.drewN nq).heap.size) := Nat.le_trans HBB.out HBa.out.size
  clear c0 c2 d0 d2 HW0 HO0 HB0
  generalize w0.drewN nq = wa at *
  have ck := OAt.kind HOa.out
  go_wp2_with fail
  clear ck
  refine (wflush_at (HWa.out.ls i hi) hle).mono ?_
  rintro r1 w1 ⟨rfl, hd1, hk1⟩
  have g1 := HWa.out.setL (E := ⟨settle (fun _ => true) (e i).ws (e i).d, [], (e i).g⟩) hi hk1 (hd1.mono (fun _ _ h => .inl h)) HLe.out
  have O1 : OAt w1 w.heap.size 3 wh b v pos keep data := (hk1.block _ (LAt.lt HOa.out) (by rw [HR0.out]; omega)).trans HOa.out
  have HK1 : Hid (_) := hk1
  have HD1 : Hid (LS w1 (More (fun k => R k = 1 + i) wa) (L i) (x i) ⟨settle (fun _ => true) (e i).ws (e i).d, [], (e i).g⟩) := (hd1.mono (fun _ _ h => .inl h))
  have G1 : Hid (_) := g1
  have HO1 : Hid (OAt w1 w.heap.size 3 wh b v pos keep data) := O1
  clear hd1 hk1 g1 O1
  go_wp2_with fail
  refine (rlflush_at (G1.out.rs i hi) hle).mono ?_
  rintro r2 w2 ⟨rfl, hd2, hk2⟩
  have HF : Hid (Sq w2 B P M (k + 1) ∧ Below B wa w2) := HWa.out.step hi HL.out HLe.out HTa.out H1.out (E := ⟨settle (fun _ => true) (e i).ws (e i).d, [], (e i).g⟩) (b := bo i) HK1.out HD1.out hk2 (hd2.mono (fun _ _ h => .inl h)) (Nat.zero_le _)
  clear hd2 hk2 HK1 HD1 G1 HO1
  go_wp2_with fail
  go_ret
  exact ⟨rfl, HF.out.1, below_of HBa.out HBB.out HF.out.2⟩
set_option maxHeartbeats 1000000 in
set_option maxRecDepth 100000 in
theorem app_mrk {w : World} {B P M k i : Nat} (h : Sq w B P M k) (hi : i < M) (hk : k ≤ 1000) (wh b : Int) (v : List Int) (hv : v.length = 32) (_hvb : Bytes v) (pos : Int) (keep data : Value) :
    Calls Tryz.prog 26 #[.pointer (some ⟨P, 0, none⟩), .int .i64 i, .agg (ocells 4 wh b v pos keep data).toArray] w fun r w' => r = .returned (.bool true) ∧ Sq w' B P M (k + 1) ∧ Below B w w' := by
  obtain ⟨⟨R, L, x, K, y, e, bo, hW, hl, hB⟩, ht, hb1⟩ := h
  have hm2 := hW.m2
  obtain ⟨w0, hw0⟩ : ∃ x, x = w.alloc (.cells (ocells 4 wh b v pos keep data).toArray 53) := ⟨_, rfl⟩
  have ew := hw0.symm
  have b0 : Below w.heap.size w w0 := by rw [hw0]; exact below_alloc w _
  have O0 : OAt w0 w.heap.size 4 wh b v pos keep data := by rw [hw0]; exact LAt.new 53 w _
  have hW0 := hW.later b0
  have HB0 : Hid (Below w.heap.size w w0) := b0
  have HBB : Hid (B ≤ w.heap.size) := hB
  have HT : Hid (Tab w) := ht
  have H1 : Hid (1 < B) := hb1
  have HL : Hid (∀ i, i < M → (e i).ws.length ≤ k) := hl
  have HR0 : Hid (R w.heap.size = 0) := hW.hi _ (Nat.le_refl _)
  have hle : (e i).ws.length ≤ 100000 := by have := hl i hi; omega
  have i0 : (0 : Int) ≤ (i : Int) := by omega
  have i2 : (i : Int) < 2 := by omega
  have c0 := hW0.cl i hi
  have c2 := hW0.cr i hi
  have d0 : w0.drew.cell? ⟨P, i, none⟩ = some (.pointer (some ⟨L i, 0, none⟩)) := hW0.cl i hi
  have d2 : w0.drew.cell? ⟨P, 4 + i, none⟩ = some (.pointer (some ⟨K i, 0, none⟩)) := hW0.cr i hi
  have HW0 : Hid (Wd w0 R B P M L x K y e e bo) := hW0
  have HO0 : Hid (OAt w0 w.heap.size 4 wh b v pos keep data) := O0
  have HV : Hid (v.length = 32) := hv
  clear hw0 hW hW0 hl ht hB b0 O0 hv
  go_enter Tryz.func26, Tryz.ntmps26
  go_wp2_with fail
  clear ew
  go_quiet (fail)
  have HWa : Hid (Wd (w0.drewN nq) R B P M L x K y e e bo) := HW0.out.later (below_drawn nq)
  have HOa : Hid (OAt (w0.drewN nq) w.heap.size 4 wh b v pos keep data) := LAt.later HO0.out (below_drawn nq)
  have HBa : Hid (Below w.heap.size w (w0.drewN nq)) := below_then HB0.out (below_drawn nq)
  have HTa : Hid (Tab (w0.drewN nq)) := HT.out.later HBa.out
  have HLe : Hid (B ≤ (w0.drewN nq).heap.size) := Nat.le_trans HBB.out HBa.out.size
  clear c0 c2 d0 d2 HW0 HO0 HB0
  generalize w0.drewN nq = wa at *
  have ck := OAt.kind HOa.out
  by_cases hs : Out (e i).g pos
  · have cp := OAt.pos HOa.out HV.out
    go_wp2_with fail
    clear ck cp
    refine (mark_no (HWa.out.ls i hi).log pos hs).mono ?_
    rintro r1 w1 ⟨rfl, rfl⟩
    have HO1 := HOa
    have cp := OAt.pos HO1.out HV.out
    go_wp2_with fail
    clear cp
    refine (rmark_no (HWa.out.rs i hi).log pos hs).mono ?_
    rintro r2 w2 ⟨rfl, rfl⟩
    have HF : Hid (Sq wa B P M (k + 1) ∧ Below B wa wa) := still HWa.out HL.out HLe.out HTa.out H1.out (Below.refl _ _) (Below.refl _ _)
    go_wp2_with fail
    go_ret
    exact ⟨rfl, HF.out.1, below_of HBa.out HBB.out HF.out.2⟩
  · have cp := OAt.pos HOa.out HV.out
    go_wp2_with fail
    clear ck cp
    refine (mark_ok (HWa.out.ls i hi) hle HTa.out pos hs).mono ?_
    rintro r1 w1 ⟨rfl, hd1, hk1⟩
    have g1 := HWa.out.setL (E := (mkSd (e i) pos)) hi hk1 hd1 HLe.out
    have O1 : OAt w1 w.heap.size 4 wh b v pos keep data := (hk1.block _ (LAt.lt HOa.out) (by rw [HR0.out]; omega)).trans HOa.out
    have HK1 : Hid (_) := hk1
    have HD1 : Hid (LS w1 (More (fun k => R k = 1 + i) wa) (L i) (x i) (mkSd (e i) pos)) := hd1
    have G1 : Hid (_) := g1
    have HO1 : Hid (OAt w1 w.heap.size 4 wh b v pos keep data) := O1
    clear hd1 hk1 g1 O1
    have cp := OAt.pos HO1.out HV.out
    go_wp2_with fail
    clear cp
    refine (rmark_ok (G1.out.rs i hi) hle pos hs).mono ?_
    rintro r2 w2 ⟨rfl, hd2, hk2⟩
    have HF : Hid (Sq w2 B P M (k + 1) ∧ Below B wa w2) := HWa.out.step hi HL.out HLe.out HTa.out H1.out (E := (mkSd (e i) pos)) (b := bo i) HK1.out HD1.out hk2 hd2 (len_snoc (HL.out i hi))
    clear hd2 hk2 HK1 HD1 G1 HO1
    go_wp2_with fail
    go_ret
    exact ⟨rfl, HF.out.1, below_of HBa.out HBB.out HF.out.2⟩
end Go.Proofs.YtmcpjokbkkfgfaaGreatDoor

/-
  Layer 9: appends: Free.
-/
namespace Go.Proofs.YtmcpjokbkkfgfaaGreatDoor
open Go.RowKit

set_option maxHeartbeats 1000000 in
set_option maxRecDepth 100000 in
theorem app_fre {w : World} {B P M k i : Nat} (h : Sq w B P M k) (hi : i < M) (hk : k ≤ 1000) (wh b : Int) (v : List Int) (hv : v.length = 32) (_hvb : Bytes v) (pos : Int) (keep data : Value) :
    Calls Tryz.prog 26 #[.pointer (some ⟨P, 0, none⟩), .int .i64 i, .agg (ocells 5 wh b v pos keep data).toArray] w fun r w' => r = .returned (.bool true) ∧ Sq w' B P M (k + 1) ∧ Below B w w' := by
  obtain ⟨⟨R, L, x, K, y, e, bo, hW, hl, hB⟩, ht, hb1⟩ := h
  have hm2 := hW.m2
  obtain ⟨w0, hw0⟩ : ∃ x, x = w.alloc (.cells (ocells 5 wh b v pos keep data).toArray 53) := ⟨_, rfl⟩
  have ew := hw0.symm
  have b0 : Below w.heap.size w w0 := by rw [hw0]; exact below_alloc w _
  have O0 : OAt w0 w.heap.size 5 wh b v pos keep data := by rw [hw0]; exact LAt.new 53 w _
  have hW0 := hW.later b0
  have HB0 : Hid (Below w.heap.size w w0) := b0
  have HBB : Hid (B ≤ w.heap.size) := hB
  have HT : Hid (Tab w) := ht
  have H1 : Hid (1 < B) := hb1
  have HL : Hid (∀ i, i < M → (e i).ws.length ≤ k) := hl
  have HR0 : Hid (R w.heap.size = 0) := hW.hi _ (Nat.le_refl _)
  have hle : (e i).ws.length ≤ 100000 := by have := hl i hi; omega
  have i0 : (0 : Int) ≤ (i : Int) := by omega
  have i2 : (i : Int) < 2 := by omega
  have c0 := hW0.cl i hi
  have c2 := hW0.cr i hi
  have d0 : w0.drew.cell? ⟨P, i, none⟩ = some (.pointer (some ⟨L i, 0, none⟩)) := hW0.cl i hi
  have d2 : w0.drew.cell? ⟨P, 4 + i, none⟩ = some (.pointer (some ⟨K i, 0, none⟩)) := hW0.cr i hi
  have HW0 : Hid (Wd w0 R B P M L x K y e e bo) := hW0
  have HO0 : Hid (OAt w0 w.heap.size 5 wh b v pos keep data) := O0
  have HV : Hid (v.length = 32) := hv
  clear hw0 hW hW0 hl ht hB b0 O0 hv
  go_enter Tryz.func26, Tryz.ntmps26
  go_wp2_with fail
  clear ew
  go_quiet (fail)
  have HWa : Hid (Wd (w0.drewN nq) R B P M L x K y e e bo) := HW0.out.later (below_drawn nq)
  have HOa : Hid (OAt (w0.drewN nq) w.heap.size 5 wh b v pos keep data) := LAt.later HO0.out (below_drawn nq)
  have HBa : Hid (Below w.heap.size w (w0.drewN nq)) := below_then HB0.out (below_drawn nq)
  have HTa : Hid (Tab (w0.drewN nq)) := HT.out.later HBa.out
  have HLe : Hid (B ≤ (w0.drewN nq).heap.size) := Nat.le_trans HBB.out HBa.out.size
  clear c0 c2 d0 d2 HW0 HO0 HB0
  generalize w0.drewN nq = wa at *
  have ck := OAt.kind HOa.out
  go_wp2_with fail
  clear ck
  refine (free_at (HWa.out.ls i hi) hle).mono ?_
  rintro r1 w1 ⟨rfl, hd1, hk1⟩
  have g1 := HWa.out.setL (E := ⟨settle (fun _ => true) (e i).ws (e i).d, [], frG (e i).g⟩) hi hk1 (hd1.mono (fun _ _ h => .inl h)) HLe.out
  have O1 : OAt w1 w.heap.size 5 wh b v pos keep data := (hk1.block _ (LAt.lt HOa.out) (by rw [HR0.out]; omega)).trans HOa.out
  have HK1 : Hid (_) := hk1
  have HD1 : Hid (LS w1 (More (fun k => R k = 1 + i) wa) (L i) (x i) ⟨settle (fun _ => true) (e i).ws (e i).d, [], frG (e i).g⟩) := (hd1.mono (fun _ _ h => .inl h))
  have G1 : Hid (_) := g1
  have HO1 : Hid (OAt w1 w.heap.size 5 wh b v pos keep data) := O1
  clear hd1 hk1 g1 O1
  go_wp2_with fail
  refine (rlfree_at (G1.out.rs i hi) hle).mono ?_
  rintro r2 w2 ⟨rfl, hd2, hk2⟩
  have HF : Hid (Sq w2 B P M (k + 1) ∧ Below B wa w2) := HWa.out.step hi HL.out HLe.out HTa.out H1.out (E := ⟨settle (fun _ => true) (e i).ws (e i).d, [], frG (e i).g⟩) (b := bo i) HK1.out HD1.out hk2 (hd2.mono (fun _ _ h => .inl h)) (Nat.zero_le _)
  clear hd2 hk2 HK1 HD1 G1 HO1
  go_wp2_with fail
  go_ret
  exact ⟨rfl, HF.out.1, below_of HBa.out HBB.out HF.out.2⟩
end Go.Proofs.YtmcpjokbkkfgfaaGreatDoor

/-
  Layer 9: plays: the kinds of appends.
-/
namespace Go.Proofs.YtmcpjokbkkfgfaaGreatDoor
open Go.RowKit

set_option maxHeartbeats 1000000 in
set_option maxRecDepth 100000 in
theorem plays_img {w : World} {B P k : Nat} (h : Sq w B P 2 k) (hk : k ≤ 100) (wh b : Int) (v : List Int) (hv : v.length = 32) (_hvb : Bytes v) (pos : Int) (keep data : Value) :
    Calls Tryz.prog 9 #[.pointer (some ⟨P, 0, none⟩), .agg (ocells 1 wh b v pos keep data).toArray] w fun r w' => r = .returned (.bool true) ∧ Sq w' B P 2 (k + 1) ∧ Below B w w' := by
  have hB := h.B
  have t2 := tmod2 wh
  have e2 := sl2_is wh
  have l2 := sl2_lt wh
  obtain ⟨w0, hw0⟩ : ∃ x, x = w.alloc (.cells (ocells 1 wh b v pos keep data).toArray 53) := ⟨_, rfl⟩
  have ew := hw0.symm
  have b0 : Below w.heap.size w w0 := by rw [hw0]; exact below_alloc w _
  have O0 : OAt w0 w.heap.size 1 wh b v pos keep data := by rw [hw0]; exact LAt.new 53 w _
  have HQ0 : Hid (Sq w0 B P 2 k) := h.later b0
  have HB0 : Hid (Below w.heap.size w w0) := b0
  have LO : Hid (_) := OAt.loadO O0 hv
  have ckd := OAt.kind O0
  have cwh := OAt.which O0
  clear hw0 b0 O0
  go_enter Tryz.func9, Tryz.ntmps9
  go_wp2_with ((with_reducible refine at_ops ?_); (refine wpList_load_is (by rfl) 53 rfl rfl LO.out ?_); simp only [Act.put, List.setIfInBounds_toArray, List.set_cons_zero, List.set_cons_succ])
  rw [e2]
  clear LO ew ckd cwh t2 e2
  generalize sl2 wh = i at *
  refine (app_img HQ0.out l2 (by omega) wh b v hv _hvb pos keep data).mono ?_
  rintro r1 w1 ⟨rfl, q1, b1⟩
  have HQ1 : Hid (Sq w1 B P 2 (k + 1)) := q1
  have HB1 : Hid (Below B w w1) := below_of HB0.out hB b1
  clear q1 b1 HQ0 HB0
  go_wp2_with fail
  refine (HQ1.out.tells l2 (by omega)).mono ?_
  rintro r9 w9 ⟨rfl, b9⟩
  have HQ9 : Hid (Sq w9 B P 2 (k + 1)) := HQ1.out.later b9
  have HB9 : Hid (Below B w w9) := HB1.out.trans (b9.mono HQ1.out.B)
  clear b9 HQ1 HB1
  go_wp2_with fail
  go_ret
  exact ⟨rfl, HQ9.out, HB9.out⟩
set_option maxHeartbeats 1000000 in
set_option maxRecDepth 100000 in
theorem plays_com {w : World} {B P k : Nat} (h : Sq w B P 2 k) (hk : k ≤ 100) (wh b : Int) (v : List Int) (hv : v.length = 32) (_hvb : Bytes v) (pos : Int) (keep data : Value) :
    Calls Tryz.prog 9 #[.pointer (some ⟨P, 0, none⟩), .agg (ocells 2 wh b v pos keep data).toArray] w fun r w' => r = .returned (.bool true) ∧ Sq w' B P 2 (k + 1) ∧ Below B w w' := by
  have hB := h.B
  have t2 := tmod2 wh
  have e2 := sl2_is wh
  have l2 := sl2_lt wh
  obtain ⟨w0, hw0⟩ : ∃ x, x = w.alloc (.cells (ocells 2 wh b v pos keep data).toArray 53) := ⟨_, rfl⟩
  have ew := hw0.symm
  have b0 : Below w.heap.size w w0 := by rw [hw0]; exact below_alloc w _
  have O0 : OAt w0 w.heap.size 2 wh b v pos keep data := by rw [hw0]; exact LAt.new 53 w _
  have HQ0 : Hid (Sq w0 B P 2 k) := h.later b0
  have HB0 : Hid (Below w.heap.size w w0) := b0
  have LO : Hid (_) := OAt.loadO O0 hv
  have ckd := OAt.kind O0
  have cwh := OAt.which O0
  clear hw0 b0 O0
  go_enter Tryz.func9, Tryz.ntmps9
  go_wp2_with ((with_reducible refine at_ops ?_); (refine wpList_load_is (by rfl) 53 rfl rfl LO.out ?_); simp only [Act.put, List.setIfInBounds_toArray, List.set_cons_zero, List.set_cons_succ])
  rw [e2]
  clear LO ew ckd cwh t2 e2
  generalize sl2 wh = i at *
  refine (app_com HQ0.out l2 (by omega) wh b v hv _hvb pos keep data).mono ?_
  rintro r1 w1 ⟨rfl, q1, b1⟩
  have HQ1 : Hid (Sq w1 B P 2 (k + 1)) := q1
  have HB1 : Hid (Below B w w1) := below_of HB0.out hB b1
  clear q1 b1 HQ0 HB0
  go_wp2_with fail
  refine (HQ1.out.tells l2 (by omega)).mono ?_
  rintro r9 w9 ⟨rfl, b9⟩
  have HQ9 : Hid (Sq w9 B P 2 (k + 1)) := HQ1.out.later b9
  have HB9 : Hid (Below B w w9) := HB1.out.trans (b9.mono HQ1.out.B)
  clear b9 HQ1 HB1
  go_wp2_with fail
  go_ret
  exact ⟨rfl, HQ9.out, HB9.out⟩
set_option maxHeartbeats 1000000 in
set_option maxRecDepth 100000 in
theorem plays_flu {w : World} {B P k : Nat} (h : Sq w B P 2 k) (hk : k ≤ 100) (wh b : Int) (v : List Int) (hv : v.length = 32) (_hvb : Bytes v) (pos : Int) (keep data : Value) :
    Calls Tryz.prog 9 #[.pointer (some ⟨P, 0, none⟩), .agg (ocells 3 wh b v pos keep data).toArray] w fun r w' => r = .returned (.bool true) ∧ Sq w' B P 2 (k + 1) ∧ Below B w w' := by
  have hB := h.B
  have t2 := tmod2 wh
  have e2 := sl2_is wh
  have l2 := sl2_lt wh
  obtain ⟨w0, hw0⟩ : ∃ x, x = w.alloc (.cells (ocells 3 wh b v pos keep data).toArray 53) := ⟨_, rfl⟩
  have ew := hw0.symm
  have b0 : Below w.heap.size w w0 := by rw [hw0]; exact below_alloc w _
  have O0 : OAt w0 w.heap.size 3 wh b v pos keep data := by rw [hw0]; exact LAt.new 53 w _
  have HQ0 : Hid (Sq w0 B P 2 k) := h.later b0
  have HB0 : Hid (Below w.heap.size w w0) := b0
  have LO : Hid (_) := OAt.loadO O0 hv
  have ckd := OAt.kind O0
  have cwh := OAt.which O0
  clear hw0 b0 O0
  go_enter Tryz.func9, Tryz.ntmps9
  go_wp2_with ((with_reducible refine at_ops ?_); (refine wpList_load_is (by rfl) 53 rfl rfl LO.out ?_); simp only [Act.put, List.setIfInBounds_toArray, List.set_cons_zero, List.set_cons_succ])
  rw [e2]
  clear LO ew ckd cwh t2 e2
  generalize sl2 wh = i at *
  refine (app_flu HQ0.out l2 (by omega) wh b v hv _hvb pos keep data).mono ?_
  rintro r1 w1 ⟨rfl, q1, b1⟩
  have HQ1 : Hid (Sq w1 B P 2 (k + 1)) := q1
  have HB1 : Hid (Below B w w1) := below_of HB0.out hB b1
  clear q1 b1 HQ0 HB0
  go_wp2_with fail
  refine (HQ1.out.tells l2 (by omega)).mono ?_
  rintro r9 w9 ⟨rfl, b9⟩
  have HQ9 : Hid (Sq w9 B P 2 (k + 1)) := HQ1.out.later b9
  have HB9 : Hid (Below B w w9) := HB1.out.trans (b9.mono HQ1.out.B)
  clear b9 HQ1 HB1
  go_wp2_with fail
  go_ret
  exact ⟨rfl, HQ9.out, HB9.out⟩
set_option maxHeartbeats 1000000 in
set_option maxRecDepth 100000 in
theorem plays_mrk {w : World} {B P k : Nat} (h : Sq w B P 2 k) (hk : k ≤ 100) (wh b : Int) (v : List Int) (hv : v.length = 32) (_hvb : Bytes v) (pos : Int) (keep data : Value) :
    Calls Tryz.prog 9 #[.pointer (some ⟨P, 0, none⟩), .agg (ocells 4 wh b v pos keep data).toArray] w fun r w' => r = .returned (.bool true) ∧ Sq w' B P 2 (k + 1) ∧ Below B w w' := by
  have hB := h.B
  have t2 := tmod2 wh
  have e2 := sl2_is wh
  have l2 := sl2_lt wh
  obtain ⟨w0, hw0⟩ : ∃ x, x = w.alloc (.cells (ocells 4 wh b v pos keep data).toArray 53) := ⟨_, rfl⟩
  have ew := hw0.symm
  have b0 : Below w.heap.size w w0 := by rw [hw0]; exact below_alloc w _
  have O0 : OAt w0 w.heap.size 4 wh b v pos keep data := by rw [hw0]; exact LAt.new 53 w _
  have HQ0 : Hid (Sq w0 B P 2 k) := h.later b0
  have HB0 : Hid (Below w.heap.size w w0) := b0
  have LO : Hid (_) := OAt.loadO O0 hv
  have ckd := OAt.kind O0
  have cwh := OAt.which O0
  clear hw0 b0 O0
  go_enter Tryz.func9, Tryz.ntmps9
  go_wp2_with ((with_reducible refine at_ops ?_); (refine wpList_load_is (by rfl) 53 rfl rfl LO.out ?_); simp only [Act.put, List.setIfInBounds_toArray, List.set_cons_zero, List.set_cons_succ])
  rw [e2]
  clear LO ew ckd cwh t2 e2
  generalize sl2 wh = i at *
  refine (app_mrk HQ0.out l2 (by omega) wh b v hv _hvb pos keep data).mono ?_
  rintro r1 w1 ⟨rfl, q1, b1⟩
  have HQ1 : Hid (Sq w1 B P 2 (k + 1)) := q1
  have HB1 : Hid (Below B w w1) := below_of HB0.out hB b1
  clear q1 b1 HQ0 HB0
  go_wp2_with fail
  refine (HQ1.out.tells l2 (by omega)).mono ?_
  rintro r9 w9 ⟨rfl, b9⟩
  have HQ9 : Hid (Sq w9 B P 2 (k + 1)) := HQ1.out.later b9
  have HB9 : Hid (Below B w w9) := HB1.out.trans (b9.mono HQ1.out.B)
  clear b9 HQ1 HB1
  go_wp2_with fail
  go_ret
  exact ⟨rfl, HQ9.out, HB9.out⟩
set_option maxHeartbeats 1000000 in
set_option maxRecDepth 100000 in
theorem plays_fre {w : World} {B P k : Nat} (h : Sq w B P 2 k) (hk : k ≤ 100) (wh b : Int) (v : List Int) (hv : v.length = 32) (_hvb : Bytes v) (pos : Int) (keep data : Value) :
    Calls Tryz.prog 9 #[.pointer (some ⟨P, 0, none⟩), .agg (ocells 5 wh b v pos keep data).toArray] w fun r w' => r = .returned (.bool true) ∧ Sq w' B P 2 (k + 1) ∧ Below B w w' := by
  have hB := h.B
  have t2 := tmod2 wh
  have e2 := sl2_is wh
  have l2 := sl2_lt wh
  obtain ⟨w0, hw0⟩ : ∃ x, x = w.alloc (.cells (ocells 5 wh b v pos keep data).toArray 53) := ⟨_, rfl⟩
  have ew := hw0.symm
  have b0 : Below w.heap.size w w0 := by rw [hw0]; exact below_alloc w _
  have O0 : OAt w0 w.heap.size 5 wh b v pos keep data := by rw [hw0]; exact LAt.new 53 w _
  have HQ0 : Hid (Sq w0 B P 2 k) := h.later b0
  have HB0 : Hid (Below w.heap.size w w0) := b0
  have LO : Hid (_) := OAt.loadO O0 hv
  have ckd := OAt.kind O0
  have cwh := OAt.which O0
  clear hw0 b0 O0
  go_enter Tryz.func9, Tryz.ntmps9
  go_wp2_with ((with_reducible refine at_ops ?_); (refine wpList_load_is (by rfl) 53 rfl rfl LO.out ?_); simp only [Act.put, List.setIfInBounds_toArray, List.set_cons_zero, List.set_cons_succ])
  rw [e2]
  clear LO ew ckd cwh t2 e2
  generalize sl2 wh = i at *
  refine (app_fre HQ0.out l2 (by omega) wh b v hv _hvb pos keep data).mono ?_
  rintro r1 w1 ⟨rfl, q1, b1⟩
  have HQ1 : Hid (Sq w1 B P 2 (k + 1)) := q1
  have HB1 : Hid (Below B w w1) := below_of HB0.out hB b1
  clear q1 b1 HQ0 HB0
  go_wp2_with fail
  refine (HQ1.out.tells l2 (by omega)).mono ?_
  rintro r9 w9 ⟨rfl, b9⟩
  have HQ9 : Hid (Sq w9 B P 2 (k + 1)) := HQ1.out.later b9
  have HB9 : Hid (Below B w w9) := HB1.out.trans (b9.mono HQ1.out.B)
  clear b9 HQ1 HB1
  go_wp2_with fail
  go_ret
  exact ⟨rfl, HQ9.out, HB9.out⟩
end Go.Proofs.YtmcpjokbkkfgfaaGreatDoor

/-
  Layer 9, the laws' own: small, opened, fixed.
-/
namespace Go.Proofs.YtmcpjokbkkfgfaaGreatDoor
open Go.RowKit


def sm9 : Sup := ⟨3, 4, 2, 4, 1, 0, 0⟩
theorem sm9_may : MayC sm9 := by decide
set_option maxHeartbeats 1000000 in
set_option maxRecDepth 100000 in
theorem small_any (w : World) : Calls Tryz.prog 11 #[] w fun e w' => e = .returned (.agg (ccells sm9).toArray) ∧ Below w.heap.size w w' := by
  have A1 : Hid (_) := alloc23 w
  have U1 : Hid (_) := build23 (w.alloc (.cells (ccells sup0).toArray 23)) #[(0, .int .i64 3), (1, .int .i64 4), (2, .int .i64 2), (3, .int .i64 4), (4, .int .i64 1)] sm9 (fill_cfgs sm9)
  have S1 : Hid (_) := store_new23 w sm9
  go_enter Tryz.func11, Tryz.ntmps11
  go_wp2_with ((with_reducible refine at_ops ?_); (first | (refine wpList_alloc_is (by rfl) 23 rfl A1.out ?_) | (refine wpList_build_is (vs := [(0, .int .i64 3), (1, .int .i64 4), (2, .int .i64 2), (3, .int .i64 4), (4, .int .i64 1)]) (by rfl) 23 rfl (by rfl) U1.out ?_) | (refine wpList_store_is (by rfl) 23 rfl rfl rfl S1.out ?_)); simp only [Act.put, List.setIfInBounds_toArray, List.set_cons_zero, List.set_cons_succ])
  exact bodyPost_ret (results_cell1 Tryz.results11 _ _ w.heap.size 23 _ _ (by rfl) (LAt.new 23 w _) Tryz.underlying23 rfl size23) rfl ⟨rfl, below_alloc w _⟩
set_option maxHeartbeats 1000000 in
set_option maxRecDepth 100000 in
theorem opened_none (s : Sup) (m t l : Int) (hm : m < 1 ∨ 4096 < m) (w : World) : Calls Tryz.prog 10 #[.agg (ccells s).toArray, .int .i64 m, .int .u64 t, .int .u64 l] w fun e w' => e = .returned (.tuple #[.pointer none, .pointer none, .int .i64 1]) ∧ Below w.heap.size w w' := by
  have HB : Hid (Below w.heap.size w (w.alloc (.cells (ccells s).toArray 23))) := below_alloc w _
  go_enter Tryz.func10, Tryz.ntmps10
  go_wp2_with fail
  refine (new_bad m _ hm).mono ?_
  rintro e w1 ⟨rfl, rfl⟩
  go_wp2_with fail
  exact bodyPost_ret (results_tmp3 Tryz.results10 _ _ _) rfl ⟨rfl, HB.out⟩
set_option maxHeartbeats 1000000 in
set_option maxRecDepth 100000 in
theorem opened_no (s : Sup) (n : Nat) (t l : Int) (h1 : 1 ≤ n) (h2 : n ≤ 4096) (ht0 : 0 ≤ t) (hl0 : 0 ≤ l) (hr : ¬ opnS s n t l = 0) (w : World) : Calls Tryz.prog 10 #[.agg (ccells s).toArray, .int .i64 n, .int .u64 t, .int .u64 l] w fun e w' => ∃ p, e = .returned (.tuple #[.pointer none, .pointer (some ⟨p, 0, none⟩), .int .i64 (opnS s n t l)]) ∧ Below w.heap.size w w' := by
  obtain ⟨wa, hwa⟩ : ∃ x, x = w.alloc (.cells (ccells s).toArray 23) := ⟨_, rfl⟩
  have ewa := hwa.symm
  have HB : Hid (Below w.heap.size w wa) := by rw [hwa]; exact below_alloc w _
  have HA : Hid (CAt wa w.heap.size s) := by rw [hwa]; exact LAt.new 23 w (ccells s)
  clear hwa
  go_enter Tryz.func10, Tryz.ntmps10
  go_wp2_with fail
  refine (new_good n _ h1 h2).mono ?_
  rintro e w1 ⟨p, rfl, d1, b1⟩
  have HB1 : Hid (Below w.heap.size w w1) := below_then HB.out b1
  have L1 : Hid (_) := CAt.load23 (LAt.later HA.out b1)
  have D1 : Hid (_) := d1
  clear d1 b1 ewa HB HA
  go_wp2_with ((with_reducible refine at_ops ?_); (refine wpList_load_is (by rfl) 23 rfl rfl L1.out ?_); simp only [Act.put, List.setIfInBounds_toArray, List.set_cons_zero, List.set_cons_succ])
  refine (open_no s t l ht0 hl0 D1.out hr).mono ?_
  rintro e w2 ⟨rfl, b2⟩
  have HB2 : Hid (Below w.heap.size w w2) := below_then HB1.out b2
  clear b2 HB1 L1 D1
  go_wp2_with fail
  exact bodyPost_ret (results_tmp3 Tryz.results10 _ _ _) rfl ⟨p, rfl, HB2.out⟩
set_option maxHeartbeats 1000000 in
set_option maxRecDepth 100000 in
theorem opened_ok (s : Sup) (n : Nat) (t l : Int) (h1 : 1 ≤ n) (h2 : n ≤ 4096) (ht0 : 0 ≤ t) (hl0 : 0 ≤ l) (hr : opnS s n t l = 0) (w : World) : Calls Tryz.prog 10 #[.agg (ccells s).toArray, .int .i64 n, .int .u64 t, .int .u64 l] w fun e w' => ∃ L p, e = .returned (.tuple #[.pointer (some ⟨L, 0, none⟩), .pointer (some ⟨p, 0, none⟩), .int .i64 0]) ∧ LB w' w.heap.size L p (List.replicate (64 * n) 0) [] (opnG s t l) ∧ Below w.heap.size w w' := by
  obtain ⟨wa, hwa⟩ : ∃ x, x = w.alloc (.cells (ccells s).toArray 23) := ⟨_, rfl⟩
  have ewa := hwa.symm
  have HB : Hid (Below w.heap.size w wa) := by rw [hwa]; exact below_alloc w _
  have HA : Hid (CAt wa w.heap.size s) := by rw [hwa]; exact LAt.new 23 w (ccells s)
  clear hwa
  go_enter Tryz.func10, Tryz.ntmps10
  go_wp2_with fail
  refine (new_good n _ h1 h2).mono ?_
  rintro e w1 ⟨p, rfl, d1, b1⟩
  have HB1 : Hid (Below w.heap.size w w1) := below_then HB.out b1
  have L1 : Hid (_) := CAt.load23 (LAt.later HA.out b1)
  have hs := HB.out.size
  have D1 : Hid (Dsk w1 (fun k => w.heap.size ≤ k) p n (List.replicate (64 * n) 0) []) := d1.mono fun k _ (hk : wa.heap.size ≤ k) => by omega
  clear d1 b1 ewa HB HA
  go_wp2_with ((with_reducible refine at_ops ?_); (refine wpList_load_is (by rfl) 23 rfl rfl L1.out ?_); simp only [Act.put, List.setIfInBounds_toArray, List.set_cons_zero, List.set_cons_succ])
  refine (open_ok s t l ht0 hl0 D1.out hr).mono ?_
  rintro e w2 ⟨L, rfl, hL, l2, b2⟩
  have HB2 : Hid (Below w.heap.size w w2) := below_then HB1.out b2
  have hs1 := HB1.out.size
  have G2 : Hid (LB w2 w.heap.size L p (List.replicate (64 * n) 0) [] (opnG s t l)) := l2.mono fun k _ hk => hk.elim id (fun h => by omega)
  clear b2 l2 HB1 L1 D1
  go_wp2_with fail
  exact bodyPost_ret (results_tmp3 Tryz.results10 _ _ _) rfl ⟨L, p, rfl, G2.out, HB2.out⟩
end Go.Proofs.YtmcpjokbkkfgfaaGreatDoor
