/-
  Layer 15: nearest.
-/
import Derived.Test.YtkgjmejpbklabaaGl
namespace Go.Proofs.Ytkgjmejpbklabaa
open Go.RowKit

open B (IIn I64)

set_option maxHeartbeats 2000000 in
set_option maxRecDepth 100000 in
theorem nanI_is (x : Int) (w : World) : Calls Try.prog 48 #[.int .i64 x] w fun e w' => e = .returned (.bool false) ∧ w' = w := by
  go_enter Try.func48, Try.ntmps48
  go_wp2
  go_ret
  exact ⟨by simp, rfl⟩
/-- less, equal, greater -/
def cmpS (x y : Int) : Int := if x < y then -1 else if y < x then 1 else 0
set_option maxHeartbeats 2000000 in
set_option maxRecDepth 100000 in
theorem cmp_is (x y : Int) (w : World) : Calls Try.prog 40 #[.int .i64 x, .int .i64 y] w fun e w' => e = .returned (.int .i64 (cmpS x y)) ∧ w' = w := by
  have H : Hid (∀ z, ((x < y ∧ z = -1) ∨ (¬ x < y ∧ y < x ∧ z = 1) ∨ (¬ x < y ∧ ¬ y < x ∧ z = 0)) → cmpS x y = z) := fun z h => by
    unfold cmpS
    rcases h with ⟨h1, rfl⟩ | ⟨h1, h2, rfl⟩ | ⟨h1, h2, rfl⟩ <;> simp [*]
  go_enter Try.func40, Try.ntmps40
  by_cases h1 : x < y
  · go_wp2_with (go_at_call 48; refine (nanI_is _ _).mono ?_; rintro e w' ⟨rfl, rfl⟩)
    go_ret
    exact ⟨by rw [H.out _ (.inl ⟨h1, rfl⟩)]; rfl, rfl⟩
  · by_cases h2 : y < x
    · go_wp2_with (go_at_call 48; refine (nanI_is _ _).mono ?_; rintro e w' ⟨rfl, rfl⟩)
      go_ret
      exact ⟨by rw [H.out _ (.inr (.inl ⟨h1, h2, rfl⟩))]; rfl, rfl⟩
    · go_wp2_with (go_at_call 48; refine (nanI_is _ _).mono ?_; rintro e w' ⟨rfl, rfl⟩)
      go_ret
      exact ⟨by rw [H.out _ (.inr (.inr ⟨h1, h2, rfl⟩))]; rfl, rfl⟩
set_option maxHeartbeats 2000000 in
set_option maxRecDepth 100000 in
theorem near1_at {w : World} {b5 fb N c : Nat} {u v : Int} {a b : Nat} (hb : w.cell? ⟨b5, 0, none⟩ = some (.slice (some ⟨fb, 0, none⟩) N c)) (ha : a < N) (hbN : b < N) (hca : w.cell? ⟨fb, a, none⟩ = some (.int .i64 u)) (hcb : w.cell? ⟨fb, b, none⟩ = some (.int .i64 v)) :
    Calls Try.prog 39 #[.int .i64 (a : Int), .int .i64 (b : Int), .pointer (some ⟨b5, 0, none⟩)] w fun e w' => e = .returned (.int .i64 (cmpS u v)) ∧ RowKit.Below w.heap.size w w' := by
  go_enter Try.func39, Try.ntmps39
  go_wp2
  go_quiet (first | (go_at_call 40; refine Calls.quiet_of_same (cmp_is _ _ _)))
  go_wp2
  go_ret
  exact ⟨rfl, below_dr _ _ _⟩

/-- the first of the least, of the first i -/
def Fm (g : Nat → Nat) (q : List Nat) (m i : Nat) : Prop := ∃ j, j < i ∧ q[j]? = some m ∧ (∀ k x, k < i → q[k]? = some x → g m ≤ g x) ∧ (∀ k x, k < j → q[k]? = some x → g m < g x)
theorem Fm.start {g : Nat → Nat} {q : List Nat} {m : Nat} (h : q[0]? = some m) : Fm g q m 1 := ⟨0, by omega, h, fun k x hk hx => by
  obtain rfl : k = 0 := by omega
  rw [h] at hx; cases hx; exact Nat.le_refl _, fun k x hk => by omega⟩
theorem Fm.keep {g : Nat → Nat} {q : List Nat} {m i y : Nat} (h : Fm g q m i) (hy : q[i]? = some y) (hl : ¬ g y < g m) : Fm g q m (i + 1) := by
  obtain ⟨j, h1, h2, h3, h4⟩ := h
  refine ⟨j, by omega, h2, fun k x hk hx => ?_, h4⟩
  by_cases e : k = i
  · subst e; rw [hy] at hx; cases hx; omega
  · exact h3 k x (by omega) hx
theorem Fm.turn {g : Nat → Nat} {q : List Nat} {m i y : Nat} (h : Fm g q m i) (hy : q[i]? = some y) (hl : g y < g m) : Fm g q y (i + 1) := by
  obtain ⟨j, h1, h2, h3, h4⟩ := h
  refine ⟨i, by omega, hy, fun k x hk hx => ?_, fun k x hk hx => ?_⟩
  · by_cases e : k = i
    · subst e; rw [hy] at hx; cases hx; exact Nat.le_refl _
    · have := h3 k x (by omega) hx; omega
  · have := h3 k x hk hx; omega
theorem cmpS_lt (x y : Int) : cmpS x y < 0 ↔ x < y := by
  unfold cmpS
  by_cases h : x < y
  · simp [h]
  · by_cases h2 : y < x <;> simp [h, h2]
abbrev nearV (b5 : Nat) : Value := .func (.func 39) #[] #[.pointer (some ⟨b5, 0, none⟩)]
set_option maxHeartbeats 2000000 in
set_option maxRecDepth 100000 in
theorem minfunc_at {w : World} {p : Option Addr} {n c b5 fb N cf bF : Nat} {q f : List Nat} (hq : q.length = n) (hI : IIn w p n (nz q)) (h0 : 0 < n) (hz : n ≤ 9000) (hl : ∀ x ∈ q, x < N) (hb : VBx w b5 (.slice (some ⟨fb, 0, none⟩) N cf) 34) (hF : w.ownsRow bF 3 1 (.slice (some ⟨fb, 0, none⟩) N cf) N (I64 (nz f))) :
    Calls Try.prog 38 #[.slice p n c, nearV b5] w fun e w' => ∃ m : Nat, e = .returned (.int .i64 (m : Int)) ∧ RowKit.Below w.heap.size w w' ∧ Fm (fun x => f.getD x 0) q m n := by
  obtain ⟨b, off, rfl, hcs⟩ := hI.cells h0
  have hfl : f.length = N := by have := hF.1; rw [B.I64_length, nz_length] at this; omega
  have hblt : b < w.heap.size := hI.lt (a := ⟨b, off, none⟩) h0
  have HC : Hid (∀ W, RowKit.Below w.heap.size w W → (∀ j, j < n → W.cell? ⟨b, off + j, none⟩ = some (.int .i64 ((q.getD j 0 : Nat) : Int))) ∧ W.cell? ⟨b5, 0, none⟩ = some (.slice (some ⟨fb, 0, none⟩) N cf) ∧ ∀ x, x < N → W.cell? ⟨fb, x, none⟩ = some (.int .i64 ((f.getD x 0 : Nat) : Int))) := fun W hW => by
    refine ⟨fun j hj => ?_, (hb.later hW).c, fun x hx => O.own_cell (O.own_later hF hW) (nzI_get (by omega))⟩
    rw [hW.cell (p := ⟨b, off + j, none⟩) hblt, hcs j hj, nz_getD]
  have HQ : Hid (∀ j, j < n → q[j]? = some (q.getD j 0) ∧ q.getD j 0 < N) := fun j hj => by
    have h1 : q[j]? = some (q.getD j 0) := by rw [List.getD, List.getElem?_eq_getElem (by omega)]; rfl
    exact ⟨h1, hl _ (List.mem_of_getElem? h1)⟩
  have hc0 := (HC.out w (RowKit.Below.refl _ _)).1 0 h0
  rw [Nat.add_zero] at hc0
  have HM0 : Hid (Fm (fun x => f.getD x 0) q (q.getD 0 0) 1 ∧ q.getD 0 0 < N) := ⟨Fm.start (HQ.out 0 h0).1, (HQ.out 0 h0).2⟩
  clear hcs hI hq hfl hb hF hl
  generalize q.getD 0 0 = m0 at *
  go_enter Try.func38, Try.ntmps38
  go_wp2_with fail
  clear hc0
  go_loopw [5, 6] (fun v v2 W => ∃ (m i : Nat), v = .int .i64 (m : Int) ∧ v2 = .int .i64 (i : Int) ∧ 1 ≤ i ∧ i ≤ n ∧ Hid (RowKit.Below w.heap.size w W) ∧ Hid (Fm (fun x => f.getD x 0) q m i ∧ m < N)) (fun v v2 _ => n - (intV v2).toNat)
  case atStart => exact ⟨m0, 1, rfl, rfl, by omega, by omega, RowKit.Below.refl _ _, HM0⟩
  case round =>
    obtain ⟨m, i, rfl, rfl, h1, hi, HB, HM⟩ := hrel
    by_cases hin : i < n
    · obtain ⟨hca, hcb, hcf⟩ := HC.out wr HB.out
      have hci := hca i hin
      have HCI : Hid (∀ W, RowKit.Below w.heap.size w W → W.cell? ⟨b, off + i, none⟩ = some (.int .i64 ((q.getD i 0 : Nat) : Int))) := fun W hW => (HC.out W hW).1 i hin
      obtain ⟨hqi, hqN⟩ := HQ.out i hin
      have HQI : Hid (q[i]? = some (q.getD i 0) ∧ q.getD i 0 < N) := ⟨hqi, hqN⟩
      have hcy := hcf _ hqN
      have hcm := hcf m HM.out.2
      have HCALL := near1_at hcb hqN HM.out.2 hcy hcm
      have HCL : Hid _ := HCALL
      clear HCALL hca hcf hqi hqN hcy hcm hcb
      generalize q.getD i 0 = y at *
      go_wp2_with fail
      refine Calls.mono HCL.out ?_
      rintro e w' ⟨rfl, hb'⟩
      have HB' : Hid (RowKit.Below w.heap.size w w') := HB.out.trans (hb'.mono HB.out.size)
      have hci' := HCI.out w' HB'.out
      clear HCL hb' hci
      have HCM : Hid (cmpS ((f.getD y 0 : Nat) : Int) ((f.getD m 0 : Nat) : Int) < 0 ↔ f.getD y 0 < f.getD m 0) := by
        show _ ↔ _
        rw [cmpS_lt]; omega
      generalize cmpS ((f.getD y 0 : Nat) : Int) ((f.getD m 0 : Nat) : Int) = cc at *
      by_cases hcc : cc < 0
      · have HM2 : Hid (Fm (fun x => f.getD x 0) q y (i + 1) ∧ y < N) := ⟨HM.out.1.turn HQI.out.1 (HCM.out.1 hcc), HQI.out.2⟩
        go_wp2_with fail
        go_roundw
        case rel => exact ⟨y, i + 1, rfl, rfl, by omega, by omega, HB', HM2⟩
        case measure => simp [intV]; omega
      · have HM2 : Hid (Fm (fun x => f.getD x 0) q m (i + 1) ∧ m < N) := ⟨HM.out.1.keep HQI.out.1 (fun h => hcc (HCM.out.2 h)), HM.out.2⟩
        go_wp2_with fail
        go_roundw
        case rel => exact ⟨m, i + 1, rfl, rfl, by omega, by omega, HB', HM2⟩
        case measure => simp [intV]; omega
    · go_wp2_with fail
      go_ret
      exact ⟨m, rfl, HB.out, by have := HM.out.1; rwa [show i = n by omega] at this⟩

theorem up_nodup {l : List Nat} (h : l.Pairwise (· < ·)) : l.Nodup := by
  unfold List.Nodup
  rw [List.pairwise_iff_getElem] at *
  intro i j hi hj hij
  have := h i j hi hj hij
  omega
set_option maxHeartbeats 2000000 in
set_option maxRecDepth 100000 in
theorem nearest_at {S : Nat → Prop} {w : World} {tv : Value} {g n cg : Nat} {nx : List (List Nat)} {fb cf bF x : Nat} {f : List Nat} (hn : nx.length = n) (hz : n ≤ 9000) (hNX : NIn S w (.slice (some ⟨g, 0, none⟩) n cg) nx) (hwf : ∀ i v, v ∈ nx.getD i [] → v < n) (hup : ∀ i, (nx.getD i []).Pairwise (· < ·)) (hx : x < n) (h0 : nx.getD x [] ≠ [])
    (hF : w.ownsRow bF 3 1 (.slice (some ⟨fb, 0, none⟩) n cf) n (I64 (nz f))) :
    Calls Try.prog 26 #[.agg #[tv, .slice (some ⟨g, 0, none⟩) n cg], .int .i64 (x : Int), .slice (some ⟨fb, 0, none⟩) n cf] w fun e w' => ∃ y : Nat, e = .returned (.int .i64 (y : Int)) ∧ RowKit.Below w.heap.size w w' ∧ Ed nx x y ∧ (∀ z, Ed nx x z → fg f y ≤ fg f z) ∧ ∀ z, Ed nx x z → fg f z = fg f y → y ≤ z := by
  obtain ⟨W1, eW1⟩ : ∃ W1, (w.alloc (Obj.cells #[tv, .slice (some ⟨g, 0, none⟩) n cg] 56)).alloc (Obj.cells #[Value.slice (some ⟨fb, 0, none⟩) n cf] 34) = W1 := ⟨_, rfl⟩
  have hB : RowKit.Below w.heap.size w W1 := by rw [← eW1]; exact below_then (below_alloc w _) (below_alloc _ _)
  have hG : GBx W1 w.heap.size tv (.slice (some ⟨g, 0, none⟩) n cg) := by rw [← eW1]; exact (GBx.new w _ _).later (below_alloc _ _)
  have hV : VBx W1 (w.heap.size + 1) (.slice (some ⟨fb, 0, none⟩) n cf) 34 := by
    rw [← eW1]
    have := VBx.new (w.alloc (Obj.cells #[tv, .slice (some ⟨g, 0, none⟩) n cg] 56)) (.slice (some ⟨fb, 0, none⟩) n cf) 34
    rw [World.size_alloc] at this
    exact this
  obtain ⟨pr, kr, hcr, hir⟩ := NIn.at (hNX.later hB) x (by omega)
  have hfl : f.length = n := by have := hF.1; rw [B.I64_length, nz_length] at this; omega
  have hnd : (nx.getD x []).Nodup := up_nodup (hup x)
  have hl9 : (nx.getD x []).length ≤ 9000 := by
    have := nodup_lt (n := n) hnd fun v hv => hwf x v hv
    omega
  have HCL : Hid _ := minfunc_at (c := kr) rfl hir (List.length_pos_iff.2 h0) hl9 (hwf x) hV (O.own_later hF hB)
  have HFG : Hid (∀ z, Ed nx x z → fg f z = f.getD z 0) := fun z hz => by
    have := hwf x z hz
    show f.getD z NW = f.getD z 0
    simp [List.getD, List.getElem?_eq_getElem (show z < f.length by omega)]
  have hc1 := hG.c1
  have HEQ : Hid (W1 = (w.alloc (Obj.cells #[tv, .slice (some ⟨g, 0, none⟩) n cg] 56)).alloc (Obj.cells #[Value.slice (some ⟨fb, 0, none⟩) n cf] 34)) := eW1.symm
  have HB : Hid (RowKit.Below w.heap.size w W1) := hB
  have HUP : Hid ((nx.getD x []).Pairwise (· < ·)) := hup x
  clear eW1 hB hir hV hnd hup hwf hF hfl h0 hNX
  obtain ⟨rl, hrl⟩ : ∃ rl, (nx.getD x []).length = rl := ⟨_, rfl⟩
  have HRL : Hid ((nx.getD x []).length = rl) := hrl
  rw [hrl] at hcr hl9 HCL
  clear hrl
  go_enter Try.func26, Try.ntmps26
  go_upto_region 1 with fail
  rw [← HEQ.out]
  clear HEQ
  go_wp2_with fail
  refine Calls.mono HCL.out ?_
  rintro e w' ⟨m, rfl, hb, hm⟩
  have HM : Hid (Fm (fun x => f.getD x 0) (nx.getD x []) m rl) := hm
  have HB2 : Hid (RowKit.Below w.heap.size w w') := below_then HB.out hb
  clear hm hb HCL
  go_wp2_with fail
  go_ret
  obtain ⟨j, h1, h2, h3, h4⟩ := HM.out
  have hed : Ed nx x m := List.mem_of_getElem? h2
  refine ⟨m, rfl, HB2.out, hed, fun z hz => ?_, fun z hz e => ?_⟩
  · rw [HFG.out m hed, HFG.out z hz]
    obtain ⟨k, hk, ek⟩ := List.getElem_of_mem (show z ∈ nx.getD x [] from hz)
    exact h3 k z (by have := HRL.out; omega) (by rw [List.getElem?_eq_getElem hk, ek])
  · rw [HFG.out m hed, HFG.out z hz] at e
    obtain ⟨k, hk, ek⟩ := List.getElem_of_mem (show z ∈ nx.getD x [] from hz)
    have hjk : ¬ k < j := fun hc => by
      have := h4 k z hc (by rw [List.getElem?_eq_getElem hk, ek])
      simp only at this; omega
    by_cases ejk : k = j
    · subst ejk
      rw [List.getElem?_eq_getElem hk] at h2
      cases h2; omega
    · have hj : j < (nx.getD x []).length := (List.getElem?_eq_some_iff.1 h2).1
      have := (List.pairwise_iff_getElem.1 HUP.out) j k hj hk (by omega)
      rw [List.getElem?_eq_getElem hj] at h2
      cases h2
      rw [ek] at this; omega
end Go.Proofs.Ytkgjmejpbklabaa
