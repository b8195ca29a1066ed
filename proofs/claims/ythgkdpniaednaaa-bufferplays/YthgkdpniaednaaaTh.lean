/-
  Layer 16: BufferPlays.
-/
import Derived.Test.YthgkdpniaednaaaTi
import Derived.Test.YthgkdpniaednaaaQb
namespace Go.Proofs.Ythgkdpniaednaaa
open Go.RowKit

open B (I64)
namespace W
/-- a step -/
structure Opr where
  kd : Int
  wh : Int
  b : Int
  v : List Int
abbrev Opr.cells (o : Opr) : List Value := ocells o.kd o.wh o.b o.v
/-- a script as it lies -/
structure OIn (w : World) (p : Option Addr) (n : Nat) (f : Nat → Opr) : Prop where
  at' : 0 < n → ∃ b o, p = some ⟨b, o, none⟩ ∧ ∀ i, i < n → w.rangeAt b (o + i * 35) (f i).cells
  wf : ∀ i, i < n → Im.Wf ⟨(f i).b, (f i).v⟩
theorem sizeO : (Try.prog.info? 58).map (·.size) = some 35 := by kernel_rfl
theorem OIn.load {w : World} {b o n : Nat} {f : Nat → Opr} (h : OIn w (some ⟨b, o, none⟩) n f) {i : Nat} (hi : i < n) : (Instr.loadAt 58 (.pointer (some ⟨b, o + i * 35, none⟩))).run Try.prog w = .ok (.agg (f i).cells.toArray) w := by
  obtain ⟨b', o', e, hr⟩ := h.at' (by omega)
  cases e
  exact run_loadAt_mid w b (o + i * 35) 58 (f i).cells _ (hr i hi) Try.underlying58 rfl (by rw [sizeO]; simp [ocells, (h.wf i hi).len])
theorem OIn.later {w w' : World} {p : Option Addr} {n : Nat} {f : Nat → Opr} (h : OIn w p n f) (hb : Below w.heap.size w w') : OIn w' p n f := by
  refine ⟨fun h0 => ?_, h.wf⟩
  obtain ⟨b, o, e, hr⟩ := h.at' h0
  exact ⟨b, o, e, fun i hi => range_block (hr i hi) (hb.block b (range_lt (hr i hi) (by simp [ocells])))⟩
theorem plays_at {w0 w : World} {P N a : Nat} {F : Nat → List Int} {D : Nat → List Im} {fl : Bool} (h : St w0 w P F D fl N a) (hN : N ≤ 8000) (ha : a ≤ 8000) (o : Opr) (hv : Im.Wf ⟨o.b, o.v⟩) : Calls Try.prog 19 #[.pointer (some ⟨P, 0, none⟩), .agg o.cells.toArray] w fun e w' => e = .returned (.bool true) ∧ ∃ F' D', St w0 w' P F' D' fl (N + 1) (a + 2) := by
  obtain ⟨kd, wh, b, v⟩ := o
  by_cases h1 : kd = 1
  · subst h1; exact plays_write h hN ha wh b v hv
  by_cases h2 : kd = 2
  · subst h2; exact plays_read h hN ha wh b v hv
  by_cases h3 : kd = 3
  · subst h3; exact plays_told h hN ha wh b v hv
  by_cases h4 : kd = 4
  · subst h4; exact plays_copy h hN ha wh b v hv
  exact plays_none h hN ha kd wh b v hv h1 h2 h3 h4
theorem buildP (w : World) : (Instr.build 51 #[]).run Try.prog w = .ok (.agg #[.pointer none, .pointer none, .pointer none, .pointer none, .slice none 0 0, .slice none 0 0, .slice none 0 0]) w := by kernel_rfl
theorem iin_three (w : World) : B.IIn (w.alloc (.cells #[.int .i64 0, .int .i64 2, .int .i64 5] 3)) (some ⟨w.heap.size, 0, none⟩) 3 [0, 2, 5] := by
  refine ⟨rfl, fun _ => ⟨w.heap.size, 0, rfl, fun i hi => ?_⟩⟩
  have h : (w.alloc (.cells #[.int .i64 0, .int .i64 2, .int .i64 5] 3)).heap[w.heap.size]? = some (.cells #[.int .i64 0, .int .i64 2, .int .i64 5] 3 (0, 0)) := heap_alloc_new w _
  rw [cell_of_row _ _ _ _ _ _ h]
  rcases (show i = 0 ∨ i = 1 ∨ i = 2 by omega) with rfl | rfl | rfl <;> rfl
theorem is025 : B.isS [0, 2, 5] = true := by decide
/-- behind the marks -/
theorem faded {w0 w : World} {P N a : Nat} {F : Nat → List Int} {D : Nat → List Im} {T TB : Nat → Th} {G : Nat → Prop} {v4 v5 v6 : Value} {us4 us5 us6 : List Value} {ls : List (List Im)} {fs : List (List Int)} (h : PS w0 w P (pcs T) (put TB 6 (.fo false v6 us6 fs)) G) (hs : Sh T F D true N a) (ht : ∀ i, i < 7 → i ≠ 4 → TB i = T i) (h4 : TB 4 = .il false v4 us4 ls) (e5 : T 5 = .il true v5 us5 ls) (e6 : T 6 = .fo true v6 us6 fs) (e4 : T 4 = .il true v4 us4 ls) (hl : ls.length ≤ a ∧ ∀ l ∈ ls, l.length ≤ 16 ∧ ImsWf l) (hf : fs.length ≤ a ∧ ∀ f ∈ fs, f.length ≤ 16) : St w0 w P F D false N a := by
  have h2 := h.fade (k := 5) (by decide) (by rw [put_other _ _ (by decide), ht 5 (by decide) (by decide)]; exact e5) (by decide)
  obtain ⟨T3, hT3⟩ : ∃ T3, T3 = put (put TB 6 (.fo false v6 us6 fs)) 5 (.il false v5 us5 ls) := ⟨_, rfl⟩
  rw [← hT3] at h2
  have g4 : T3 4 = .il false v4 us4 ls := by rw [hT3, put_other _ _ (by decide), put_other _ _ (by decide)]; exact h4
  have g5 : T3 5 = .il false v5 us5 ls := by rw [hT3]; exact put_same _ _ _
  have g6 : T3 6 = .fo false v6 us6 fs := by rw [hT3, put_other _ _ (by decide)]; exact put_same _ _ _
  have g : ∀ i, i < 4 → T3 i = T i := fun i hi => by rw [hT3, put_other _ _ (by omega), put_other _ _ (by omega)]; exact ht i (by omega) (by omega)
  refine ⟨T3, G, ?_, fun j hj => by rw [g j (by omega)]; exact hs.buf j hj, fun j hj => by rw [g (j + 2) (by omega)]; exact hs.ref j hj, hs.is, hs.wf, ⟨_, _, _, _, _, g4, g5, hl.1, hl.2⟩, ⟨_, _, _, g6, hf.1, hf.2⟩⟩
  have hc : pcs T3 = pcs T := by
    simp only [pcs, g 0 (by decide), g 1 (by decide), g 2 (by decide), g 3 (by decide), g4, g5, g6, e4, e5, e6]
    rfl
  rw [hc]
  exact h2
set_option maxHeartbeats 40000000 in
set_option maxRecDepth 100000 in
theorem bufferPlays_any {w : World} {p q r : Option Addr} {n1 c n2 d m cm : Nat} {F1 F2 : List Int} {f : Nat → Opr} (h1 : B.IIn w p n1 F1) (hpc1 : p = none → c = 0) (hnc1 : n1 ≤ c) (hbig1 : n1 + 80 ≤ 17592186044416) (h2 : B.IIn w q n2 F2) (hpc2 : q = none → d = 0) (hnc2 : n2 ≤ d) (hbig2 : n2 + 80 ≤ 17592186044416) (hO : OIn w r m f) (hm : m ≤ 9223372036854775807) :
    Calls Try.prog 5 #[.slice p n1 c, .slice q n2 d, .slice r m cm] w fun e w' => e = .returned (.bool true) ∧ Below w.heap.size w w' := by
  have HI1 : Hid (∀ W, Below w.heap.size w W → B.IIn W p n1 F1) := fun W hW => h1.later hW
  have HI2 : Hid (∀ W, Below w.heap.size w W → B.IIn W q n2 F2) := fun W hW => h2.later hW
  have HO : Hid (OIn w r m f) := hO
  clear h1 h2 hO
  go_enter Try.func5, Try.ntmps5
  go_wp2_with fail
  refine (awake_is w).mono ?_
  rintro e wA ⟨rfl, bA⟩
  have HBA : Hid (Below w.heap.size w wA) := bA
  obtain ⟨wB, hwB⟩ : ∃ wB, wA.alloc (.cells #[.pointer none, .pointer none, .pointer none, .pointer none, .slice none 0 0, .slice none 0 0, .slice none 0 0] 51) = wB := ⟨_, rfl⟩
  have HS : Hid (St0 wA wB wA.heap.size 0) := by rw [← hwB]; exact St0.begin wA
  clear bA
  go_wp2_with ((with_reducible refine at_ops ?_); (first | (refine wpList_build_is (vs := []) (by rfl) 51 rfl (by rfl) (buildP _) ?_) | (refine wpList_box_is (by rfl) 51 rfl _ rfl hwB ?_)); simp only [Act.put, List.setIfInBounds_toArray, List.set_cons_zero, List.set_cons_succ])
  clear hwB
  generalize wA.heap.size = PP at *
  go_loopw [8] (fun v W => ∃ i : Nat, v = .int .i64 (i : Int) ∧ i ≤ 2 ∧ Hid (St0 wA W PP i)) (fun v _ => 2 - (intOf v).toNat)
  case atStart => exact ⟨0, rfl, by omega, HS⟩
  case round =>
    obtain ⟨i0, rfl, hi2, HI⟩ := hrel
    clear HS
    by_cases hlt : i0 < 2
    · rcases (show i0 = 0 ∨ i0 = 1 by omega) with rfl | rfl
      · skip
        obtain ⟨T, G, F0, hp, hs⟩ := HI.out
        have HP0 : Hid (PS wA wr PP (pcs T) T G) := hp
        have HS0 : Hid (Ini T F0 0) := hs
        have HBr : Hid (Below w.heap.size w wr) := below_then HBA.out hp.below
        clear hp hs HI
        go_wp2_with fail
        refine (B.roomy_is p n1 c F1 wr (HI1.out wr HBr.out) hpc1 hnc1 hbig1).mono ?_
        rintro e w2 ⟨g, cap, rfl, hR, b2⟩
        have HP1 : Hid (PS wA w2 PP (pcs T) (put T 8 (.any (.slice (some ⟨g, 0, none⟩) (n1 + 2) cap) (n1 + 2))) G) := HP0.out.fresh b2 8 ⟨_, B.own_mono hR.own (Nat.zero_le _)⟩ (fun b hb => (hR.own.lt b hb).1)
        have HR2 : Hid (B.Room w2 wr.heap.size g n1 cap F1) := hR
        have HB2 : Hid (Below w.heap.size w w2) := below_then HBr.out b2
        have hcap := hR.cap2
        generalize wr.heap.size = nb at *
        clear hR b2 HP0
        go_wp2_with fail
        by_cases hi : B.isS F1 = true
        · skip
          have HIS : Hid (B.isS F1 = true) := hi
          refine (new_at HR2.out.read (by omega) (by omega) hi).mono ?_
          rintro e w3 ⟨Q, pf, cf, rfl, hN, hfr⟩
          obtain ⟨G3, hp3, -⟩ := HP1.out.newB hN (fun a ha => .inr (hfr a ha)) 9
          have HP3 : Hid (PS wA w3 PP (pcs T) (put (put T 8 (.any (.slice (some ⟨g, 0, none⟩) (n1 + 2) cap) (n1 + 2))) 9 (.buf Q pf cf F1 (.slice none 0 0) [])) G3) := hp3
          have HR3 : Hid (B.Room w3 nb g n1 cap F1) := HR2.out.later hN.below
          have HB3 : Hid (Below w.heap.size w w3) := below_then HB2.out hN.below
          clear hN hp3 HP1 HR2 hfr
          go_wp2_with fail
          refine (rnew_at (HI1.out w3 HB3.out) hpc1 hnc1 (by omega) HIS.out).mono ?_
          rintro e w4 ⟨R, ps, cs, rfl, hN⟩
          obtain ⟨G4, hp4, -⟩ := HP3.out.newR hN 10
          have HR4 : Hid (B.Room w4 nb g n1 cap F1) := HR3.out.later hN.below
          have HB4 : Hid (Below w.heap.size w w4) := below_then HB3.out hN.below
          obtain ⟨TC, hTC⟩ : ∃ TC, TC = put (put (put T 8 (.any (.slice (some ⟨g, 0, none⟩) (n1 + 2) cap) (n1 + 2))) 9 (.buf Q pf cf F1 (.slice none 0 0) [])) 10 (.ref R ps cs F1 (.slice none 0 0) []) := ⟨_, rfl⟩
          have HTC : Hid (∀ i, i < 7 → TC i = T i) := fun i hi => by rw [hTC, put_other _ _ (by omega), put_other _ _ (by omega), put_other _ _ (by omega)]
          have HE8 : Hid (TC 8 = .any (.slice (some ⟨g, 0, none⟩) (n1 + 2) cap) (n1 + 2)) := by rw [hTC]; rfl
          have HE9 : Hid (TC 9 = .buf Q pf cf F1 (.slice none 0 0) []) := by rw [hTC]; rfl
          have HE10 : Hid (TC 10 = .ref R ps cs F1 (.slice none 0 0) []) := by rw [hTC]; rfl
          have HP4 : Hid (PS wA w4 PP (pcs T) TC G4) := by rw [hTC]; exact hp4
          clear hN hp4 HP3 HR3 hTC hi
          go_wp2_with fail
          refine (B.held_is _ g n1 cap _ _ F1 w4 HR4.out hbig1 (HI1.out w4 HB4.out)).mono ?_
          rintro e w5 ⟨rfl, b5⟩
          have HPM : Hid (PS wA w5 PP (pcs T) TC G4) := HP4.out.later b5
          clear b5 HP4 HR4 HB4 HB2 HB3 HBr
          go_wp2_with fail
          go_loopw [15] (fun v W => ∃ k : Nat, v = .int .i64 (k : Int) ∧ k ≤ n1 ∧ Hid (PS wA W PP (pcs T) TC G4)) (fun v _ => n1 - (intOf v).toNat)
          case atStart => exact ⟨0, rfl, Nat.zero_le _, HPM⟩
          case round =>
            obtain ⟨k, rfl, hk, HK⟩ := hrel
            clear HPM
            by_cases hkn : k < n1
            · obtain ⟨xs, hx⟩ := HK.out.any (k := 8) (by decide) HE8.out
              have hxl : xs.length = n1 + 2 := by have := hx.1; omega
              obtain ⟨xk, hxk⟩ : ∃ xk, xs[k]? = some xk := ⟨_, List.getElem?_eq_getElem (by omega)⟩
              have hcv : wr.cell? ⟨g, k, none⟩ = some xk := O.own_cell hx hxk
              have hfv : wr.frozen? ⟨g, k, none⟩ = false := O.own_free hx k
              have HM : Hid (PS wA (wr.setCell ⟨g, k, none⟩ (.int .i64 (63 - (k : Int)))) PP (pcs T) TC G4) := HK.out.mark (by decide) HE8.out _
              have k1 : (k : Int) < (n1 : Int) := by omega
              have k2 : (0 : Int) ≤ (k : Int) := by omega
              have k3 : (n1 : Int) ≤ 17592186044416 := by omega
              clear hxk hx hxl HK
              go_wp2_with fail
              go_roundw
              case rel => exact ⟨k + 1, by go_num, by omega, HM⟩
              case measure => simp [intOf]; omega
            · obtain hkn2 : k = n1 := by omega
              have hnl : ¬ (k : Int) < (n1 : Int) := by omega
              go_wp2_with fail
              have HPQ := HK
              obtain ⟨GC, hGC⟩ : ∃ GC, GC = G4 := ⟨_, rfl⟩
              rw [← hGC] at HPQ
              clear hGC HK
              refine wp_region_noPanic ?_
              refine wp_region_held_drew (S := fun _ => True) (by kernel_rfl) trivial (fun hHeld => ?_)
              have HPS : Hid (PS wA wr.drew PP (pcs T) TC GC) := HPQ.out.later (below_drawn 1)
              clear HPQ
              generalize wr.drew = xS at *
              refine wpAnyH_take (i := 0) (v := ?va31) (by simp; rfl) (by kernel_rfl) (by kernel_rfl) (by kernel_rfl) (fun _ _ _ h => h) (Or.inl ⟨by rfl, ?ya31⟩) hHeld ?ra31
              case ya31 => intro w hSw; clear hSw; go_simp; with_reducible rfl
              simp only [Act.put, List.setIfInBounds_toArray, List.set_cons_zero, List.set_cons_succ]
              refine wpAnyH_take (i := 1) (v := ?va32) (by simp; rfl) (by kernel_rfl) (by kernel_rfl) (by kernel_rfl) (fun _ _ _ h => h) (Or.inl ⟨by rfl, ?ya32⟩) hHeld ?ra32
              case ya32 => intro w hSw; clear hSw; go_simp; with_reducible rfl
              simp only [Act.put, List.setIfInBounds_toArray, List.set_cons_zero, List.set_cons_succ]
              refine wpAnyH_take (i := 2) (v := ?va33) (by simp; rfl) (by kernel_rfl) (by kernel_rfl) (by kernel_rfl) (fun _ _ _ h => h) (Or.inl ⟨by rfl, ?ya33⟩) hHeld ?ra33
              case ya33 => intro w hSw; clear hSw; go_simp; with_reducible rfl
              simp only [Act.put, List.setIfInBounds_toArray, List.set_cons_zero, List.set_cons_succ]
              refine wpAnyH_take (i := 3) (v := ?va34) (by simp; rfl) (by kernel_rfl) (by kernel_rfl) (by kernel_rfl) (fun _ _ _ h => h) (Or.inl ⟨by rfl, ?ya34⟩) hHeld ?ra34
              case ya34 => intro w hSw; clear hSw; go_simp; with_reducible rfl
              simp only [Act.put, List.setIfInBounds_toArray, List.set_cons_zero, List.set_cons_succ]
              refine wpAnyH_take (i := 4) (v := ?va35) (by simp; rfl) (by kernel_rfl) (by kernel_rfl) (by kernel_rfl) (fun _ _ _ h => h) (Or.inl ⟨by rfl, ?ya35⟩) hHeld ?ra35
              case ya35 => intro w hSw; clear hSw; go_simp; with_reducible rfl
              simp only [Act.put, List.setIfInBounds_toArray, List.set_cons_zero, List.set_cons_succ]
              refine wpAnyH_take (i := 5) (v := ?va36) (by simp; rfl) (by kernel_rfl) (by kernel_rfl) (by kernel_rfl) (fun _ _ _ h => h) (Or.inl ⟨by rfl, ?ya36⟩) hHeld ?ra36
              case ya36 => intro w hSw; clear hSw; go_simp; with_reducible rfl
              simp only [Act.put, List.setIfInBounds_toArray, List.set_cons_zero, List.set_cons_succ]
              refine wpAnyH_take (i := 6) (v := ?va37) (by simp; rfl) (by kernel_rfl) (by kernel_rfl) (by kernel_rfl) (fun _ _ _ h => h) (Or.inl ⟨by rfl, ?ya37⟩) hHeld ?ra37
              case ya37 => intro w hSw; clear hSw; go_simp; with_reducible rfl
              simp only [Act.put, List.setIfInBounds_toArray, List.set_cons_zero, List.set_cons_succ]
              refine wpAnyH_take (i := 7) (v := ?va38) (by simp; rfl) (by kernel_rfl) (by kernel_rfl) (by kernel_rfl) (fun _ _ _ h => h) (Or.inl ⟨by rfl, ?ya38⟩) hHeld ?ra38
              case ya38 => intro w hSw; clear hSw; go_simp; with_reducible rfl
              simp only [Act.put, List.setIfInBounds_toArray, List.set_cons_zero, List.set_cons_succ]
              refine wpAnyH_take (i := 8) (v := ?va39) (by simp; rfl) (by kernel_rfl) (by kernel_rfl) (by kernel_rfl) (fun _ _ _ h => h) (Or.inl ⟨by rfl, ?ya39⟩) hHeld ?ra39
              case ya39 => intro w hSw; clear hSw; go_simp; with_reducible rfl
              simp only [Act.put, List.setIfInBounds_toArray, List.set_cons_zero, List.set_cons_succ]
              refine wpAnyH_take (i := 10) (v := ?va40) (by simp; rfl) (by kernel_rfl) (by kernel_rfl) (by kernel_rfl) (fun _ _ _ h => h) (Or.inl ⟨by rfl, ?ya40⟩) hHeld ?ra40
              case ya40 => intro w hSw; clear hSw; go_simp; with_reducible rfl
              simp only [Act.put, List.setIfInBounds_toArray, List.set_cons_zero, List.set_cons_succ]
              refine wpAnyH_take (i := 11) (v := ?va41) (by simp; rfl) (by kernel_rfl) (by kernel_rfl) (by kernel_rfl) (fun _ _ _ h => h) (Or.inl ⟨by rfl, ?ya41⟩) hHeld ?ra41
              case ya41 => intro w hSw; clear hSw; go_simp; with_reducible rfl
              simp only [Act.put, List.setIfInBounds_toArray, List.set_cons_zero, List.set_cons_succ]
              refine wpAnyH_ready (rs := [9]) (by kernel_rfl) (by simp) ?_
              refine AllReadyH.cons (by simp; rfl) (fun Kc hKc => ?_) AllReadyH.nil
              have hcv : xS.cell? ⟨PP, 0, none⟩ = some (T 0).val := HPS.out.cell (pcs_get (by decide))
              have hfv := HPS.out.free 0
              go_simp
              have HP6 : Hid (PS wA (xS.setCell ⟨PP, 0, none⟩ (.pointer (some ⟨Q, 0, none⟩))) PP ((pcs T).setIfInBounds 0 (.pointer (some ⟨Q, 0, none⟩))) TC GC) := HPS.out.store 0 _
              refine hKc.out _ _ trivial (fun hHeld => ?_)
              clear hKc Kc hcv hfv HPS
              generalize xS.setCell ⟨PP, 0, none⟩ (.pointer (some ⟨Q, 0, none⟩)) = x6 at *

              refine wpAnyH_take (i := 12) (v := ?va42) (by simp; rfl) (by kernel_rfl) (by kernel_rfl) (by kernel_rfl) (fun _ _ _ h => h) (Or.inl ⟨by rfl, ?ya42⟩) hHeld ?ra42
              case ya42 => intro w hSw; clear hSw; go_simp; with_reducible rfl
              simp only [Act.put, List.setIfInBounds_toArray, List.set_cons_zero, List.set_cons_succ]
              refine wpAnyH_ready (rs := [13]) (by kernel_rfl) (by simp) ?_
              refine AllReadyH.cons (by simp; rfl) (fun Kc hKc => ?_) AllReadyH.nil
              have hcv : x6.cell? ⟨PP, 2, none⟩ = some (T 2).val := HP6.out.cell rfl
              have hfv := HP6.out.free 2
              go_simp
              have HP7 : Hid (PS wA (x6.setCell ⟨PP, 2, none⟩ (.pointer (some ⟨R, 0, none⟩))) PP (((pcs T).setIfInBounds 0 (.pointer (some ⟨Q, 0, none⟩))).setIfInBounds 2 (.pointer (some ⟨R, 0, none⟩))) TC GC) := HP6.out.store 2 _
              refine hKc.out _ _ trivial (fun hHeld => ?_)
              clear hKc Kc hcv hfv HP6
              generalize x6.setCell ⟨PP, 2, none⟩ (.pointer (some ⟨R, 0, none⟩)) = x7 at *

              refine wpAnyH_done (by kernel_rfl) (NoPanic.normal ?_) _
              have HZ : Hid (St0 wA x7 PP 1) := ini_next HS0.out HTC.out HP7.out HE9.out HE10.out (by decide) HIS.out
              clear HP7
              go_wp2_with fail
              go_roundw
              case rel => exact ⟨1, by first | rfl | go_num, by omega, HZ⟩
              case measure => simp [intOf]
        · have hif : B.isS F1 = false := by simpa using hi
          have HIS : Hid (B.isS F1 = false) := hif
          refine (new_no HR2.out.read (by omega) (by omega) hif).mono ?_
          rintro e w3 ⟨rfl, rfl⟩
          go_wp2_with fail
          refine (rnew_no (HI1.out w3 HB2.out) (by omega) HIS.out).mono ?_
          rintro e w4 ⟨rfl, b4⟩
          have HR4 : Hid (B.Room w4 nb g n1 cap F1) := HR2.out.later b4
          have HB4 : Hid (Below w.heap.size w w4) := below_then HB2.out b4
          obtain ⟨TM, hTM⟩ : ∃ TM, TM = put T 8 (.any (.slice (some ⟨g, 0, none⟩) (n1 + 2) cap) (n1 + 2)) := ⟨_, rfl⟩
          have HTM : Hid (∀ i, i < 7 → TM i = T i) := fun i hi => by rw [hTM, put_other _ _ (by omega)]
          have HE8 : Hid (TM 8 = .any (.slice (some ⟨g, 0, none⟩) (n1 + 2) cap) (n1 + 2)) := by rw [hTM]; rfl
          have HP4 : Hid (PS wA w4 PP (pcs T) TM G) := by rw [hTM]; exact HP1.out.later b4
          clear b4 HR2 hTM hi hif HP1
          go_wp2_with fail
          refine (B.held_is _ g n1 cap _ _ F1 w4 HR4.out hbig1 (HI1.out w4 HB4.out)).mono ?_
          rintro e w5 ⟨rfl, b5⟩
          have HPM : Hid (PS wA w5 PP (pcs T) TM G) := HP4.out.later b5
          clear b5 HP4 HR4 HB4 HB2 HBr HIS
          go_wp2_with fail
          go_loopw [15] (fun v W => ∃ k : Nat, v = .int .i64 (k : Int) ∧ k ≤ n1 ∧ Hid (PS wA W PP (pcs T) TM G)) (fun v _ => n1 - (intOf v).toNat)
          case atStart => exact ⟨0, rfl, Nat.zero_le _, HPM⟩
          case round =>
            obtain ⟨k, rfl, hk, HK⟩ := hrel
            clear HPM
            by_cases hkn : k < n1
            · obtain ⟨xs, hx⟩ := HK.out.any (k := 8) (by decide) HE8.out
              have hxl : xs.length = n1 + 2 := by have := hx.1; omega
              obtain ⟨xk, hxk⟩ : ∃ xk, xs[k]? = some xk := ⟨_, List.getElem?_eq_getElem (by omega)⟩
              have hcv : wr.cell? ⟨g, k, none⟩ = some xk := O.own_cell hx hxk
              have hfv : wr.frozen? ⟨g, k, none⟩ = false := O.own_free hx k
              have HM : Hid (PS wA (wr.setCell ⟨g, k, none⟩ (.int .i64 (63 - (k : Int)))) PP (pcs T) TM G) := HK.out.mark (by decide) HE8.out _
              have k1 : (k : Int) < (n1 : Int) := by omega
              have k2 : (0 : Int) ≤ (k : Int) := by omega
              have k3 : (n1 : Int) ≤ 17592186044416 := by omega
              clear hxk hx hxl HK
              go_wp2_with fail
              go_roundw
              case rel => exact ⟨k + 1, by go_num, by omega, HM⟩
              case measure => simp [intOf]; omega
            · obtain hkn2 : k = n1 := by omega
              have hnl : ¬ (k : Int) < (n1 : Int) := by omega
              go_wp2_with fail
              refine (new_at (iin_three wr) (by decide) (by decide) is025).mono ?_
              rintro e w6 ⟨Q, pf, cf, rfl, hN, hfr⟩
              obtain ⟨G6, hp6, -⟩ := (HK.out.later (below_alloc wr _)).newB hN (fun a ha => .inr (hfr a ha)) 9
              have HP6' : Hid (PS wA w6 PP (pcs T) (put TM 9 (.buf Q pf cf [0, 2, 5] (.slice none 0 0) [])) G6) := hp6
              clear hN hp6 hfr HK
              go_wp2_with fail
              refine (rnew_at (iin_three w6) (fun h => by cases h) (by decide) (by decide) is025).mono ?_
              rintro e w8 ⟨R, ps, cs, rfl, hN⟩
              obtain ⟨GC, hp8, -⟩ := (HP6'.out.later (below_alloc w6 _)).newR hN 10
              obtain ⟨TC, hTC⟩ : ∃ TC, TC = put (put TM 9 (.buf Q pf cf [0, 2, 5] (.slice none 0 0) [])) 10 (.ref R ps cs [0, 2, 5] (.slice none 0 0) []) := ⟨_, rfl⟩
              have HTC : Hid (∀ i, i < 7 → TC i = T i) := fun i hi => by rw [hTC, put_other _ _ (by omega), put_other _ _ (by omega)]; exact HTM.out i hi
              have HE9 : Hid (TC 9 = .buf Q pf cf [0, 2, 5] (.slice none 0 0) []) := by rw [hTC]; rfl
              have HE10 : Hid (TC 10 = .ref R ps cs [0, 2, 5] (.slice none 0 0) []) := by rw [hTC]; rfl
              have HPQ : Hid (PS wA w8 PP (pcs T) TC GC) := by rw [hTC]; exact hp8
              clear hN hp8 hTC HP6'
              go_wp2_with fail
              refine wp_region_noPanic ?_
              refine wp_region_held_drew (S := fun _ => True) (by kernel_rfl) trivial (fun hHeld => ?_)
              have HPS : Hid (PS wA w8.drew PP (pcs T) TC GC) := HPQ.out.later (below_drawn 1)
              clear HPQ
              generalize w8.drew = xS at *
              refine wpAnyH_take (i := 0) (v := ?va43) (by simp; rfl) (by kernel_rfl) (by kernel_rfl) (by kernel_rfl) (fun _ _ _ h => h) (Or.inl ⟨by rfl, ?ya43⟩) hHeld ?ra43
              case ya43 => intro w hSw; clear hSw; go_simp; with_reducible rfl
              simp only [Act.put, List.setIfInBounds_toArray, List.set_cons_zero, List.set_cons_succ]
              refine wpAnyH_take (i := 1) (v := ?va44) (by simp; rfl) (by kernel_rfl) (by kernel_rfl) (by kernel_rfl) (fun _ _ _ h => h) (Or.inl ⟨by rfl, ?ya44⟩) hHeld ?ra44
              case ya44 => intro w hSw; clear hSw; go_simp; with_reducible rfl
              simp only [Act.put, List.setIfInBounds_toArray, List.set_cons_zero, List.set_cons_succ]
              refine wpAnyH_take (i := 2) (v := ?va45) (by simp; rfl) (by kernel_rfl) (by kernel_rfl) (by kernel_rfl) (fun _ _ _ h => h) (Or.inl ⟨by rfl, ?ya45⟩) hHeld ?ra45
              case ya45 => intro w hSw; clear hSw; go_simp; with_reducible rfl
              simp only [Act.put, List.setIfInBounds_toArray, List.set_cons_zero, List.set_cons_succ]
              refine wpAnyH_take (i := 3) (v := ?va46) (by simp; rfl) (by kernel_rfl) (by kernel_rfl) (by kernel_rfl) (fun _ _ _ h => h) (Or.inl ⟨by rfl, ?ya46⟩) hHeld ?ra46
              case ya46 => intro w hSw; clear hSw; go_simp; with_reducible rfl
              simp only [Act.put, List.setIfInBounds_toArray, List.set_cons_zero, List.set_cons_succ]
              refine wpAnyH_take (i := 4) (v := ?va47) (by simp; rfl) (by kernel_rfl) (by kernel_rfl) (by kernel_rfl) (fun _ _ _ h => h) (Or.inl ⟨by rfl, ?ya47⟩) hHeld ?ra47
              case ya47 => intro w hSw; clear hSw; go_simp; with_reducible rfl
              simp only [Act.put, List.setIfInBounds_toArray, List.set_cons_zero, List.set_cons_succ]
              refine wpAnyH_take (i := 5) (v := ?va48) (by simp; rfl) (by kernel_rfl) (by kernel_rfl) (by kernel_rfl) (fun _ _ _ h => h) (Or.inl ⟨by rfl, ?ya48⟩) hHeld ?ra48
              case ya48 => intro w hSw; clear hSw; go_simp; with_reducible rfl
              simp only [Act.put, List.setIfInBounds_toArray, List.set_cons_zero, List.set_cons_succ]
              refine wpAnyH_take (i := 6) (v := ?va49) (by simp; rfl) (by kernel_rfl) (by kernel_rfl) (by kernel_rfl) (fun _ _ _ h => h) (Or.inl ⟨by rfl, ?ya49⟩) hHeld ?ra49
              case ya49 => intro w hSw; clear hSw; go_simp; with_reducible rfl
              simp only [Act.put, List.setIfInBounds_toArray, List.set_cons_zero, List.set_cons_succ]
              refine wpAnyH_take (i := 7) (v := ?va50) (by simp; rfl) (by kernel_rfl) (by kernel_rfl) (by kernel_rfl) (fun _ _ _ h => h) (Or.inl ⟨by rfl, ?ya50⟩) hHeld ?ra50
              case ya50 => intro w hSw; clear hSw; go_simp; with_reducible rfl
              simp only [Act.put, List.setIfInBounds_toArray, List.set_cons_zero, List.set_cons_succ]
              refine wpAnyH_take (i := 8) (v := ?va51) (by simp; rfl) (by kernel_rfl) (by kernel_rfl) (by kernel_rfl) (fun _ _ _ h => h) (Or.inl ⟨by rfl, ?ya51⟩) hHeld ?ra51
              case ya51 => intro w hSw; clear hSw; go_simp; with_reducible rfl
              simp only [Act.put, List.setIfInBounds_toArray, List.set_cons_zero, List.set_cons_succ]
              refine wpAnyH_take (i := 10) (v := ?va52) (by simp; rfl) (by kernel_rfl) (by kernel_rfl) (by kernel_rfl) (fun _ _ _ h => h) (Or.inl ⟨by rfl, ?ya52⟩) hHeld ?ra52
              case ya52 => intro w hSw; clear hSw; go_simp; with_reducible rfl
              simp only [Act.put, List.setIfInBounds_toArray, List.set_cons_zero, List.set_cons_succ]
              refine wpAnyH_take (i := 11) (v := ?va53) (by simp; rfl) (by kernel_rfl) (by kernel_rfl) (by kernel_rfl) (fun _ _ _ h => h) (Or.inl ⟨by rfl, ?ya53⟩) hHeld ?ra53
              case ya53 => intro w hSw; clear hSw; go_simp; with_reducible rfl
              simp only [Act.put, List.setIfInBounds_toArray, List.set_cons_zero, List.set_cons_succ]
              refine wpAnyH_ready (rs := [9]) (by kernel_rfl) (by simp) ?_
              refine AllReadyH.cons (by simp; rfl) (fun Kc hKc => ?_) AllReadyH.nil
              have hcv : xS.cell? ⟨PP, 0, none⟩ = some (T 0).val := HPS.out.cell (pcs_get (by decide))
              have hfv := HPS.out.free 0
              go_simp
              have HP6 : Hid (PS wA (xS.setCell ⟨PP, 0, none⟩ (.pointer (some ⟨Q, 0, none⟩))) PP ((pcs T).setIfInBounds 0 (.pointer (some ⟨Q, 0, none⟩))) TC GC) := HPS.out.store 0 _
              refine hKc.out _ _ trivial (fun hHeld => ?_)
              clear hKc Kc hcv hfv HPS
              generalize xS.setCell ⟨PP, 0, none⟩ (.pointer (some ⟨Q, 0, none⟩)) = x6 at *

              refine wpAnyH_take (i := 12) (v := ?va54) (by simp; rfl) (by kernel_rfl) (by kernel_rfl) (by kernel_rfl) (fun _ _ _ h => h) (Or.inl ⟨by rfl, ?ya54⟩) hHeld ?ra54
              case ya54 => intro w hSw; clear hSw; go_simp; with_reducible rfl
              simp only [Act.put, List.setIfInBounds_toArray, List.set_cons_zero, List.set_cons_succ]
              refine wpAnyH_ready (rs := [13]) (by kernel_rfl) (by simp) ?_
              refine AllReadyH.cons (by simp; rfl) (fun Kc hKc => ?_) AllReadyH.nil
              have hcv : x6.cell? ⟨PP, 2, none⟩ = some (T 2).val := HP6.out.cell rfl
              have hfv := HP6.out.free 2
              go_simp
              have HP7 : Hid (PS wA (x6.setCell ⟨PP, 2, none⟩ (.pointer (some ⟨R, 0, none⟩))) PP (((pcs T).setIfInBounds 0 (.pointer (some ⟨Q, 0, none⟩))).setIfInBounds 2 (.pointer (some ⟨R, 0, none⟩))) TC GC) := HP6.out.store 2 _
              refine hKc.out _ _ trivial (fun hHeld => ?_)
              clear hKc Kc hcv hfv HP6
              generalize x6.setCell ⟨PP, 2, none⟩ (.pointer (some ⟨R, 0, none⟩)) = x7 at *

              refine wpAnyH_done (by kernel_rfl) (NoPanic.normal ?_) _
              have HZ : Hid (St0 wA x7 PP 1) := ini_next HS0.out HTC.out HP7.out HE9.out HE10.out (by decide) is025
              clear HP7
              go_wp2_with fail
              go_roundw
              case rel => exact ⟨1, by first | rfl | go_num, by omega, HZ⟩
              case measure => simp [intOf]

      · skip
        obtain ⟨T, G, F0, hp, hs⟩ := HI.out
        have HP0 : Hid (PS wA wr PP (pcs T) T G) := hp
        have HS0 : Hid (Ini T F0 1) := hs
        have HBr : Hid (Below w.heap.size w wr) := below_then HBA.out hp.below
        clear hp hs HI
        go_wp2_with fail
        refine (B.roomy_is q n2 d F2 wr (HI2.out wr HBr.out) hpc2 hnc2 hbig2).mono ?_
        rintro e w2 ⟨g, cap, rfl, hR, b2⟩
        have HP1 : Hid (PS wA w2 PP (pcs T) (put T 8 (.any (.slice (some ⟨g, 0, none⟩) (n2 + 2) cap) (n2 + 2))) G) := HP0.out.fresh b2 8 ⟨_, B.own_mono hR.own (Nat.zero_le _)⟩ (fun b hb => (hR.own.lt b hb).1)
        have HR2 : Hid (B.Room w2 wr.heap.size g n2 cap F2) := hR
        have HB2 : Hid (Below w.heap.size w w2) := below_then HBr.out b2
        have hcap := hR.cap2
        generalize wr.heap.size = nb at *
        clear hR b2 HP0
        go_wp2_with fail
        by_cases hi : B.isS F2 = true
        · skip
          have HIS : Hid (B.isS F2 = true) := hi
          refine (new_at HR2.out.read (by omega) (by omega) hi).mono ?_
          rintro e w3 ⟨Q, pf, cf, rfl, hN, hfr⟩
          obtain ⟨G3, hp3, -⟩ := HP1.out.newB hN (fun a ha => .inr (hfr a ha)) 9
          have HP3 : Hid (PS wA w3 PP (pcs T) (put (put T 8 (.any (.slice (some ⟨g, 0, none⟩) (n2 + 2) cap) (n2 + 2))) 9 (.buf Q pf cf F2 (.slice none 0 0) [])) G3) := hp3
          have HR3 : Hid (B.Room w3 nb g n2 cap F2) := HR2.out.later hN.below
          have HB3 : Hid (Below w.heap.size w w3) := below_then HB2.out hN.below
          clear hN hp3 HP1 HR2 hfr
          go_wp2_with fail
          refine (rnew_at (HI2.out w3 HB3.out) hpc2 hnc2 (by omega) HIS.out).mono ?_
          rintro e w4 ⟨R, ps, cs, rfl, hN⟩
          obtain ⟨G4, hp4, -⟩ := HP3.out.newR hN 10
          have HR4 : Hid (B.Room w4 nb g n2 cap F2) := HR3.out.later hN.below
          have HB4 : Hid (Below w.heap.size w w4) := below_then HB3.out hN.below
          obtain ⟨TC, hTC⟩ : ∃ TC, TC = put (put (put T 8 (.any (.slice (some ⟨g, 0, none⟩) (n2 + 2) cap) (n2 + 2))) 9 (.buf Q pf cf F2 (.slice none 0 0) [])) 10 (.ref R ps cs F2 (.slice none 0 0) []) := ⟨_, rfl⟩
          have HTC : Hid (∀ i, i < 7 → TC i = T i) := fun i hi => by rw [hTC, put_other _ _ (by omega), put_other _ _ (by omega), put_other _ _ (by omega)]
          have HE8 : Hid (TC 8 = .any (.slice (some ⟨g, 0, none⟩) (n2 + 2) cap) (n2 + 2)) := by rw [hTC]; rfl
          have HE9 : Hid (TC 9 = .buf Q pf cf F2 (.slice none 0 0) []) := by rw [hTC]; rfl
          have HE10 : Hid (TC 10 = .ref R ps cs F2 (.slice none 0 0) []) := by rw [hTC]; rfl
          have HP4 : Hid (PS wA w4 PP (pcs T) TC G4) := by rw [hTC]; exact hp4
          clear hN hp4 HP3 HR3 hTC hi
          go_wp2_with fail
          refine (B.held_is _ g n2 cap _ _ F2 w4 HR4.out hbig2 (HI2.out w4 HB4.out)).mono ?_
          rintro e w5 ⟨rfl, b5⟩
          have HPM : Hid (PS wA w5 PP (pcs T) TC G4) := HP4.out.later b5
          clear b5 HP4 HR4 HB4 HB2 HB3 HBr
          go_wp2_with fail
          go_loopw [15] (fun v W => ∃ k : Nat, v = .int .i64 (k : Int) ∧ k ≤ n2 ∧ Hid (PS wA W PP (pcs T) TC G4)) (fun v _ => n2 - (intOf v).toNat)
          case atStart => exact ⟨0, rfl, Nat.zero_le _, HPM⟩
          case round =>
            obtain ⟨k, rfl, hk, HK⟩ := hrel
            clear HPM
            by_cases hkn : k < n2
            · obtain ⟨xs, hx⟩ := HK.out.any (k := 8) (by decide) HE8.out
              have hxl : xs.length = n2 + 2 := by have := hx.1; omega
              obtain ⟨xk, hxk⟩ : ∃ xk, xs[k]? = some xk := ⟨_, List.getElem?_eq_getElem (by omega)⟩
              have hcv : wr.cell? ⟨g, k, none⟩ = some xk := O.own_cell hx hxk
              have hfv : wr.frozen? ⟨g, k, none⟩ = false := O.own_free hx k
              have HM : Hid (PS wA (wr.setCell ⟨g, k, none⟩ (.int .i64 (63 - (k : Int)))) PP (pcs T) TC G4) := HK.out.mark (by decide) HE8.out _
              have k1 : (k : Int) < (n2 : Int) := by omega
              have k2 : (0 : Int) ≤ (k : Int) := by omega
              have k3 : (n2 : Int) ≤ 17592186044416 := by omega
              clear hxk hx hxl HK
              go_wp2_with fail
              go_roundw
              case rel => exact ⟨k + 1, by go_num, by omega, HM⟩
              case measure => simp [intOf]; omega
            · obtain hkn2 : k = n2 := by omega
              have hnl : ¬ (k : Int) < (n2 : Int) := by omega
              go_wp2_with fail
              have HPQ := HK
              obtain ⟨GC, hGC⟩ : ∃ GC, GC = G4 := ⟨_, rfl⟩
              rw [← hGC] at HPQ
              clear hGC HK
              refine wp_region_noPanic ?_
              refine wp_region_held_drew (S := fun _ => True) (by kernel_rfl) trivial (fun hHeld => ?_)
              have HPS : Hid (PS wA wr.drew PP (pcs T) TC GC) := HPQ.out.later (below_drawn 1)
              clear HPQ
              generalize wr.drew = xS at *
              refine wpAnyH_take (i := 0) (v := ?va55) (by simp; rfl) (by kernel_rfl) (by kernel_rfl) (by kernel_rfl) (fun _ _ _ h => h) (Or.inl ⟨by rfl, ?ya55⟩) hHeld ?ra55
              case ya55 => intro w hSw; clear hSw; go_simp; with_reducible rfl
              simp only [Act.put, List.setIfInBounds_toArray, List.set_cons_zero, List.set_cons_succ]
              refine wpAnyH_take (i := 1) (v := ?va56) (by simp; rfl) (by kernel_rfl) (by kernel_rfl) (by kernel_rfl) (fun _ _ _ h => h) (Or.inl ⟨by rfl, ?ya56⟩) hHeld ?ra56
              case ya56 => intro w hSw; clear hSw; go_simp; with_reducible rfl
              simp only [Act.put, List.setIfInBounds_toArray, List.set_cons_zero, List.set_cons_succ]
              refine wpAnyH_take (i := 2) (v := ?va57) (by simp; rfl) (by kernel_rfl) (by kernel_rfl) (by kernel_rfl) (fun _ _ _ h => h) (Or.inl ⟨by rfl, ?ya57⟩) hHeld ?ra57
              case ya57 => intro w hSw; clear hSw; go_simp; with_reducible rfl
              simp only [Act.put, List.setIfInBounds_toArray, List.set_cons_zero, List.set_cons_succ]
              refine wpAnyH_take (i := 3) (v := ?va58) (by simp; rfl) (by kernel_rfl) (by kernel_rfl) (by kernel_rfl) (fun _ _ _ h => h) (Or.inl ⟨by rfl, ?ya58⟩) hHeld ?ra58
              case ya58 => intro w hSw; clear hSw; go_simp; with_reducible rfl
              simp only [Act.put, List.setIfInBounds_toArray, List.set_cons_zero, List.set_cons_succ]
              refine wpAnyH_take (i := 4) (v := ?va59) (by simp; rfl) (by kernel_rfl) (by kernel_rfl) (by kernel_rfl) (fun _ _ _ h => h) (Or.inl ⟨by rfl, ?ya59⟩) hHeld ?ra59
              case ya59 => intro w hSw; clear hSw; go_simp; with_reducible rfl
              simp only [Act.put, List.setIfInBounds_toArray, List.set_cons_zero, List.set_cons_succ]
              refine wpAnyH_take (i := 5) (v := ?va60) (by simp; rfl) (by kernel_rfl) (by kernel_rfl) (by kernel_rfl) (fun _ _ _ h => h) (Or.inl ⟨by rfl, ?ya60⟩) hHeld ?ra60
              case ya60 => intro w hSw; clear hSw; go_simp; with_reducible rfl
              simp only [Act.put, List.setIfInBounds_toArray, List.set_cons_zero, List.set_cons_succ]
              refine wpAnyH_take (i := 6) (v := ?va61) (by simp; rfl) (by kernel_rfl) (by kernel_rfl) (by kernel_rfl) (fun _ _ _ h => h) (Or.inl ⟨by rfl, ?ya61⟩) hHeld ?ra61
              case ya61 => intro w hSw; clear hSw; go_simp; with_reducible rfl
              simp only [Act.put, List.setIfInBounds_toArray, List.set_cons_zero, List.set_cons_succ]
              refine wpAnyH_take (i := 7) (v := ?va62) (by simp; rfl) (by kernel_rfl) (by kernel_rfl) (by kernel_rfl) (fun _ _ _ h => h) (Or.inl ⟨by rfl, ?ya62⟩) hHeld ?ra62
              case ya62 => intro w hSw; clear hSw; go_simp; with_reducible rfl
              simp only [Act.put, List.setIfInBounds_toArray, List.set_cons_zero, List.set_cons_succ]
              refine wpAnyH_take (i := 8) (v := ?va63) (by simp; rfl) (by kernel_rfl) (by kernel_rfl) (by kernel_rfl) (fun _ _ _ h => h) (Or.inl ⟨by rfl, ?ya63⟩) hHeld ?ra63
              case ya63 => intro w hSw; clear hSw; go_simp; with_reducible rfl
              simp only [Act.put, List.setIfInBounds_toArray, List.set_cons_zero, List.set_cons_succ]
              refine wpAnyH_take (i := 10) (v := ?va64) (by simp; rfl) (by kernel_rfl) (by kernel_rfl) (by kernel_rfl) (fun _ _ _ h => h) (Or.inl ⟨by rfl, ?ya64⟩) hHeld ?ra64
              case ya64 => intro w hSw; clear hSw; go_simp; with_reducible rfl
              simp only [Act.put, List.setIfInBounds_toArray, List.set_cons_zero, List.set_cons_succ]
              refine wpAnyH_take (i := 11) (v := ?va65) (by simp; rfl) (by kernel_rfl) (by kernel_rfl) (by kernel_rfl) (fun _ _ _ h => h) (Or.inl ⟨by rfl, ?ya65⟩) hHeld ?ra65
              case ya65 => intro w hSw; clear hSw; go_simp; with_reducible rfl
              simp only [Act.put, List.setIfInBounds_toArray, List.set_cons_zero, List.set_cons_succ]
              refine wpAnyH_ready (rs := [9]) (by kernel_rfl) (by simp) ?_
              refine AllReadyH.cons (by simp; rfl) (fun Kc hKc => ?_) AllReadyH.nil
              have hcv : xS.cell? ⟨PP, 1, none⟩ = some (T 1).val := HPS.out.cell (pcs_get (by decide))
              have hfv := HPS.out.free 1
              go_simp
              have HP6 : Hid (PS wA (xS.setCell ⟨PP, 1, none⟩ (.pointer (some ⟨Q, 0, none⟩))) PP ((pcs T).setIfInBounds 1 (.pointer (some ⟨Q, 0, none⟩))) TC GC) := HPS.out.store 1 _
              refine hKc.out _ _ trivial (fun hHeld => ?_)
              clear hKc Kc hcv hfv HPS
              generalize xS.setCell ⟨PP, 1, none⟩ (.pointer (some ⟨Q, 0, none⟩)) = x6 at *

              refine wpAnyH_take (i := 12) (v := ?va66) (by simp; rfl) (by kernel_rfl) (by kernel_rfl) (by kernel_rfl) (fun _ _ _ h => h) (Or.inl ⟨by rfl, ?ya66⟩) hHeld ?ra66
              case ya66 => intro w hSw; clear hSw; go_simp; with_reducible rfl
              simp only [Act.put, List.setIfInBounds_toArray, List.set_cons_zero, List.set_cons_succ]
              refine wpAnyH_ready (rs := [13]) (by kernel_rfl) (by simp) ?_
              refine AllReadyH.cons (by simp; rfl) (fun Kc hKc => ?_) AllReadyH.nil
              have hcv : x6.cell? ⟨PP, 3, none⟩ = some (T 3).val := HP6.out.cell rfl
              have hfv := HP6.out.free 3
              go_simp
              have HP7 : Hid (PS wA (x6.setCell ⟨PP, 3, none⟩ (.pointer (some ⟨R, 0, none⟩))) PP (((pcs T).setIfInBounds 1 (.pointer (some ⟨Q, 0, none⟩))).setIfInBounds 3 (.pointer (some ⟨R, 0, none⟩))) TC GC) := HP6.out.store 3 _
              refine hKc.out _ _ trivial (fun hHeld => ?_)
              clear hKc Kc hcv hfv HP6
              generalize x6.setCell ⟨PP, 3, none⟩ (.pointer (some ⟨R, 0, none⟩)) = x7 at *

              refine wpAnyH_done (by kernel_rfl) (NoPanic.normal ?_) _
              have HZ : Hid (St0 wA x7 PP 2) := ini_next HS0.out HTC.out HP7.out HE9.out HE10.out (by decide) HIS.out
              clear HP7
              go_wp2_with fail
              go_roundw
              case rel => exact ⟨2, by first | rfl | go_num, by omega, HZ⟩
              case measure => simp [intOf]
        · have hif : B.isS F2 = false := by simpa using hi
          have HIS : Hid (B.isS F2 = false) := hif
          refine (new_no HR2.out.read (by omega) (by omega) hif).mono ?_
          rintro e w3 ⟨rfl, rfl⟩
          go_wp2_with fail
          refine (rnew_no (HI2.out w3 HB2.out) (by omega) HIS.out).mono ?_
          rintro e w4 ⟨rfl, b4⟩
          have HR4 : Hid (B.Room w4 nb g n2 cap F2) := HR2.out.later b4
          have HB4 : Hid (Below w.heap.size w w4) := below_then HB2.out b4
          obtain ⟨TM, hTM⟩ : ∃ TM, TM = put T 8 (.any (.slice (some ⟨g, 0, none⟩) (n2 + 2) cap) (n2 + 2)) := ⟨_, rfl⟩
          have HTM : Hid (∀ i, i < 7 → TM i = T i) := fun i hi => by rw [hTM, put_other _ _ (by omega)]
          have HE8 : Hid (TM 8 = .any (.slice (some ⟨g, 0, none⟩) (n2 + 2) cap) (n2 + 2)) := by rw [hTM]; rfl
          have HP4 : Hid (PS wA w4 PP (pcs T) TM G) := by rw [hTM]; exact HP1.out.later b4
          clear b4 HR2 hTM hi hif HP1
          go_wp2_with fail
          refine (B.held_is _ g n2 cap _ _ F2 w4 HR4.out hbig2 (HI2.out w4 HB4.out)).mono ?_
          rintro e w5 ⟨rfl, b5⟩
          have HPM : Hid (PS wA w5 PP (pcs T) TM G) := HP4.out.later b5
          clear b5 HP4 HR4 HB4 HB2 HBr HIS
          go_wp2_with fail
          go_loopw [15] (fun v W => ∃ k : Nat, v = .int .i64 (k : Int) ∧ k ≤ n2 ∧ Hid (PS wA W PP (pcs T) TM G)) (fun v _ => n2 - (intOf v).toNat)
          case atStart => exact ⟨0, rfl, Nat.zero_le _, HPM⟩
          case round =>
            obtain ⟨k, rfl, hk, HK⟩ := hrel
            clear HPM
            by_cases hkn : k < n2
            · obtain ⟨xs, hx⟩ := HK.out.any (k := 8) (by decide) HE8.out
              have hxl : xs.length = n2 + 2 := by have := hx.1; omega
              obtain ⟨xk, hxk⟩ : ∃ xk, xs[k]? = some xk := ⟨_, List.getElem?_eq_getElem (by omega)⟩
              have hcv : wr.cell? ⟨g, k, none⟩ = some xk := O.own_cell hx hxk
              have hfv : wr.frozen? ⟨g, k, none⟩ = false := O.own_free hx k
              have HM : Hid (PS wA (wr.setCell ⟨g, k, none⟩ (.int .i64 (63 - (k : Int)))) PP (pcs T) TM G) := HK.out.mark (by decide) HE8.out _
              have k1 : (k : Int) < (n2 : Int) := by omega
              have k2 : (0 : Int) ≤ (k : Int) := by omega
              have k3 : (n2 : Int) ≤ 17592186044416 := by omega
              clear hxk hx hxl HK
              go_wp2_with fail
              go_roundw
              case rel => exact ⟨k + 1, by go_num, by omega, HM⟩
              case measure => simp [intOf]; omega
            · obtain hkn2 : k = n2 := by omega
              have hnl : ¬ (k : Int) < (n2 : Int) := by omega
              go_wp2_with fail
              refine (new_at (iin_three wr) (by decide) (by decide) is025).mono ?_
              rintro e w6 ⟨Q, pf, cf, rfl, hN, hfr⟩
              obtain ⟨G6, hp6, -⟩ := (HK.out.later (below_alloc wr _)).newB hN (fun a ha => .inr (hfr a ha)) 9
              have HP6' : Hid (PS wA w6 PP (pcs T) (put TM 9 (.buf Q pf cf [0, 2, 5] (.slice none 0 0) [])) G6) := hp6
              clear hN hp6 hfr HK
              go_wp2_with fail
              refine (rnew_at (iin_three w6) (fun h => by cases h) (by decide) (by decide) is025).mono ?_
              rintro e w8 ⟨R, ps, cs, rfl, hN⟩
              obtain ⟨GC, hp8, -⟩ := (HP6'.out.later (below_alloc w6 _)).newR hN 10
              obtain ⟨TC, hTC⟩ : ∃ TC, TC = put (put TM 9 (.buf Q pf cf [0, 2, 5] (.slice none 0 0) [])) 10 (.ref R ps cs [0, 2, 5] (.slice none 0 0) []) := ⟨_, rfl⟩
              have HTC : Hid (∀ i, i < 7 → TC i = T i) := fun i hi => by rw [hTC, put_other _ _ (by omega), put_other _ _ (by omega)]; exact HTM.out i hi
              have HE9 : Hid (TC 9 = .buf Q pf cf [0, 2, 5] (.slice none 0 0) []) := by rw [hTC]; rfl
              have HE10 : Hid (TC 10 = .ref R ps cs [0, 2, 5] (.slice none 0 0) []) := by rw [hTC]; rfl
              have HPQ : Hid (PS wA w8 PP (pcs T) TC GC) := by rw [hTC]; exact hp8
              clear hN hp8 hTC HP6'
              go_wp2_with fail
              refine wp_region_noPanic ?_
              refine wp_region_held_drew (S := fun _ => True) (by kernel_rfl) trivial (fun hHeld => ?_)
              have HPS : Hid (PS wA w8.drew PP (pcs T) TC GC) := HPQ.out.later (below_drawn 1)
              clear HPQ
              generalize w8.drew = xS at *
              refine wpAnyH_take (i := 0) (v := ?va67) (by simp; rfl) (by kernel_rfl) (by kernel_rfl) (by kernel_rfl) (fun _ _ _ h => h) (Or.inl ⟨by rfl, ?ya67⟩) hHeld ?ra67
              case ya67 => intro w hSw; clear hSw; go_simp; with_reducible rfl
              simp only [Act.put, List.setIfInBounds_toArray, List.set_cons_zero, List.set_cons_succ]
              refine wpAnyH_take (i := 1) (v := ?va68) (by simp; rfl) (by kernel_rfl) (by kernel_rfl) (by kernel_rfl) (fun _ _ _ h => h) (Or.inl ⟨by rfl, ?ya68⟩) hHeld ?ra68
              case ya68 => intro w hSw; clear hSw; go_simp; with_reducible rfl
              simp only [Act.put, List.setIfInBounds_toArray, List.set_cons_zero, List.set_cons_succ]
              refine wpAnyH_take (i := 2) (v := ?va69) (by simp; rfl) (by kernel_rfl) (by kernel_rfl) (by kernel_rfl) (fun _ _ _ h => h) (Or.inl ⟨by rfl, ?ya69⟩) hHeld ?ra69
              case ya69 => intro w hSw; clear hSw; go_simp; with_reducible rfl
              simp only [Act.put, List.setIfInBounds_toArray, List.set_cons_zero, List.set_cons_succ]
              refine wpAnyH_take (i := 3) (v := ?va70) (by simp; rfl) (by kernel_rfl) (by kernel_rfl) (by kernel_rfl) (fun _ _ _ h => h) (Or.inl ⟨by rfl, ?ya70⟩) hHeld ?ra70
              case ya70 => intro w hSw; clear hSw; go_simp; with_reducible rfl
              simp only [Act.put, List.setIfInBounds_toArray, List.set_cons_zero, List.set_cons_succ]
              refine wpAnyH_take (i := 4) (v := ?va71) (by simp; rfl) (by kernel_rfl) (by kernel_rfl) (by kernel_rfl) (fun _ _ _ h => h) (Or.inl ⟨by rfl, ?ya71⟩) hHeld ?ra71
              case ya71 => intro w hSw; clear hSw; go_simp; with_reducible rfl
              simp only [Act.put, List.setIfInBounds_toArray, List.set_cons_zero, List.set_cons_succ]
              refine wpAnyH_take (i := 5) (v := ?va72) (by simp; rfl) (by kernel_rfl) (by kernel_rfl) (by kernel_rfl) (fun _ _ _ h => h) (Or.inl ⟨by rfl, ?ya72⟩) hHeld ?ra72
              case ya72 => intro w hSw; clear hSw; go_simp; with_reducible rfl
              simp only [Act.put, List.setIfInBounds_toArray, List.set_cons_zero, List.set_cons_succ]
              refine wpAnyH_take (i := 6) (v := ?va73) (by simp; rfl) (by kernel_rfl) (by kernel_rfl) (by kernel_rfl) (fun _ _ _ h => h) (Or.inl ⟨by rfl, ?ya73⟩) hHeld ?ra73
              case ya73 => intro w hSw; clear hSw; go_simp; with_reducible rfl
              simp only [Act.put, List.setIfInBounds_toArray, List.set_cons_zero, List.set_cons_succ]
              refine wpAnyH_take (i := 7) (v := ?va74) (by simp; rfl) (by kernel_rfl) (by kernel_rfl) (by kernel_rfl) (fun _ _ _ h => h) (Or.inl ⟨by rfl, ?ya74⟩) hHeld ?ra74
              case ya74 => intro w hSw; clear hSw; go_simp; with_reducible rfl
              simp only [Act.put, List.setIfInBounds_toArray, List.set_cons_zero, List.set_cons_succ]
              refine wpAnyH_take (i := 8) (v := ?va75) (by simp; rfl) (by kernel_rfl) (by kernel_rfl) (by kernel_rfl) (fun _ _ _ h => h) (Or.inl ⟨by rfl, ?ya75⟩) hHeld ?ra75
              case ya75 => intro w hSw; clear hSw; go_simp; with_reducible rfl
              simp only [Act.put, List.setIfInBounds_toArray, List.set_cons_zero, List.set_cons_succ]
              refine wpAnyH_take (i := 10) (v := ?va76) (by simp; rfl) (by kernel_rfl) (by kernel_rfl) (by kernel_rfl) (fun _ _ _ h => h) (Or.inl ⟨by rfl, ?ya76⟩) hHeld ?ra76
              case ya76 => intro w hSw; clear hSw; go_simp; with_reducible rfl
              simp only [Act.put, List.setIfInBounds_toArray, List.set_cons_zero, List.set_cons_succ]
              refine wpAnyH_take (i := 11) (v := ?va77) (by simp; rfl) (by kernel_rfl) (by kernel_rfl) (by kernel_rfl) (fun _ _ _ h => h) (Or.inl ⟨by rfl, ?ya77⟩) hHeld ?ra77
              case ya77 => intro w hSw; clear hSw; go_simp; with_reducible rfl
              simp only [Act.put, List.setIfInBounds_toArray, List.set_cons_zero, List.set_cons_succ]
              refine wpAnyH_ready (rs := [9]) (by kernel_rfl) (by simp) ?_
              refine AllReadyH.cons (by simp; rfl) (fun Kc hKc => ?_) AllReadyH.nil
              have hcv : xS.cell? ⟨PP, 1, none⟩ = some (T 1).val := HPS.out.cell (pcs_get (by decide))
              have hfv := HPS.out.free 1
              go_simp
              have HP6 : Hid (PS wA (xS.setCell ⟨PP, 1, none⟩ (.pointer (some ⟨Q, 0, none⟩))) PP ((pcs T).setIfInBounds 1 (.pointer (some ⟨Q, 0, none⟩))) TC GC) := HPS.out.store 1 _
              refine hKc.out _ _ trivial (fun hHeld => ?_)
              clear hKc Kc hcv hfv HPS
              generalize xS.setCell ⟨PP, 1, none⟩ (.pointer (some ⟨Q, 0, none⟩)) = x6 at *

              refine wpAnyH_take (i := 12) (v := ?va78) (by simp; rfl) (by kernel_rfl) (by kernel_rfl) (by kernel_rfl) (fun _ _ _ h => h) (Or.inl ⟨by rfl, ?ya78⟩) hHeld ?ra78
              case ya78 => intro w hSw; clear hSw; go_simp; with_reducible rfl
              simp only [Act.put, List.setIfInBounds_toArray, List.set_cons_zero, List.set_cons_succ]
              refine wpAnyH_ready (rs := [13]) (by kernel_rfl) (by simp) ?_
              refine AllReadyH.cons (by simp; rfl) (fun Kc hKc => ?_) AllReadyH.nil
              have hcv : x6.cell? ⟨PP, 3, none⟩ = some (T 3).val := HP6.out.cell rfl
              have hfv := HP6.out.free 3
              go_simp
              have HP7 : Hid (PS wA (x6.setCell ⟨PP, 3, none⟩ (.pointer (some ⟨R, 0, none⟩))) PP (((pcs T).setIfInBounds 1 (.pointer (some ⟨Q, 0, none⟩))).setIfInBounds 3 (.pointer (some ⟨R, 0, none⟩))) TC GC) := HP6.out.store 3 _
              refine hKc.out _ _ trivial (fun hHeld => ?_)
              clear hKc Kc hcv hfv HP6
              generalize x6.setCell ⟨PP, 3, none⟩ (.pointer (some ⟨R, 0, none⟩)) = x7 at *

              refine wpAnyH_done (by kernel_rfl) (NoPanic.normal ?_) _
              have HZ : Hid (St0 wA x7 PP 2) := ini_next HS0.out HTC.out HP7.out HE9.out HE10.out (by decide) is025
              clear HP7
              go_wp2_with fail
              go_roundw
              case rel => exact ⟨2, by first | rfl | go_num, by omega, HZ⟩
              case measure => simp [intOf]

    · have hi02 : i0 = 2 := by omega
      have hin : ¬ (i0 : Int) < 2 := by omega
      have HI' : Hid (St0 wA wr PP 2) := by rw [← hi02]; exact HI
      clear HI
      have HI := HI'
      clear HI'
      go_wp2_with fail
      obtain ⟨Fs, hSt⟩ := HI.out.start
      have HT : Hid (∃ F D, St wA wr PP F D true 0 (2 * 0)) := ⟨Fs, _, hSt⟩
      clear hSt HI HI1 HI2
      go_loopw [16] (fun v W => ∃ i : Nat, v = .int .i64 (i : Int) ∧ i ≤ m ∧ i ≤ 100 ∧ Hid (∃ F D, St wA W PP F D true i (2 * i))) (fun v _ => 100 - (intOf v).toNat)
      case atStart => exact ⟨0, rfl, Nat.zero_le _, by omega, HT⟩
      case round =>
        obtain ⟨i, rfl, him, hi1, HI⟩ := hrel
        clear HT
        by_cases hltm : i < m
        · have hm1 : (i : Int) < (m : Int) := by omega
          have hm0 : (0 : Int) ≤ (i : Int) := by omega
          by_cases hl1 : i < 100
          · obtain ⟨F, D, hst⟩ := HI.out
            have HST : Hid (St wA wr PP F D true i (2 * i)) := hst
            have hl100 : (i : Int) < 100 := by omega
            obtain ⟨b, o, rfl, -⟩ := HO.out.at' (by omega)
            have HLD : Hid ((Instr.loadAt 58 (.pointer (some ⟨b, o + i * 35, none⟩))).run Try.prog wr = .ok (.agg (f i).cells.toArray) wr) := (HO.out.later (below_then HBA.out hst.below)).load hltm
            have HOW := HO.out.wf i hltm
            clear hst HI
            generalize f i = fi at *
            go_wp2_with ((with_reducible refine at_ops ?_); (refine wpList_load_is (by rfl) 58 rfl rfl HLD.out ?_); simp only [Act.put, List.setIfInBounds_toArray, List.set_cons_zero, List.set_cons_succ])
            refine (plays_at HST.out (by omega) (by omega) fi HOW).mono ?_
            rintro e w2 ⟨rfl, F', D', h2⟩
            have HN : Hid (∃ F D, St wA w2 PP F D true (i + 1) (2 * (i + 1))) := ⟨F', D', h2⟩
            clear h2 HST HLD
            go_wp2_with fail
            go_roundw
            case rel => exact ⟨i + 1, by go_num, by omega, by omega, HN⟩
            case measure => simp [intOf]; omega
          · have hl100 : ¬ (i : Int) < 100 := by omega
            obtain ⟨F, D, hst⟩ := HI.out
            have HST : Hid (St wA wr PP F D true 100 200) := hst.mono (by omega) (by omega)
            clear hst HI HO
            go_wp2_with fail
            refine (told_at (j := 0) HST.out (by decide) (by decide) (by decide)).mono ?_
            rintro e w2 ⟨rfl, h2⟩
            have HS2 : Hid (St wA w2 PP F D true 100 202) := h2
            clear h2 HST
            go_wp2_with fail
            refine (told_at (j := 1) HS2.out (by decide) (by decide) (by decide)).mono ?_
            rintro e w3 ⟨rfl, h3⟩
            obtain ⟨T, G, hp, hs⟩ := h3
            obtain ⟨v4, us4, v5, us5, ls, e4, e5, hl, hl2⟩ := hs.im
            obtain ⟨v6, us6, fs, e6, hf, hf2⟩ := hs.fo
            have l4 := hp.ls (by decide) e4
            have l5 := hp.ls (by decide) e5
            have l6 := hp.ls (by decide) e6
            obtain ⟨p4, c4, rfl, -, -⟩ := O.own_form l4.row
            obtain ⟨p5, c5, rfl, -, -⟩ := O.own_form l5.row
            obtain ⟨p6, c6, rfl, -, -⟩ := O.own_form l6.row
            have HP3 : Hid (PS wA w3 PP (pcs T) T G) := hp
            have HSH : Hid (Sh T F D true 100 204) := hs
            have HE4 : Hid (T 4 = .il true (.slice p4 us4.length c4) us4 ls) := e4
            have HE5 : Hid (T 5 = .il true (.slice p5 us5.length c5) us5 ls) := e5
            have HE6 : Hid (T 6 = .fo true (.slice p6 us6.length c6) us6 fs) := e6
            have HLL : Hid ((ls.length ≤ 204 ∧ ∀ l ∈ ls, l.length ≤ 16 ∧ ImsWf l) ∧ (fs.length ≤ 204 ∧ ∀ f ∈ fs, f.length ≤ 16)) := ⟨⟨hl, hl2⟩, hf, hf2⟩
            have HL4 : Hid (Ls w3 true 23 33 33 (fun l : List Im => l.length) IC (.slice p4 us4.length c4) us4 ls) := l4
            have HL5 : Hid (Ls w3 true 23 33 33 (fun l : List Im => l.length) IC (.slice p5 us5.length c5) us5 ls) := l5
            have HC3 : Hid (∀ W, Below w3.heap.size w3 W → W.cell? ⟨PP, 4, none⟩ = some (.slice p4 us4.length c4) ∧ W.cell? ⟨PP, 5, none⟩ = some (.slice p5 us5.length c5) ∧ W.cell? ⟨PP, 6, none⟩ = some (.slice p6 us6.length c6)) := fun W hW => ⟨by rw [(hp.later hW).c (by decide), e4]; rfl, by rw [(hp.later hW).c (by decide), e5]; rfl, by rw [(hp.later hW).c (by decide), e6]; rfl⟩
            have h45 : us5.length = us4.length := by have := l4.len; have := l5.len; omega
            have h4m : us4.length ≤ 204 := by have := l4.len; omega
            have HB3 : Hid (Below w3.heap.size w3 w3) := Below.refl _ _
            clear hp hs e4 e5 e6 l4 l5 l6 hl hl2 hf hf2 HS2
            go_wp2_with fail
            go_loopw [17] (fun v W => ∃ i : Nat, v = .int .i64 (i : Int) ∧ i ≤ us4.length ∧ Hid (Below w3.heap.size w3 W)) (fun v _ => us4.length - (intOf v).toNat)
            case atStart => exact ⟨0, rfl, Nat.zero_le _, HB3⟩
            case round =>
              obtain ⟨i4, rfl, hi4, HB4⟩ := hrel
              clear HB3
              by_cases hlt4 : i4 < us4.length
              · obtain ⟨u4, lx, hu4, hlx, ho4, hs4⟩ := HL4.out.shape hlt4
                obtain ⟨u5, ly, hu5, hly, ho5, hs5⟩ := HL5.out.shape (i := i4) (by omega)
                obtain rfl : lx = ly := by rw [hlx] at hly; exact Option.some.inj hly
                obtain ⟨g4, d4, e4, -, hc4, -⟩ := O.own_some HL4.out.row (by omega)
                obtain ⟨g5, d5, e5, -, hc5, -⟩ := O.own_some HL5.out.row (by omega)
                simp only [Value.slice.injEq] at e4 e5
                obtain ⟨rfl, -, rfl⟩ := e4
                obtain ⟨rfl, -, rfl⟩ := e5
                obtain ⟨pa, ca, rfl, -, -⟩ := O.own_form ho4
                obtain ⟨pb, cb, rfl, -, -⟩ := O.own_form ho5
                have hlw := HLL.out.1.2 lx (List.mem_of_getElem? hlx)
                have hlx16 := hlw.1
                have HMA : Hid (∀ W, Below w3.heap.size w3 W → MIn W pa lx.length lx) := fun W hW => by
                  obtain ⟨p', c', e, hm, _⟩ := IOwn.in (O.own_later ho4 hW) hlw.2
                  cases e; exact hm
                have HMB : Hid (∀ W, Below w3.heap.size w3 W → MIn W pb lx.length lx) := fun W hW => by
                  obtain ⟨p', c', e, hm, _⟩ := IOwn.in (O.own_later ho5 hW) hlw.2
                  cases e; exact hm
                have HC4 : Hid (∀ W, Below w3.heap.size w3 W → W.cell? ⟨PP, 4, none⟩ = some (.slice (some ⟨g4, 0, none⟩) us4.length c4) ∧ W.cell? ⟨PP, 5, none⟩ = some (.slice (some ⟨g5, 0, none⟩) us5.length c5) ∧ W.cell? ⟨g4, i4, none⟩ = some (.slice pa lx.length ca) ∧ W.cell? ⟨g5, i4, none⟩ = some (.slice pb lx.length cb)) := fun W hW => ⟨(HC3.out W hW).1, (HC3.out W hW).2.1, O.own_cell (O.own_later HL4.out.row hW) hu4, O.own_cell (O.own_later HL5.out.row hW) hu5⟩
                have y0 := (HC3.out wr HB4.out).1
                have i41 : (i4 : Int) < (us4.length : Int) := by omega
                have i42 : (0 : Int) ≤ (i4 : Int) := by omega
                have i43 : (i4 : Int) < (us5.length : Int) := by omega
                have HBD : Hid (Below w3.heap.size w3 wr.drew) := below_then HB4.out (below_drawn 1)
                clear hs4 hs5 hu4 hu5 hlx hly ho4 ho5 hc4 hc5 hlw
                go_wp2_with fail
                refine wp_region_noPanic ?_
                refine wp_region_held_drew (S := fun W => Below w3.heap.size w3 W) (by kernel_rfl) HBD.out (fun hHeld => ?_)
                generalize wr.drew = xd at *
                refine wpAnyH_take (i := 0) (v := ?va1) (by simp; rfl) (by kernel_rfl) (by kernel_rfl) (by kernel_rfl) (fun _ _ _ h => h) (Or.inl ⟨by rfl, ?ya1⟩) hHeld ?ra1
                case ya1 => intro w hSw; clear hSw; go_simp; with_reducible rfl
                simp only [Act.put, List.setIfInBounds_toArray, List.set_cons_zero, List.set_cons_succ]
                refine wpAnyH_take (i := 1) (v := ?va2) (by simp; rfl) (by kernel_rfl) (by kernel_rfl) (by kernel_rfl) (fun _ _ _ h => h) (Or.inl ⟨by rfl, ?ya2⟩) hHeld ?ra2
                case ya2 => intro w hSw; clear hSw; go_simp; with_reducible rfl
                simp only [Act.put, List.setIfInBounds_toArray, List.set_cons_zero, List.set_cons_succ]
                refine wpAnyH_take (i := 2) (v := ?va3) (by simp; rfl) (by kernel_rfl) (by kernel_rfl) (by kernel_rfl) (fun _ _ _ h => h) (Or.inl ⟨by rfl, ?ya3⟩) hHeld ?ra3
                case ya3 => intro w hSw; clear hSw; go_simp; with_reducible rfl
                simp only [Act.put, List.setIfInBounds_toArray, List.set_cons_zero, List.set_cons_succ]
                refine wpAnyH_take (i := 3) (v := ?va4) (by simp; rfl) (by kernel_rfl) (by kernel_rfl) (by kernel_rfl) (fun _ _ _ h => h) (Or.inl ⟨by rfl, ?ya4⟩) hHeld ?ra4
                case ya4 => intro w hSw; obtain ⟨y1, y2, y3, y4⟩ := HC4.out w hSw; clear hSw; go_simp; with_reducible rfl
                simp only [Act.put, List.setIfInBounds_toArray, List.set_cons_zero, List.set_cons_succ]
                refine wpAnyH_take (i := 4) (v := ?va5) (by simp; rfl) (by kernel_rfl) (by kernel_rfl) (by kernel_rfl) (fun _ _ _ h => h) (Or.inl ⟨by rfl, ?ya5⟩) hHeld ?ra5
                case ya5 => intro w hSw; clear hSw; go_simp; with_reducible rfl
                simp only [Act.put, List.setIfInBounds_toArray, List.set_cons_zero, List.set_cons_succ]
                refine wpAnyH_take (i := 5) (v := ?va6) (by simp; rfl) (by kernel_rfl) (by kernel_rfl) (by kernel_rfl) (fun _ _ _ h => h) (Or.inl ⟨by rfl, ?ya6⟩) hHeld ?ra6
                case ya6 => intro w hSw; clear hSw; go_simp; with_reducible rfl
                simp only [Act.put, List.setIfInBounds_toArray, List.set_cons_zero, List.set_cons_succ]
                refine wpAnyH_take (i := 6) (v := ?va7) (by simp; rfl) (by kernel_rfl) (by kernel_rfl) (by kernel_rfl) (fun _ _ _ h => h) (Or.inl ⟨by rfl, ?ya7⟩) hHeld ?ra7
                case ya7 => intro w hSw; obtain ⟨y1, y2, y3, y4⟩ := HC4.out w hSw; clear hSw; go_simp; with_reducible rfl
                simp only [Act.put, List.setIfInBounds_toArray, List.set_cons_zero, List.set_cons_succ]
                refine wpAnyH_take (i := 7) (v := ?va8) (by simp; rfl) (by kernel_rfl) (by kernel_rfl) (by kernel_rfl) (fun _ _ _ h => h) (Or.inl ⟨by rfl, ?ya8⟩) hHeld ?ra8
                case ya8 => intro w hSw; clear hSw; go_simp; with_reducible rfl
                simp only [Act.put, List.setIfInBounds_toArray, List.set_cons_zero, List.set_cons_succ]
                refine wpAnyH_take (i := 8) (v := ?va9) (by simp; rfl) (by kernel_rfl) (by kernel_rfl) (by kernel_rfl) (fun _ _ _ h => h) (Or.inl ⟨by rfl, ?ya9⟩) hHeld ?ra9
                case ya9 => intro w hSw; clear hSw; go_simp; with_reducible rfl
                simp only [Act.put, List.setIfInBounds_toArray, List.set_cons_zero, List.set_cons_succ]
                refine wpAnyH_take (i := 9) (v := ?va10) (by simp; rfl) (by kernel_rfl) (by kernel_rfl) (by kernel_rfl) (fun _ _ _ h => h) (Or.inl ⟨by rfl, ?ya10⟩) hHeld ?ra10
                case ya10 => intro w hSw; clear hSw; go_simp; with_reducible rfl
                simp only [Act.put, List.setIfInBounds_toArray, List.set_cons_zero, List.set_cons_succ]
                refine wpAnyH_take (i := 10) (v := ?va11) (by simp; rfl) (by kernel_rfl) (by kernel_rfl) (by kernel_rfl) (fun _ _ _ h => h) (Or.inl ⟨by rfl, ?ya11⟩) hHeld ?ra11
                case ya11 => intro w hSw; obtain ⟨y1, y2, y3, y4⟩ := HC4.out w hSw; clear hSw; go_simp; with_reducible rfl
                simp only [Act.put, List.setIfInBounds_toArray, List.set_cons_zero, List.set_cons_succ]
                refine wpAnyH_take (i := 11) (v := ?va12) (by simp; rfl) (by kernel_rfl) (by kernel_rfl) (by kernel_rfl) (fun _ _ _ h => h) (Or.inl ⟨by rfl, ?ya12⟩) hHeld ?ra12
                case ya12 => intro w hSw; clear hSw; go_simp; with_reducible rfl
                simp only [Act.put, List.setIfInBounds_toArray, List.set_cons_zero, List.set_cons_succ]
                refine wpAnyH_take (i := 12) (v := ?va13) (by simp; rfl) (by kernel_rfl) (by kernel_rfl) (by kernel_rfl) (fun _ _ _ h => h) (Or.inl ⟨by rfl, ?ya13⟩) hHeld ?ra13
                case ya13 => intro w hSw; clear hSw; go_simp; with_reducible rfl
                simp only [Act.put, List.setIfInBounds_toArray, List.set_cons_zero, List.set_cons_succ]
                refine wpAnyH_take (i := 13) (v := ?va14) (by simp; rfl) (by kernel_rfl) (by kernel_rfl) (by kernel_rfl) (fun _ _ _ h => h) (Or.inl ⟨by rfl, ?ya14⟩) hHeld ?ra14
                case ya14 => intro w hSw; obtain ⟨y1, y2, y3, y4⟩ := HC4.out w hSw; clear hSw; go_simp; with_reducible rfl
                simp only [Act.put, List.setIfInBounds_toArray, List.set_cons_zero, List.set_cons_succ]
                refine wpAnyH_ready (rs := [14]) (by kernel_rfl) (by simp) ?_
                refine AllReadyH.cons (by simp; rfl) (fun Kc hKc => ?_) AllReadyH.nil
                go_simp
                refine (sameM_eq _ _ _ _ _ lx _ (HMA.out _ hHeld) (HMB.out _ hHeld) (by omega)).mono ?_
                rintro e w9 ⟨rfl, b9⟩
                have HB9 : Hid (Below w3.heap.size w3 w9) := below_then hHeld b9
                refine hKc.out _ _ HB9.out (fun hHeld => ?_)
                clear hKc Kc b9

                refine wpAnyH_take (i := 15) (v := ?va15) (by simp; rfl) (by kernel_rfl) (by kernel_rfl) (by kernel_rfl) (fun _ _ _ h => h) (Or.inl ⟨by rfl, ?ya15⟩) hHeld ?ra15
                case ya15 => intro w hSw; clear hSw; go_simp; with_reducible rfl
                simp only [Act.put, List.setIfInBounds_toArray, List.set_cons_zero, List.set_cons_succ]
                refine wpAnyH_done (by kernel_rfl) (NoPanic.normal ?_) _
                go_wp2_with fail
                go_roundw
                case rel => exact ⟨i4 + 1, by go_num, by omega, HB9⟩
                case measure => simp [intOf]; omega
              · obtain hi5 : i4 = us4.length := by omega
                have hnl : ¬ (i4 : Int) < (us4.length : Int) := by omega
                have y0 := (HC3.out wr HB4.out).1
                have HP4 : Hid (PS wA wr PP (pcs T) T G) := HP3.out.later HB4.out
                clear HP3 HL4 HL5 HC3
                go_wp2_with fail
                refine (apartM_at HP4.out HE4.out (by have := HLL.out.1.1; omega) HLL.out.1.2).mono ?_
                rintro e w5 ⟨rfl, h5⟩
                obtain ⟨TB, hTB⟩ : ∃ TB, TB = put T 4 (.il false (.slice p4 us4.length c4) us4 ls) := ⟨_, rfl⟩
                have HP5 : Hid (PS wA w5 PP (pcs T) TB G) := by rw [hTB]; exact h5
                have HT5 : Hid (∀ i, i < 7 → i ≠ 4 → TB i = T i) := fun i _ hne => by rw [hTB, put_other _ _ hne]
                have HT4 : Hid (TB 4 = .il false (.slice p4 us4.length c4) us4 ls) := by rw [hTB]; exact put_same _ _ _
                have y6 : w5.cell? ⟨PP, 6, none⟩ = some (.slice p6 us6.length c6) := HP5.out.cell (by rw [pcs_get (by decide), HE6.out]; rfl)
                clear h5 hTB HP4 y0
                go_wp2_with fail
                refine (apartI_at _ HP5.out ((HT5.out 6 (by decide) (by decide)).trans HE6.out) (by have := HLL.out.2.1; omega) HLL.out.2.2).mono ?_
                rintro e w6 ⟨rfl, h6⟩
                have HS6 : Hid (St wA w6 PP F D false 100 204) := faded h6 HSH.out HT5.out HT4.out HE5.out HE6.out HE4.out HLL.out.1 HLL.out.2
                clear h6 HP5 HT5 HT4 y6
                go_wp2_with fail
                refine (told_at (j := 0) HS6.out (by decide) (by decide) (by decide)).mono ?_
                rintro e w7 ⟨rfl, h7⟩
                have HS7 : Hid (St wA w7 PP F D false 100 206) := h7
                clear h7 HS6
                go_wp2_with fail
                refine (told_at (j := 1) HS7.out (by decide) (by decide) (by decide)).mono ?_
                rintro e w8 ⟨rfl, h8⟩
                have HS8 : Hid (St wA w8 PP F D false 100 208) := h8
                clear h8 HS7
                go_wp2_with fail
                go_ret
                exact ⟨rfl, below_then HBA.out HS8.out.below⟩
        · have hm1 : ¬ (i : Int) < (m : Int) := by omega
          obtain ⟨F, D, hst⟩ := HI.out
          have HST : Hid (St wA wr PP F D true 100 200) := hst.mono (by omega) (by omega)
          clear hst HI HO
          go_wp2_with fail
          refine (told_at (j := 0) HST.out (by decide) (by decide) (by decide)).mono ?_
          rintro e w2 ⟨rfl, h2⟩
          have HS2 : Hid (St wA w2 PP F D true 100 202) := h2
          clear h2 HST
          go_wp2_with fail
          refine (told_at (j := 1) HS2.out (by decide) (by decide) (by decide)).mono ?_
          rintro e w3 ⟨rfl, h3⟩
          obtain ⟨T, G, hp, hs⟩ := h3
          obtain ⟨v4, us4, v5, us5, ls, e4, e5, hl, hl2⟩ := hs.im
          obtain ⟨v6, us6, fs, e6, hf, hf2⟩ := hs.fo
          have l4 := hp.ls (by decide) e4
          have l5 := hp.ls (by decide) e5
          have l6 := hp.ls (by decide) e6
          obtain ⟨p4, c4, rfl, -, -⟩ := O.own_form l4.row
          obtain ⟨p5, c5, rfl, -, -⟩ := O.own_form l5.row
          obtain ⟨p6, c6, rfl, -, -⟩ := O.own_form l6.row
          have HP3 : Hid (PS wA w3 PP (pcs T) T G) := hp
          have HSH : Hid (Sh T F D true 100 204) := hs
          have HE4 : Hid (T 4 = .il true (.slice p4 us4.length c4) us4 ls) := e4
          have HE5 : Hid (T 5 = .il true (.slice p5 us5.length c5) us5 ls) := e5
          have HE6 : Hid (T 6 = .fo true (.slice p6 us6.length c6) us6 fs) := e6
          have HLL : Hid ((ls.length ≤ 204 ∧ ∀ l ∈ ls, l.length ≤ 16 ∧ ImsWf l) ∧ (fs.length ≤ 204 ∧ ∀ f ∈ fs, f.length ≤ 16)) := ⟨⟨hl, hl2⟩, hf, hf2⟩
          have HL4 : Hid (Ls w3 true 23 33 33 (fun l : List Im => l.length) IC (.slice p4 us4.length c4) us4 ls) := l4
          have HL5 : Hid (Ls w3 true 23 33 33 (fun l : List Im => l.length) IC (.slice p5 us5.length c5) us5 ls) := l5
          have HC3 : Hid (∀ W, Below w3.heap.size w3 W → W.cell? ⟨PP, 4, none⟩ = some (.slice p4 us4.length c4) ∧ W.cell? ⟨PP, 5, none⟩ = some (.slice p5 us5.length c5) ∧ W.cell? ⟨PP, 6, none⟩ = some (.slice p6 us6.length c6)) := fun W hW => ⟨by rw [(hp.later hW).c (by decide), e4]; rfl, by rw [(hp.later hW).c (by decide), e5]; rfl, by rw [(hp.later hW).c (by decide), e6]; rfl⟩
          have h45 : us5.length = us4.length := by have := l4.len; have := l5.len; omega
          have h4m : us4.length ≤ 204 := by have := l4.len; omega
          have HB3 : Hid (Below w3.heap.size w3 w3) := Below.refl _ _
          clear hp hs e4 e5 e6 l4 l5 l6 hl hl2 hf hf2 HS2
          go_wp2_with fail
          go_loopw [17] (fun v W => ∃ i : Nat, v = .int .i64 (i : Int) ∧ i ≤ us4.length ∧ Hid (Below w3.heap.size w3 W)) (fun v _ => us4.length - (intOf v).toNat)
          case atStart => exact ⟨0, rfl, Nat.zero_le _, HB3⟩
          case round =>
            obtain ⟨i4, rfl, hi4, HB4⟩ := hrel
            clear HB3
            by_cases hlt4 : i4 < us4.length
            · obtain ⟨u4, lx, hu4, hlx, ho4, hs4⟩ := HL4.out.shape hlt4
              obtain ⟨u5, ly, hu5, hly, ho5, hs5⟩ := HL5.out.shape (i := i4) (by omega)
              obtain rfl : lx = ly := by rw [hlx] at hly; exact Option.some.inj hly
              obtain ⟨g4, d4, e4, -, hc4, -⟩ := O.own_some HL4.out.row (by omega)
              obtain ⟨g5, d5, e5, -, hc5, -⟩ := O.own_some HL5.out.row (by omega)
              simp only [Value.slice.injEq] at e4 e5
              obtain ⟨rfl, -, rfl⟩ := e4
              obtain ⟨rfl, -, rfl⟩ := e5
              obtain ⟨pa, ca, rfl, -, -⟩ := O.own_form ho4
              obtain ⟨pb, cb, rfl, -, -⟩ := O.own_form ho5
              have hlw := HLL.out.1.2 lx (List.mem_of_getElem? hlx)
              have hlx16 := hlw.1
              have HMA : Hid (∀ W, Below w3.heap.size w3 W → MIn W pa lx.length lx) := fun W hW => by
                obtain ⟨p', c', e, hm, _⟩ := IOwn.in (O.own_later ho4 hW) hlw.2
                cases e; exact hm
              have HMB : Hid (∀ W, Below w3.heap.size w3 W → MIn W pb lx.length lx) := fun W hW => by
                obtain ⟨p', c', e, hm, _⟩ := IOwn.in (O.own_later ho5 hW) hlw.2
                cases e; exact hm
              have HC4 : Hid (∀ W, Below w3.heap.size w3 W → W.cell? ⟨PP, 4, none⟩ = some (.slice (some ⟨g4, 0, none⟩) us4.length c4) ∧ W.cell? ⟨PP, 5, none⟩ = some (.slice (some ⟨g5, 0, none⟩) us5.length c5) ∧ W.cell? ⟨g4, i4, none⟩ = some (.slice pa lx.length ca) ∧ W.cell? ⟨g5, i4, none⟩ = some (.slice pb lx.length cb)) := fun W hW => ⟨(HC3.out W hW).1, (HC3.out W hW).2.1, O.own_cell (O.own_later HL4.out.row hW) hu4, O.own_cell (O.own_later HL5.out.row hW) hu5⟩
              have y0 := (HC3.out wr HB4.out).1
              have i41 : (i4 : Int) < (us4.length : Int) := by omega
              have i42 : (0 : Int) ≤ (i4 : Int) := by omega
              have i43 : (i4 : Int) < (us5.length : Int) := by omega
              have HBD : Hid (Below w3.heap.size w3 wr.drew) := below_then HB4.out (below_drawn 1)
              clear hs4 hs5 hu4 hu5 hlx hly ho4 ho5 hc4 hc5 hlw
              go_wp2_with fail
              refine wp_region_noPanic ?_
              refine wp_region_held_drew (S := fun W => Below w3.heap.size w3 W) (by kernel_rfl) HBD.out (fun hHeld => ?_)
              generalize wr.drew = xd at *
              refine wpAnyH_take (i := 0) (v := ?va16) (by simp; rfl) (by kernel_rfl) (by kernel_rfl) (by kernel_rfl) (fun _ _ _ h => h) (Or.inl ⟨by rfl, ?ya16⟩) hHeld ?ra16
              case ya16 => intro w hSw; clear hSw; go_simp; with_reducible rfl
              simp only [Act.put, List.setIfInBounds_toArray, List.set_cons_zero, List.set_cons_succ]
              refine wpAnyH_take (i := 1) (v := ?va17) (by simp; rfl) (by kernel_rfl) (by kernel_rfl) (by kernel_rfl) (fun _ _ _ h => h) (Or.inl ⟨by rfl, ?ya17⟩) hHeld ?ra17
              case ya17 => intro w hSw; clear hSw; go_simp; with_reducible rfl
              simp only [Act.put, List.setIfInBounds_toArray, List.set_cons_zero, List.set_cons_succ]
              refine wpAnyH_take (i := 2) (v := ?va18) (by simp; rfl) (by kernel_rfl) (by kernel_rfl) (by kernel_rfl) (fun _ _ _ h => h) (Or.inl ⟨by rfl, ?ya18⟩) hHeld ?ra18
              case ya18 => intro w hSw; clear hSw; go_simp; with_reducible rfl
              simp only [Act.put, List.setIfInBounds_toArray, List.set_cons_zero, List.set_cons_succ]
              refine wpAnyH_take (i := 3) (v := ?va19) (by simp; rfl) (by kernel_rfl) (by kernel_rfl) (by kernel_rfl) (fun _ _ _ h => h) (Or.inl ⟨by rfl, ?ya19⟩) hHeld ?ra19
              case ya19 => intro w hSw; obtain ⟨y1, y2, y3, y4⟩ := HC4.out w hSw; clear hSw; go_simp; with_reducible rfl
              simp only [Act.put, List.setIfInBounds_toArray, List.set_cons_zero, List.set_cons_succ]
              refine wpAnyH_take (i := 4) (v := ?va20) (by simp; rfl) (by kernel_rfl) (by kernel_rfl) (by kernel_rfl) (fun _ _ _ h => h) (Or.inl ⟨by rfl, ?ya20⟩) hHeld ?ra20
              case ya20 => intro w hSw; clear hSw; go_simp; with_reducible rfl
              simp only [Act.put, List.setIfInBounds_toArray, List.set_cons_zero, List.set_cons_succ]
              refine wpAnyH_take (i := 5) (v := ?va21) (by simp; rfl) (by kernel_rfl) (by kernel_rfl) (by kernel_rfl) (fun _ _ _ h => h) (Or.inl ⟨by rfl, ?ya21⟩) hHeld ?ra21
              case ya21 => intro w hSw; clear hSw; go_simp; with_reducible rfl
              simp only [Act.put, List.setIfInBounds_toArray, List.set_cons_zero, List.set_cons_succ]
              refine wpAnyH_take (i := 6) (v := ?va22) (by simp; rfl) (by kernel_rfl) (by kernel_rfl) (by kernel_rfl) (fun _ _ _ h => h) (Or.inl ⟨by rfl, ?ya22⟩) hHeld ?ra22
              case ya22 => intro w hSw; obtain ⟨y1, y2, y3, y4⟩ := HC4.out w hSw; clear hSw; go_simp; with_reducible rfl
              simp only [Act.put, List.setIfInBounds_toArray, List.set_cons_zero, List.set_cons_succ]
              refine wpAnyH_take (i := 7) (v := ?va23) (by simp; rfl) (by kernel_rfl) (by kernel_rfl) (by kernel_rfl) (fun _ _ _ h => h) (Or.inl ⟨by rfl, ?ya23⟩) hHeld ?ra23
              case ya23 => intro w hSw; clear hSw; go_simp; with_reducible rfl
              simp only [Act.put, List.setIfInBounds_toArray, List.set_cons_zero, List.set_cons_succ]
              refine wpAnyH_take (i := 8) (v := ?va24) (by simp; rfl) (by kernel_rfl) (by kernel_rfl) (by kernel_rfl) (fun _ _ _ h => h) (Or.inl ⟨by rfl, ?ya24⟩) hHeld ?ra24
              case ya24 => intro w hSw; clear hSw; go_simp; with_reducible rfl
              simp only [Act.put, List.setIfInBounds_toArray, List.set_cons_zero, List.set_cons_succ]
              refine wpAnyH_take (i := 9) (v := ?va25) (by simp; rfl) (by kernel_rfl) (by kernel_rfl) (by kernel_rfl) (fun _ _ _ h => h) (Or.inl ⟨by rfl, ?ya25⟩) hHeld ?ra25
              case ya25 => intro w hSw; clear hSw; go_simp; with_reducible rfl
              simp only [Act.put, List.setIfInBounds_toArray, List.set_cons_zero, List.set_cons_succ]
              refine wpAnyH_take (i := 10) (v := ?va26) (by simp; rfl) (by kernel_rfl) (by kernel_rfl) (by kernel_rfl) (fun _ _ _ h => h) (Or.inl ⟨by rfl, ?ya26⟩) hHeld ?ra26
              case ya26 => intro w hSw; obtain ⟨y1, y2, y3, y4⟩ := HC4.out w hSw; clear hSw; go_simp; with_reducible rfl
              simp only [Act.put, List.setIfInBounds_toArray, List.set_cons_zero, List.set_cons_succ]
              refine wpAnyH_take (i := 11) (v := ?va27) (by simp; rfl) (by kernel_rfl) (by kernel_rfl) (by kernel_rfl) (fun _ _ _ h => h) (Or.inl ⟨by rfl, ?ya27⟩) hHeld ?ra27
              case ya27 => intro w hSw; clear hSw; go_simp; with_reducible rfl
              simp only [Act.put, List.setIfInBounds_toArray, List.set_cons_zero, List.set_cons_succ]
              refine wpAnyH_take (i := 12) (v := ?va28) (by simp; rfl) (by kernel_rfl) (by kernel_rfl) (by kernel_rfl) (fun _ _ _ h => h) (Or.inl ⟨by rfl, ?ya28⟩) hHeld ?ra28
              case ya28 => intro w hSw; clear hSw; go_simp; with_reducible rfl
              simp only [Act.put, List.setIfInBounds_toArray, List.set_cons_zero, List.set_cons_succ]
              refine wpAnyH_take (i := 13) (v := ?va29) (by simp; rfl) (by kernel_rfl) (by kernel_rfl) (by kernel_rfl) (fun _ _ _ h => h) (Or.inl ⟨by rfl, ?ya29⟩) hHeld ?ra29
              case ya29 => intro w hSw; obtain ⟨y1, y2, y3, y4⟩ := HC4.out w hSw; clear hSw; go_simp; with_reducible rfl
              simp only [Act.put, List.setIfInBounds_toArray, List.set_cons_zero, List.set_cons_succ]
              refine wpAnyH_ready (rs := [14]) (by kernel_rfl) (by simp) ?_
              refine AllReadyH.cons (by simp; rfl) (fun Kc hKc => ?_) AllReadyH.nil
              go_simp
              refine (sameM_eq _ _ _ _ _ lx _ (HMA.out _ hHeld) (HMB.out _ hHeld) (by omega)).mono ?_
              rintro e w9 ⟨rfl, b9⟩
              have HB9 : Hid (Below w3.heap.size w3 w9) := below_then hHeld b9
              refine hKc.out _ _ HB9.out (fun hHeld => ?_)
              clear hKc Kc b9

              refine wpAnyH_take (i := 15) (v := ?va30) (by simp; rfl) (by kernel_rfl) (by kernel_rfl) (by kernel_rfl) (fun _ _ _ h => h) (Or.inl ⟨by rfl, ?ya30⟩) hHeld ?ra30
              case ya30 => intro w hSw; clear hSw; go_simp; with_reducible rfl
              simp only [Act.put, List.setIfInBounds_toArray, List.set_cons_zero, List.set_cons_succ]
              refine wpAnyH_done (by kernel_rfl) (NoPanic.normal ?_) _
              go_wp2_with fail
              go_roundw
              case rel => exact ⟨i4 + 1, by go_num, by omega, HB9⟩
              case measure => simp [intOf]; omega
            · obtain hi5 : i4 = us4.length := by omega
              have hnl : ¬ (i4 : Int) < (us4.length : Int) := by omega
              have y0 := (HC3.out wr HB4.out).1
              have HP4 : Hid (PS wA wr PP (pcs T) T G) := HP3.out.later HB4.out
              clear HP3 HL4 HL5 HC3
              go_wp2_with fail
              refine (apartM_at HP4.out HE4.out (by have := HLL.out.1.1; omega) HLL.out.1.2).mono ?_
              rintro e w5 ⟨rfl, h5⟩
              obtain ⟨TB, hTB⟩ : ∃ TB, TB = put T 4 (.il false (.slice p4 us4.length c4) us4 ls) := ⟨_, rfl⟩
              have HP5 : Hid (PS wA w5 PP (pcs T) TB G) := by rw [hTB]; exact h5
              have HT5 : Hid (∀ i, i < 7 → i ≠ 4 → TB i = T i) := fun i _ hne => by rw [hTB, put_other _ _ hne]
              have HT4 : Hid (TB 4 = .il false (.slice p4 us4.length c4) us4 ls) := by rw [hTB]; exact put_same _ _ _
              have y6 : w5.cell? ⟨PP, 6, none⟩ = some (.slice p6 us6.length c6) := HP5.out.cell (by rw [pcs_get (by decide), HE6.out]; rfl)
              clear h5 hTB HP4 y0
              go_wp2_with fail
              refine (apartI_at _ HP5.out ((HT5.out 6 (by decide) (by decide)).trans HE6.out) (by have := HLL.out.2.1; omega) HLL.out.2.2).mono ?_
              rintro e w6 ⟨rfl, h6⟩
              have HS6 : Hid (St wA w6 PP F D false 100 204) := faded h6 HSH.out HT5.out HT4.out HE5.out HE6.out HE4.out HLL.out.1 HLL.out.2
              clear h6 HP5 HT5 HT4 y6
              go_wp2_with fail
              refine (told_at (j := 0) HS6.out (by decide) (by decide) (by decide)).mono ?_
              rintro e w7 ⟨rfl, h7⟩
              have HS7 : Hid (St wA w7 PP F D false 100 206) := h7
              clear h7 HS6
              go_wp2_with fail
              refine (told_at (j := 1) HS7.out (by decide) (by decide) (by decide)).mono ?_
              rintro e w8 ⟨rfl, h8⟩
              have HS8 : Hid (St wA w8 PP F D false 100 208) := h8
              clear h8 HS7
              go_wp2_with fail
              go_ret
              exact ⟨rfl, below_then HBA.out HS8.out.below⟩

end W
end Go.Proofs.Ythgkdpniaednaaa
