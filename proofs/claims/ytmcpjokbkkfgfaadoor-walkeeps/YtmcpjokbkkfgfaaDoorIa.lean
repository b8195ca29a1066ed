/-
  Layer 9: a transaction's set.
-/
import Derived.Test.YtmcpjokbkkfgfaaDoorHc
import Derived.Deep.AppendLies
import Derived.Maps.AppendAt
namespace Go.Proofs.YtmcpjokbkkfgfaaDoor
open Go.RowKit


abbrev I64 (xs : List Int) : List Value := xs.map (Value.int .i64)
theorem one_i64 (x : Int) : ∀ u ∈ [Value.int .i64 x], u.oneCell' = true := by simp [Value.oneCell']
/-- rising numbers below k -/
structure Rise (ys : List Int) (k : Int) : Prop where
  up : ys.Pairwise (· < ·)
  lo : ∀ y ∈ ys, 0 ≤ y
  hi : ∀ y ∈ ys, y < k
theorem Rise.nil (k : Int) : Rise [] k := ⟨List.Pairwise.nil, fun y h => (by cases h), fun y h => (by cases h)⟩
theorem Rise.more {ys : List Int} {k : Int} (h : Rise ys k) : Rise ys (k + 1) := ⟨h.up, h.lo, fun y hy => by have := h.hi y hy; omega⟩
theorem Rise.snoc {ys : List Int} {k : Int} (h : Rise ys k) (hk : 0 ≤ k) : Rise (ys ++ [k]) (k + 1) := by
  refine ⟨List.pairwise_append.2 ⟨h.up, List.pairwise_singleton _ _, fun x hx y hy => ?_⟩, fun y hy => ?_, fun y hy => ?_⟩
  · rcases List.mem_singleton.1 hy with rfl; exact h.hi x hx
  · rcases List.mem_append.1 hy with hy | hy
    · exact h.lo y hy
    · rcases List.mem_singleton.1 hy with rfl; exact hk
  · rcases List.mem_append.1 hy with hy | hy
    · have := h.hi y hy; omega
    · rcases List.mem_singleton.1 hy with rfl; omega
/-- the cells of a transaction -/
def tcells (a : Option Addr) (n c : Nat) (f m : Int) : List Value := [.slice a n c, .int .u8 f, .int .i64 m]

set_option maxHeartbeats 4000000 in
set_option maxRecDepth 100000 in
theorem set_any (a : Option Addr) (n c : Nat) (f m : Int) (xs : List Int) (g : Sup) (hg : MayC g) (w : World) (hx : IIn w .i64 a n xs) (hn : n ≤ 140737488355328) :
    Calls Tryd.prog 23 #[.agg (tcells a n c f m).toArray, .agg (ccells g).toArray] w fun e w' => ∃ v ys, e = .returned v ∧ w'.ownsRow w.heap.size 3 1 v ys.length (I64 ys) ∧ Rise ys g.bl ∧ (ys.length : Int) ≤ g.mr ∧ Below w.heap.size w w' := by
  obtain ⟨i0, hi, hz0, hz1, hz2⟩ := info_parts info3
  obtain ⟨w0, hw0⟩ : ∃ x, x = (w.alloc (.cells (tcells a n c f m).toArray 61)).alloc (.cells (ccells g).toArray 29) := ⟨_, rfl⟩
  have ew := hw0.symm
  have B0 : Hid (Below w.heap.size w w0) := by rw [hw0]; exact below_then (below_alloc w _) (below_alloc _ _)
  have T0 : Hid (LAt 61 w0 w.heap.size (tcells a n c f m)) := by rw [hw0]; exact LAt.later (LAt.new 61 w _) (below_alloc _ _)
  have C0 : Hid (CAt w0 (w.heap.size + 1) g) := by
    have := LAt.new 29 (w.alloc (.cells (tcells a n c f m).toArray 61)) (ccells g)
    rw [World.size_alloc] at this
    rw [hw0]; exact this
  have HX : Hid (IIn w .i64 a n xs) := hx
  have HG : Hid (MayC g) := hg
  have hb1 := hg.1.1
  have hb2 := hg.1.2
  have hm1 := hg.2.2.1.1
  have hm2 := hg.2.2.1.2.1
  clear hw0 hx hg
  go_enter Tryd.func23, Tryd.ntmps23
  go_wp2
  clear ew
  go_loopw [5, 6] (fun v b wr => ∃ (k l : Nat) (ys : List Int), (k : Int) ≤ g.bl ∧ b = .int .i64 k ∧ ys.length = l ∧ (l : Int) ≤ g.mr ∧ Hid (Rise ys k) ∧ Hid (wr.ownsRow w0.heap.size 3 1 v l (I64 ys)) ∧ Hid (Below w0.heap.size w0 wr)) (fun _ b _ => 64 - (intOf b).toNat)
  case atStart => exact ⟨0, 0, [], by omega, rfl, rfl, by omega, Rise.nil _, World.ownsRow_nil _ _ _ _, Below.refl _ _⟩
  case round =>
    obtain ⟨k, l, ys, hk, rfl, hl, hlm, HR, HO, HB⟩ := hrel
    obtain ⟨q, cap, rfl, -, -⟩ := own_slice HO.out
    have c0 := CAt.c0 (LAt.later C0.out HB.out)
    have c2 := CAt.c2 (LAt.later C0.out HB.out)
    have HL : Hid (ys.length = l) := hl
    clear hl
    by_cases hlt : (k : Int) < g.bl
    · by_cases hfull : (l : Int) < g.mr
      · go_wp2
        go_loopw [5, 7] (fun v i w3 => ∃ j : Nat, j ≤ n ∧ i = .int .i64 j ∧ v = .slice q l cap ∧ Hid (Below wr.heap.size wr w3)) (fun _ i _ => n - (intOf i).toNat)
        case atStart => exact ⟨0, Nat.zero_le _, rfl, rfl, Below.refl _ _⟩
        case round =>
          obtain ⟨j, hj, rfl, rfl, HD⟩ := hrel
          have BD : Hid (Below w0.heap.size w0 wr) := below_then HB.out HD.out
          have t0 : wr.cell? ⟨w.heap.size, 0, none⟩ = some (.slice a n c) := LAt.cell (LAt.later T0.out BD.out) 0
          by_cases hjn : j < n
          · have hjx : j < xs.length := by rw [HX.out.len]; exact hjn
            obtain ⟨ab, ao, rfl, hcs⟩ := HX.out.cells (by omega)
            have HC : Hid (∀ w', Below wr.heap.size wr w' → w'.cell? ⟨w.heap.size, 0, none⟩ = some (.slice (some ⟨ab, ao, none⟩) n c) ∧ w'.cell? ⟨ab, ao + j, none⟩ = some (.int .i64 xs[j]) ∧ w'.cell? ⟨w.heap.size + 1, 0, none⟩ = some (.int .i64 g.bl)) := fun w' hb => by
              have hb' := below_then BD.out hb
              refine ⟨LAt.cell (LAt.later T0.out hb') 0, ?_, CAt.c0 (LAt.later C0.out hb')⟩
              have hbw := below_then B0.out hb'
              rw [hbw.cell (p := ⟨ab, ao + j, none⟩) (World.block_lt_of_cell? w _ (hcs j hjx))]
              exact hcs j hjx
            have HO3 : Hid (wr.ownsRow w0.heap.size 3 1 (.slice q l cap) l (I64 ys)) := own_later HO.out HD.out
            obtain ⟨x, hx⟩ : ∃ x, x = xs[j] := ⟨_, rfl⟩
            rw [← hx] at HC
            have hr1 : -g.bl < x.tmod g.bl ∧ x.tmod g.bl < g.bl := ⟨Int.lt_tmod_of_pos x (by omega), Int.tmod_lt_of_pos x (by omega)⟩
            have hr2 : (x.tmod g.bl + g.bl).tmod g.bl = x % g.bl := G.tmod_fix x g.bl (by omega)
            have hne : ¬ g.bl = 0 := by omega
            have k1 : IntKind.i64.wrap (x.tmod g.bl) = x.tmod g.bl := by rw [IntKind.wrap_i64]; omega
            have k2 : IntKind.i64.wrap (x.tmod g.bl + g.bl) = x.tmod g.bl + g.bl := by rw [IntKind.wrap_i64]; omega
            have hr3 : 0 ≤ x % g.bl ∧ x % g.bl < g.bl := ⟨Int.emod_nonneg x hne, Int.emod_lt_of_pos x (by omega)⟩
            have k3 : IntKind.i64.wrap (x % g.bl) = x % g.bl := by rw [IntKind.wrap_i64]; omega
            clear hx hcs
            go_wp2_with fail
            refine wp_region_noPanic ?_
            refine wp_region_held_drew (S := fun w' => Below wr.heap.size wr w') (by kernel_rfl) (below_drawn 1) (fun hHeld => ?_)
            have D3 : Hid (Below wr.heap.size wr wr.drew) := hHeld
            generalize wr.drew = wd at *
            refine wpAnyH_take (i := 0) (v := ?va1) (by simp; rfl) (by kernel_rfl) (by kernel_rfl) (by kernel_rfl) (fun _ _ _ h => h) (Or.inl ⟨by rfl, ?ya1⟩) hHeld ?ra1
            case ya1 => intro w hSw; clear hSw; go_simp; with_reducible rfl
            simp only [Act.put, List.setIfInBounds_toArray, List.set_cons_zero, List.set_cons_succ]
            refine wpAnyH_take (i := 1) (v := ?va2) (by simp; rfl) (by kernel_rfl) (by kernel_rfl) (by kernel_rfl) (fun _ _ _ h => h) (Or.inl ⟨by rfl, ?ya2⟩) hHeld ?ra2
            case ya2 => intro w hSw; have z := (HC.out _ hSw).1; clear hSw; go_simp; with_reducible rfl
            simp only [Act.put, List.setIfInBounds_toArray, List.set_cons_zero, List.set_cons_succ]
            refine wpAnyH_take (i := 2) (v := ?va3) (by simp; rfl) (by kernel_rfl) (by kernel_rfl) (by kernel_rfl) (fun _ _ _ h => h) (Or.inl ⟨by rfl, ?ya3⟩) hHeld ?ra3
            case ya3 => intro w hSw; clear hSw; go_simp; with_reducible rfl
            simp only [Act.put, List.setIfInBounds_toArray, List.set_cons_zero, List.set_cons_succ]
            refine wpAnyH_take (i := 3) (v := ?va4) (by simp; rfl) (by kernel_rfl) (by kernel_rfl) (by kernel_rfl) (fun _ _ _ h => h) (Or.inl ⟨by rfl, ?ya4⟩) hHeld ?ra4
            case ya4 => intro w hSw; clear hSw; go_simp; with_reducible rfl
            simp only [Act.put, List.setIfInBounds_toArray, List.set_cons_zero, List.set_cons_succ]
            refine wpAnyH_take (i := 4) (v := ?va5) (by simp; rfl) (by kernel_rfl) (by kernel_rfl) (by kernel_rfl) (fun _ _ _ h => h) (Or.inl ⟨by rfl, ?ya5⟩) hHeld ?ra5
            case ya5 => intro w hSw; have z := (HC.out _ hSw).2.1; clear hSw; go_simp; with_reducible rfl
            simp only [Act.put, List.setIfInBounds_toArray, List.set_cons_zero, List.set_cons_succ]
            refine wpAnyH_take (i := 5) (v := ?va6) (by simp; rfl) (by kernel_rfl) (by kernel_rfl) (by kernel_rfl) (fun _ _ _ h => h) (Or.inl ⟨by rfl, ?ya6⟩) hHeld ?ra6
            case ya6 => intro w hSw; clear hSw; go_simp; with_reducible rfl
            simp only [Act.put, List.setIfInBounds_toArray, List.set_cons_zero, List.set_cons_succ]
            refine wpAnyH_take (i := 6) (v := ?va7) (by simp; rfl) (by kernel_rfl) (by kernel_rfl) (by kernel_rfl) (fun _ _ _ h => h) (Or.inl ⟨by rfl, ?ya7⟩) hHeld ?ra7
            case ya7 => intro w hSw; have z := (HC.out _ hSw).2.2; clear hSw; go_simp; with_reducible rfl
            simp only [Act.put, List.setIfInBounds_toArray, List.set_cons_zero, List.set_cons_succ]
            refine wpAnyH_take (i := 7) (v := ?va8) (by simp; rfl) (by kernel_rfl) (by kernel_rfl) (by kernel_rfl) (fun _ _ _ h => h) (Or.inl ⟨by rfl, ?ya8⟩) hHeld ?ra8
            case ya8 => intro w hSw; clear hSw; go_simp; with_reducible rfl
            simp only [Act.put, List.setIfInBounds_toArray, List.set_cons_zero, List.set_cons_succ]
            refine wpAnyH_take (i := 8) (v := ?va9) (by simp; rfl) (by kernel_rfl) (by kernel_rfl) (by kernel_rfl) (fun _ _ _ h => h) (Or.inl ⟨by rfl, ?ya9⟩) hHeld ?ra9
            case ya9 => intro w hSw; clear hSw; go_simp; with_reducible rfl
            simp only [Act.put, List.setIfInBounds_toArray, List.set_cons_zero, List.set_cons_succ]
            refine wpAnyH_take (i := 9) (v := ?va10) (by simp; rfl) (by kernel_rfl) (by kernel_rfl) (by kernel_rfl) (fun _ _ _ h => h) (Or.inl ⟨by rfl, ?ya10⟩) hHeld ?ra10
            case ya10 => intro w hSw; have z := (HC.out _ hSw).2.2; clear hSw; go_simp; with_reducible rfl
            simp only [Act.put, List.setIfInBounds_toArray, List.set_cons_zero, List.set_cons_succ]
            refine wpAnyH_take (i := 10) (v := ?va11) (by simp; rfl) (by kernel_rfl) (by kernel_rfl) (by kernel_rfl) (fun _ _ _ h => h) (Or.inl ⟨by rfl, ?ya11⟩) hHeld ?ra11
            case ya11 => intro w hSw; clear hSw; go_simp; with_reducible rfl
            simp only [Act.put, List.setIfInBounds_toArray, List.set_cons_zero, List.set_cons_succ]
            refine wpAnyH_take (i := 11) (v := ?va12) (by simp; rfl) (by kernel_rfl) (by kernel_rfl) (by kernel_rfl) (fun _ _ _ h => h) (Or.inl ⟨by rfl, ?ya12⟩) hHeld ?ra12
            case ya12 => intro w hSw; clear hSw; go_simp; with_reducible rfl
            simp only [Act.put, List.setIfInBounds_toArray, List.set_cons_zero, List.set_cons_succ]
            refine wpAnyH_take (i := 12) (v := ?va13) (by simp; rfl) (by kernel_rfl) (by kernel_rfl) (by kernel_rfl) (fun _ _ _ h => h) (Or.inl ⟨by rfl, ?ya13⟩) hHeld ?ra13
            case ya13 => intro w hSw; have z := (HC.out _ hSw).2.2; clear hSw; go_simp; with_reducible rfl
            simp only [Act.put, List.setIfInBounds_toArray, List.set_cons_zero, List.set_cons_succ]
            refine wpAnyH_take (i := 13) (v := ?va14) (by simp; rfl) (by kernel_rfl) (by kernel_rfl) (by kernel_rfl) (fun _ _ _ h => h) (Or.inl ⟨by rfl, ?ya14⟩) hHeld ?ra14
            case ya14 => intro w hSw; clear hSw; go_simp; with_reducible rfl
            simp only [Act.put, List.setIfInBounds_toArray, List.set_cons_zero, List.set_cons_succ]
            refine wpAnyH_take (i := 14) (v := ?va15) (by simp; rfl) (by kernel_rfl) (by kernel_rfl) (by kernel_rfl) (fun _ _ _ h => h) (Or.inl ⟨by rfl, ?ya15⟩) hHeld ?ra15
            case ya15 => intro w hSw; clear hSw; go_simp; with_reducible rfl
            simp only [Act.put, List.setIfInBounds_toArray, List.set_cons_zero, List.set_cons_succ]
            refine wpAnyH_take (i := 15) (v := ?va16) (by simp; rfl) (by kernel_rfl) (by kernel_rfl) (by kernel_rfl) (fun _ _ _ h => h) (Or.inl ⟨by rfl, ?ya16⟩) hHeld ?ra16
            case ya16 => intro w hSw; clear hSw; go_simp; with_reducible rfl
            simp only [Act.put, List.setIfInBounds_toArray, List.set_cons_zero, List.set_cons_succ]
            clear hHeld
            refine wpAnyH_done (by kernel_rfl) (NoPanic.normal ?_) _
            have BW : Hid (Below w0.heap.size w0 wd) := below_then BD.out D3.out
            have HOd : Hid (wd.ownsRow w0.heap.size 3 1 (.slice q l cap) l (I64 ys)) := own_later HO3.out D3.out
            have HDd : Hid (_) := below_then HD.out D3.out
            clear HC HO3 k1 k2 hr2 BD D3 t0 hr1
            by_cases hq : x % g.bl = (k : Int)
            · have hqb : (x % g.bl == (k : Int)) = true := by simp [hq]
              have HRk : Hid (Rise (ys ++ [(k : Int)]) ((k : Int) + 1)) := HR.out.snoc (by omega)
              clear hq hr3 k3 c0 c2
              go_wp2_with (at_builtin; refine wpList_append_lies _ rfl (.tmp 44) (.tmp 46) 59 rfl w0.heap.size 3 i0 (.int .i64 0) 1 8 Tryd.underlying59 hi hz0 hz1 hz2 rfl (by omega) _ l (I64 ys) rfl (HOd.out.alloc _) ⟨_, 0, none⟩ 1 1 [.int .i64 (k : Int)] rfl rfl (cell_one_new _ _ _) (one_i64 _) (by omega) (by unfold maxLen; omega) (by omega) (by have := BW.out.size; simp; omega) _ rfl ?_)
              intro g2 cap2 w2 hown hgrow hat hlt2
              have HO2 : Hid (w2.ownsRow w0.heap.size 3 1 (.slice (some ⟨g2, 0, none⟩) (l + 1) cap2) (l + 1) (I64 (ys ++ [(k : Int)]))) := by
                have e : I64 (ys ++ [(k : Int)]) = I64 ys ++ [Value.int .i64 (k : Int)] := by simp [I64]
                rw [e]
                exact hown
              have HB2 : Hid (Below w0.heap.size w0 w2) := (BW.out.alloc BW.out.size _).grown hgrow (by have := BW.out.size; simp; omega) (fun k hk => (HOd.out.lt k hk).1)
              clear hown hgrow hat hlt2 BW HOd HDd
              go_wp2
              go_roundw
              case rel => exact ⟨k + 1, l + 1, ys ++ [(k : Int)], by omega, by go_num, by rw [List.length_append, HL.out]; rfl, by omega, HRk, HO2, HB2⟩
              case measure => simp [intOf]; omega
            · have hqb : (x % g.bl == (k : Int)) = false := by simp [hq]
              clear hq hr3 k3 c0 c2
              go_wp2
              go_roundw
              case rel => exact ⟨j + 1, by omega, by go_num, rfl, HDd⟩
              case measure => simp [intOf]; omega
          · have BW : Hid (Below w0.heap.size w0 wr) := below_then HB.out HD.out
            have HO3 : Hid (wr.ownsRow w0.heap.size 3 1 (.slice q l cap) l (I64 ys)) := own_later HO.out HD.out
            have HRk : Hid (Rise ys ((k : Int) + 1)) := HR.out.more
            clear c0 c2
            go_wp2
            go_roundw
            case rel => exact ⟨k + 1, l, ys, by omega, by go_num, HL.out, hlm, HRk, HO3, BW⟩
            case measure => simp [intOf]; omega
      · have HF : Hid (Rise ys g.bl) := ⟨HR.out.up, HR.out.lo, fun y hy => by have := HR.out.hi y hy; omega⟩
        go_wp2
        go_ret
        exact ⟨_, rfl, ys, by rw [HL.out]; exact own_mono HO.out B0.out.size, HF.out, by rw [HL.out]; exact hlm, below_then B0.out HB.out⟩
    · have HF : Hid (Rise ys g.bl) := ⟨HR.out.up, HR.out.lo, fun y hy => by have := HR.out.hi y hy; omega⟩
      go_wp2
      go_ret
      exact ⟨_, rfl, ys, by rw [HL.out]; exact own_mono HO.out B0.out.size, HF.out, by rw [HL.out]; exact hlm, below_then B0.out HB.out⟩
end Go.Proofs.YtmcpjokbkkfgfaaDoor
