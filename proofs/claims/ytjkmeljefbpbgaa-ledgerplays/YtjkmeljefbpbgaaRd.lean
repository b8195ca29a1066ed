/-
  Layer 12: the document's Close, Copy.
-/
import Derived.Test.YtjkmeljefbpbgaaRc
import Derived.Test.YtjkmeljefbpbgaaZa
import Derived.Deep.RegionHeld3
import Derived.LaidMore
namespace Go.Proofs.Ytjkmeljefbpbgaa
open Go.RowKit


section
variable {w0 w w' : World} {R : Nat} {v : Value} {s : Lg} {rec gone : Int} {ps : List Pt} {K : Nat}

theorem len_piece3 {xs : List Value} {k l n : Nat} (h : xs.length = n * 3) (hkl : k + l ≤ n) : ((xs.drop (k * 3)).take (l * 3)).length = l * 3 := by
  rw [List.length_take, List.length_drop]
  omega
theorem piece_addr3 (g : Nat) {c pp n : Nat} (hc : n ≤ c) : ∃ ad : Addr, (if c = pp + 1 then some (⟨g, 0, none⟩ : Addr) else some ⟨g, (pp + 1) * 3, none⟩) = some ad ∧ (ad = ⟨g, (pp + 1) * 3, none⟩ ∨ (n - (pp + 1)) * 3 = 0) := by
  by_cases h : c = pp + 1
  · exact ⟨_, if_pos h, .inr (by omega)⟩
  · exact ⟨_, if_neg h, .inl rfl⟩
theorem Mir.cls (h : Mir s rec gone ps K) (t : Int) : Mir (clsS s t) rec gone (ps.take (pos t s.L) ++ ps.drop (pos t s.L + 1)) (K + 1) := by
  refine ⟨h.used, h.g0, h.gr, by have := h.rk; omega, ?_, fun p hp => ?_, ?_⟩
  · show cut t s.L = _
    rw [cut_pos, List.map_append, List.map_take, List.map_drop, ← h.L]
  · rcases List.mem_append.1 hp with hp | hp
    · exact h.each p (List.mem_of_mem_take hp)
    · exact h.each p (List.mem_of_mem_drop hp)
  · have := h.len
    rw [List.length_append, List.length_take, List.length_drop]
    omega
set_option maxHeartbeats 2000000 in
set_option maxRecDepth 100000 in
theorem rclose_at (h : RAt w0 w R v s rec gone ps K) (ok : Ok s) (hK : K ≤ 1000) (hb : w0.heap.size ≤ w.heap.size) (t : Int) :
    Calls Try.prog 24 #[lp R, .int .u64 t] w fun e w' => e = .returned (.int .i64 (clsE s t)) ∧ After w0 w w' R v (clsS s t) (K + 1) := by
  have H : Hid (RAt w0 w R v s rec gone ps K) := h
  have hat := rat_at h ok hK t
  have Hb : Hid (w0.heap.size ≤ w.heap.size) := hb
  cases e : look t s.L with
  | none =>
    have HE : Hid (clsE s t = 110 ∧ clsS s t = s) := ⟨by simp [clsE, e], by simp [clsS, cut_none e]⟩
    rw [atv_none e] at hat
    clear h ok
    go_enter Try.func24, Try.ntmps24
    go_wp2_with fail
    refine hat.mono ?_
    rintro e w' ⟨rfl, rfl⟩
    go_wp2
    go_ret
    rw [HE.out.1, HE.out.2]
    exact ⟨rfl, After.same H.out (Below.refl _ _)⟩
  | some x =>
    have HE : Hid (clsE s t = 0) := by show _ = _; simp [clsE, e]
    have HM : Hid (Mir (clsS s t) rec gone (ps.take (pos t s.L) ++ ps.drop (pos t s.L + 1)) (K + 1)) := h.mir.cls t
    rw [atv_some e] at hat
    obtain ⟨hp, _, _⟩ := h.mir.at_some e
    obtain ⟨p, c, rfl, hc, hg⟩ := own_form h.row
    obtain ⟨g, rfl⟩ := hg (by omega)
    have hlen := h.mir.len
    have HL : Hid (∀ w', Below w.heap.size w w' → w'.cell? ⟨R, 4, none⟩ = some (.slice (some ⟨g, 0, none⟩) ps.length c)) := fun w' hb => (lc2 (H.out.later hb)).2.2.2.2.1
    have HC : Hid ([] ++ ((pcells ps).drop 0).take (pos t s.L * 3) ++ ((pcells ps).drop ((pos t s.L + 1) * 3)).take ((ps.length - (pos t s.L + 1)) * 3) = pcells (ps.take (pos t s.L) ++ ps.drop (pos t s.L + 1)) ∧ 0 + pos t s.L + (ps.length - (pos t s.L + 1)) = (ps.take (pos t s.L) ++ ps.drop (pos t s.L + 1)).length) := by
      refine ⟨?_, ?_⟩
      · rw [List.drop_zero, pcells_take, pcells_drop, pcells_take, List.nil_append, ← pcells_app]
        congr 2
        rw [List.take_of_length_le (by simp)]
      · rw [List.length_append, List.length_take, List.length_drop]
        omega
    have LP : Hid ((((pcells ps).drop 0).take (pos t s.L * 3)).length = pos t s.L * 3 ∧ (((pcells ps).drop ((pos t s.L + 1) * 3)).take ((ps.length - (pos t s.L + 1)) * 3)).length = (ps.length - (pos t s.L + 1)) * 3) := ⟨len_piece3 (k := 0) (pcells_len ps) (by omega), len_piece3 (pcells_len ps) (by omega)⟩
    clear h ok e hb
    generalize ps.take (pos t s.L) ++ ps.drop (pos t s.L + 1) = ps' at *
    generalize pos t s.L = pp at *
    have j1 : (pp : Int) < (ps.length : Int) := by omega
    have j2 : (pp : Int) ≤ (c : Int) := by omega
    have j4 : (pp : Int) + 1 ≤ (ps.length : Int) := by omega
    have j5 : (0 : Int) ≤ (pp : Int) + 1 := by omega
    have j6 : ((pp : Int) + 1).toNat = pp + 1 := by omega
    have j7 : IntKind.i64.wrap ((pp : Int) + 1) = (pp : Int) + 1 := wrap_succ hp (by omega)
    obtain ⟨ga, ega, hga⟩ := piece_addr3 (pp := pp) g hc
    have Hga : Hid (ga = ⟨g, (pp + 1) * 3, none⟩ ∨ (ps.length - (pp + 1)) * 3 = 0) := hga
    clear hga
    go_enter Try.func24, Try.ntmps24
    go_wp2_with fail
    refine hat.mono ?_
    rintro e w' ⟨rfl, rfl⟩
    clear hat
    go_wp2_with fail
    refine wp_region_noPanic ?_
    refine wp_region_last 19 (fun w'' => Below w'.heap.size w' w'') (by kernel_rfl) ?_
    have hHeld : Below w'.heap.size w' w'.drew := below_drawn 1
    have D : Hid (Below w'.heap.size w' w'.drew) := hHeld
    generalize w'.drew = we at *
    refine wpAnyL_take (i := 0) (v := ?va1) (by simp; rfl) (by kernel_rfl) (by kernel_rfl) (by kernel_rfl) (by kernel_rfl) (fun _ _ _ h => h) (Or.inl ⟨by rfl, ?ya1⟩) hHeld ?ra1
    case ya1 => intro w hSw; clear hSw; go_simp; with_reducible rfl
    simp only [Act.put, List.setIfInBounds_toArray, List.set_cons_zero, List.set_cons_succ]
    refine wpAnyL_take (i := 2) (v := ?va2) (by simp; rfl) (by kernel_rfl) (by kernel_rfl) (by kernel_rfl) (by kernel_rfl) (fun _ _ _ h => h) (Or.inl ⟨by rfl, ?ya2⟩) hHeld ?ra2
    case ya2 => intro w hSw; clear hSw; go_simp; with_reducible rfl
    simp only [Act.put, List.setIfInBounds_toArray, List.set_cons_zero, List.set_cons_succ]
    refine wpAnyL_take (i := 3) (v := ?va3) (by simp; rfl) (by kernel_rfl) (by kernel_rfl) (by kernel_rfl) (by kernel_rfl) (fun _ _ _ h => h) (Or.inl ⟨by rfl, ?ya3⟩) hHeld ?ra3
    case ya3 => intro w hSw; clear hSw; go_simp; with_reducible rfl
    simp only [Act.put, List.setIfInBounds_toArray, List.set_cons_zero, List.set_cons_succ]
    refine wpAnyL_take (i := 4) (v := ?va4) (by simp; rfl) (by kernel_rfl) (by kernel_rfl) (by kernel_rfl) (by kernel_rfl) (fun _ _ _ h => h) (Or.inl ⟨by rfl, ?ya4⟩) hHeld ?ra4
    case ya4 => intro w hSw; clear hSw; go_simp; with_reducible rfl
    simp only [Act.put, List.setIfInBounds_toArray, List.set_cons_zero, List.set_cons_succ]
    refine wpAnyL_take (i := 5) (v := ?va5) (by simp; rfl) (by kernel_rfl) (by kernel_rfl) (by kernel_rfl) (by kernel_rfl) (fun _ _ _ h => h) (Or.inl ⟨by rfl, ?ya5⟩) hHeld ?ra5
    case ya5 => intro w hSw; have z := HL.out w hSw; clear hSw; go_simp; with_reducible rfl
    simp only [Act.put, List.setIfInBounds_toArray, List.set_cons_zero, List.set_cons_succ]
    refine wpAnyL_take (i := 6) (v := ?va6) (by simp; rfl) (by kernel_rfl) (by kernel_rfl) (by kernel_rfl) (by kernel_rfl) (fun _ _ _ h => h) (Or.inl ⟨by rfl, ?ya6⟩) hHeld ?ra6
    case ya6 => intro w hSw; clear hSw; go_simp; with_reducible rfl
    simp only [Act.put, List.setIfInBounds_toArray, List.set_cons_zero, List.set_cons_succ]
    refine wpAnyL_take (i := 7) (v := ?va7) (by simp; rfl) (by kernel_rfl) (by kernel_rfl) (by kernel_rfl) (by kernel_rfl) (fun _ _ _ h => h) (Or.inl ⟨by rfl, ?ya7⟩) hHeld ?ra7
    case ya7 => intro w hSw; clear hSw; go_simp; with_reducible rfl
    simp only [Act.put, List.setIfInBounds_toArray, List.set_cons_zero, List.set_cons_succ]
    refine wpAnyL_take (i := 9) (v := ?va8) (by simp; rfl) (by kernel_rfl) (by kernel_rfl) (by kernel_rfl) (by kernel_rfl) (fun _ _ _ h => h) (Or.inl ⟨by rfl, ?ya8⟩) hHeld ?ra8
    case ya8 => intro w hSw; clear hSw; go_simp; with_reducible rfl
    simp only [Act.put, List.setIfInBounds_toArray, List.set_cons_zero, List.set_cons_succ]
    refine wpAnyL_take (i := 10) (v := ?va9) (by simp; rfl) (by kernel_rfl) (by kernel_rfl) (by kernel_rfl) (by kernel_rfl) (fun _ _ _ h => h) (Or.inl ⟨by rfl, ?ya9⟩) hHeld ?ra9
    case ya9 => intro w hSw; clear hSw; go_simp; with_reducible rfl
    simp only [Act.put, List.setIfInBounds_toArray, List.set_cons_zero, List.set_cons_succ]
    refine wpAnyL_take (i := 11) (v := ?va10) (by simp; rfl) (by kernel_rfl) (by kernel_rfl) (by kernel_rfl) (by kernel_rfl) (fun _ _ _ h => h) (Or.inl ⟨by rfl, ?ya10⟩) hHeld ?ra10
    case ya10 => intro w hSw; clear hSw; go_simp; with_reducible rfl
    simp only [Act.put, List.setIfInBounds_toArray, List.set_cons_zero, List.set_cons_succ]
    refine wpAnyL_take (i := 12) (v := ?va11) (by simp; rfl) (by kernel_rfl) (by kernel_rfl) (by kernel_rfl) (by kernel_rfl) (fun _ _ _ h => h) (Or.inl ⟨by rfl, ?ya11⟩) hHeld ?ra11
    case ya11 => intro w hSw; have z := HL.out w hSw; clear hSw; go_simp; with_reducible rfl
    simp only [Act.put, List.setIfInBounds_toArray, List.set_cons_zero, List.set_cons_succ]
    refine wpAnyL_take (i := 13) (v := ?va12) (by simp; rfl) (by kernel_rfl) (by kernel_rfl) (by kernel_rfl) (by kernel_rfl) (fun _ _ _ h => h) (Or.inl ⟨by rfl, ?ya12⟩) hHeld ?ra12
    case ya12 => intro w hSw; clear hSw; go_simp; with_reducible rfl
    simp only [Act.put, List.setIfInBounds_toArray, List.set_cons_zero, List.set_cons_succ]
    refine wpAnyL_take (i := 14) (v := ?va13) (by simp; rfl) (by kernel_rfl) (by kernel_rfl) (by kernel_rfl) (by kernel_rfl) (fun _ _ _ h => h) (Or.inl ⟨by rfl, ?ya13⟩) hHeld ?ra13
    case ya13 => intro w hSw; clear hSw; go_simp; with_reducible rfl
    simp only [Act.put, List.setIfInBounds_toArray, List.set_cons_zero, List.set_cons_succ]
    refine wpAnyL_take (i := 15) (v := ?va14) (by simp; rfl) (by kernel_rfl) (by kernel_rfl) (by kernel_rfl) (by kernel_rfl) (fun _ _ _ h => h) (Or.inl ⟨by rfl, ?ya14⟩) hHeld ?ra14
    case ya14 => intro w hSw; clear hSw; go_simp; with_reducible rfl
    simp only [Act.put, List.setIfInBounds_toArray, List.set_cons_zero, List.set_cons_succ]
    refine wpAnyL_ready (rs := [1]) (by kernel_rfl) (by simp) ?_
    refine AllReadyL.cons (by simp; rfl) (fun Kc hKc => ?_) AllReadyL.nil
    go_simp
    have F1 : Hid (FR w' (we.alloc (.cells #[] 67)) w0.heap.size 67 3 (.slice (some ⟨we.heap.size, 0, none⟩) 0 0) 0 []) := FR.empty 67 3 D.out Hb.out
    refine hKc.out _ _ (fun _ => F1.out.below) ?_
    clear hHeld
    have hHeld := F1.out.below
    clear hKc Kc
    generalize we.alloc (.cells #[] 67) = wa at *
    generalize we.heap.size = ge at *
    refine wpAnyL_ready (rs := [8]) (by kernel_rfl) (by simp) ?_
    refine AllReadyL.cons (by simp; rfl) (fun Kc hKc => ?_) AllReadyL.nil
    refine step_own rfl (.tmp 12) (.tmp 18) el58 rfl rfl F1.out.own ⟨g, 0, none⟩ pp c (((pcells ps).drop 0).take (pp * 3)) rfl LP.out.1 (own_piece (own_later H.out.row F1.out.below) rfl 0 (pp * 3)) (ones_piece (ones_p ps) _ _) (by omega) (Nat.le_trans Hb.out F1.out.below.size) ?_
    intro v1 wb ho hk hv
    have F2 : Hid (FR w' wb w0.heap.size 67 3 v1 (0 + pp) ([] ++ ((pcells ps).drop 0).take (pp * 3))) := F1.out.app ho hk hv
    clear ho hk hv F1
    refine hKc.out _ _ (fun _ => F2.out.below) ?_
    clear hHeld
    have hHeld := F2.out.below
    clear hKc Kc
    simp only [Act.put, List.setIfInBounds_toArray, List.set_cons_zero, List.set_cons_succ]
    refine wpAnyL_ready (rs := [16]) (by kernel_rfl) (by simp) ?_
    refine AllReadyL.cons (by simp; rfl) (fun Kc hKc => ?_) AllReadyL.nil
    refine step_own rfl (.tmp 19) (.tmp 26) el58 rfl rfl F2.out.own ga (ps.length - (pp + 1)) (c - (pp + 1)) (((pcells ps).drop ((pp + 1) * 3)).take ((ps.length - (pp + 1)) * 3)) rfl LP.out.2 (own_piece2 (own_later H.out.row F2.out.below) rfl Hga.out) (ones_piece (ones_p ps) _ _) (by omega) (Nat.le_trans Hb.out F2.out.below.size) ?_
    intro v2 wc ho hk hv
    have F3 : Hid (FR w' wc w0.heap.size 67 3 v2 (0 + pp + (ps.length - (pp + 1))) ([] ++ ((pcells ps).drop 0).take (pp * 3) ++ ((pcells ps).drop ((pp + 1) * 3)).take ((ps.length - (pp + 1)) * 3))) := F2.out.app ho hk hv
    clear ho hk hv F2
    obtain ⟨p3, c3, rfl⟩ := own_shape F3.out.own
    refine hKc.out _ _ (fun _ => F3.out.below) ?_
    clear hHeld
    have hHeld := F3.out.below
    clear hKc Kc
    simp only [Act.put, List.setIfInBounds_toArray, List.set_cons_zero, List.set_cons_succ]
    refine wpAnyL_ready (rs := [17]) (by kernel_rfl) (by simp) ?_
    refine AllReadyL.cons (by simp; rfl) (fun Kc hKc => ?_) AllReadyL.nil
    go_simp
    refine hKc.out _ _ (fun _ => F3.out.below) ?_
    clear hHeld
    have hHeld := F3.out.below
    clear hKc Kc
    refine wpAnyL_ready (rs := [18]) (by kernel_rfl) (by simp) ?_
    refine AllReadyL.cons (by simp; rfl) (fun Kc hKc => ?_) AllReadyL.nil
    go_simp
    refine hKc.out _ _ (fun _ => F3.out.below) ?_
    clear hHeld
    have hHeld := F3.out.below
    clear hKc Kc
    refine wpAnyL_ready (rs := [19]) (by kernel_rfl) (by simp) ?_
    refine AllReadyL.cons (by simp; rfl) (fun Kc hKc => ?_) AllReadyL.nil
    have HS : Hid (wc.heap[R]? = some (.cells #[.int .i64 s.cap, .int .i64 s.mark, .int .i64 rec, .int .i64 gone, (.slice (some ⟨g, 0, none⟩) ps.length c)] 60 (0, 0))) := (F3.out.below.block R H.out.lt).trans H.out.st
    have e4 := (five HS.out).2.2.2.2.1
    have f4 := (five HS.out).2.2.2.2.2 4
    go_simp
    refine hKc.out _ _ (fun h => absurd rfl h) ?_
    clear hKc Kc hHeld
    refine wpAnyL_done (by kernel_rfl) (NoPanic.normal ?_) _
    go_wp2
    go_ret
    rw [HE.out]
    have HO : Hid (wc.ownsRow w0.heap.size 67 3 (.slice p3 (0 + pp + (ps.length - (pp + 1))) c3) ps'.length (pcells ps')) := by rw [← HC.out.1, ← HC.out.2]; exact F3.out.own
    refine ⟨rfl, _, rec, gone, ps', ⟨?_, own_far HO.out (Kept.setCell R 4 _) (fun g hg e => by have := F3.out.new g hg; have := H.out.lt; omega), HM.out⟩, (Kept.of_below _ F3.out.below).trans (Kept.setCell R 4 _) fun x _ e => .inl e, fun g hg => .inr (F3.out.new g hg)⟩
    rw [st_set 4 _ HS.out, Nat.zero_add]
    rfl
theorem run_own_nil (g ty : Nat) (w : World) : (Builtin.append_ #[58, 58] ty #[.slice (some ⟨g, 0, none⟩) 0 0, .slice none 0 0]).run Try.prog w = .ok (.slice (some ⟨g, 0, none⟩) 0 0) w := by
  obtain ⟨i0, hi, hz0, hz1, hz2⟩ := info_parts info67
  have hfn : (Builtin.firstCells 3 0 (.slice none 0 0)).run Try.prog w = .ok #[] w := run_firstCells_none w 3 0 0 0
  simp [Builtin.append_, run_underlying Try.underlying58, sizeOf, typeInfo, hi, hz1, Builtin.lenOf, hfn, storeCells]
set_option maxHeartbeats 2000000 in
set_option maxRecDepth 100000 in
theorem rcopy_at (h : RAt w0 w R v s rec gone ps K) (hK : K ≤ 1000) (hb : w0.heap.size ≤ w.heap.size) :
    Calls Try.prog 26 #[lp R] w fun e w' => ∃ v', e = .returned (lp w.heap.size) ∧ RAt w0 w' w.heap.size v' s rec gone ps K ∧ Below w.heap.size w w' ∧ ∀ g, v'.ownBlock = some g → w.heap.size < g := by
  have H : Hid (RAt w0 w R v s rec gone ps K) := h
  obtain ⟨c0, c1, c2, c3, c4, _⟩ := lc2 h
  have hlen := h.mir.len
  have Hb : Hid (w0.heap.size ≤ w.heap.size) := hb
  rcases h.row.2 with ⟨rfl, hz⟩ | ⟨g, c, cur, rfl, _⟩
  · obtain rfl : ps = [] := List.eq_nil_of_length_eq_zero hz
    clear hz
    have HB : Hid (Below w.heap.size w (w.alloc (.cells #[.int .i64 s.cap, .int .i64 s.mark, .int .i64 rec, .int .i64 gone, .slice none 0 0] 60)) ∧ (w.alloc (.cells #[.int .i64 s.cap, .int .i64 s.mark, .int .i64 rec, .int .i64 gone, .slice none 0 0] 60)).heap[w.heap.size]? = some (.cells #[.int .i64 s.cap, .int .i64 s.mark, .int .i64 rec, .int .i64 gone, .slice none 0 0] 60 (0, 0)) ∧ (w.alloc (.cells #[.int .i64 s.cap, .int .i64 s.mark, .int .i64 rec, .int .i64 gone, .slice none 0 0] 60)).heap.size = w.heap.size + 1) := ⟨below_alloc w _, heap_alloc_new w _, by simp⟩
    have F1 : Hid (FR (w.alloc (.cells #[.int .i64 s.cap, .int .i64 s.mark, .int .i64 rec, .int .i64 gone, .slice none 0 0] 60)) ((w.alloc (.cells #[.int .i64 s.cap, .int .i64 s.mark, .int .i64 rec, .int .i64 gone, .slice none 0 0] 60)).alloc (.cells #[] 67)) w0.heap.size 67 3 (.slice (some ⟨w.heap.size + 1, 0, none⟩) 0 0) 0 []) := by
      have := FR.empty (we := w.alloc (.cells #[.int .i64 s.cap, .int .i64 s.mark, .int .i64 rec, .int .i64 gone, .slice none 0 0] 60)) (w := w.alloc (.cells #[.int .i64 s.cap, .int .i64 s.mark, .int .i64 rec, .int .i64 gone, .slice none 0 0] 60)) (base := w0.heap.size) 67 3 (Below.refl _ _) (by have := Hb.out; have := HB.out.1.size; omega)
      rw [HB.out.2.2] at this
      exact this
    have d4 : ((w.alloc (.cells #[.int .i64 s.cap, .int .i64 s.mark, .int .i64 rec, .int .i64 gone, .slice none 0 0] 60)).alloc (.cells #[] 67)).cell? ⟨R, 4, none⟩ = some (.slice none 0 0) := ((below_then HB.out.1 F1.out.below).cell (p := ⟨R, 4, none⟩) H.out.lt).trans c4
    have hs4 : Hid (∀ w', Below (w.alloc (.cells #[.int .i64 s.cap, .int .i64 s.mark, .int .i64 rec, .int .i64 gone, .slice none 0 0] 60)).heap.size (w.alloc (.cells #[.int .i64 s.cap, .int .i64 s.mark, .int .i64 rec, .int .i64 gone, .slice none 0 0] 60)) w' → w'.heap[w.heap.size]? = some (.cells #[.int .i64 s.cap, .int .i64 s.mark, .int .i64 rec, .int .i64 gone, .slice none 0 0] 60 (0, 0))) := fun w' hb => (hb.block _ (by rw [HB.out.2.2]; omega)).trans HB.out.2.1
    clear h hb
    have hr := fun ty => run_own_nil (w.heap.size + 1) ty ((w.alloc (.cells #[.int .i64 s.cap, .int .i64 s.mark, .int .i64 rec, .int .i64 gone, .slice none 0 0] 60)).alloc (.cells #[] 67))
    have e4 := (five (hs4.out _ F1.out.below)).2.2.2.2.1
    have f4 := (five (hs4.out _ F1.out.below)).2.2.2.2.2 4
    go_enter Try.func26, Try.ntmps26
    go_wp2
    go_ret
    have HY : Hid (Below w.heap.size w (w.alloc (.cells #[.int .i64 s.cap, .int .i64 s.mark, .int .i64 rec, .int .i64 gone, .slice (some ⟨w.heap.size + 1, 0, none⟩) 0 0] 60)) ∧ (w.alloc (.cells #[.int .i64 s.cap, .int .i64 s.mark, .int .i64 rec, .int .i64 gone, .slice (some ⟨w.heap.size + 1, 0, none⟩) 0 0] 60)).heap[w.heap.size]? = some (.cells #[.int .i64 s.cap, .int .i64 s.mark, .int .i64 rec, .int .i64 gone, .slice (some ⟨w.heap.size + 1, 0, none⟩) 0 0] 60 (0, 0)) ∧ (w.alloc (.cells #[.int .i64 s.cap, .int .i64 s.mark, .int .i64 rec, .int .i64 gone, .slice (some ⟨w.heap.size + 1, 0, none⟩) 0 0] 60)).heap.size = w.heap.size + 1) := ⟨below_alloc w _, heap_alloc_new w _, by simp⟩
    have FY : Hid (FR (w.alloc (.cells #[.int .i64 s.cap, .int .i64 s.mark, .int .i64 rec, .int .i64 gone, .slice (some ⟨w.heap.size + 1, 0, none⟩) 0 0] 60)) ((w.alloc (.cells #[.int .i64 s.cap, .int .i64 s.mark, .int .i64 rec, .int .i64 gone, .slice (some ⟨w.heap.size + 1, 0, none⟩) 0 0] 60)).alloc (.cells #[] 67)) w0.heap.size 67 3 (.slice (some ⟨w.heap.size + 1, 0, none⟩) 0 0) 0 []) := by
      have := FR.empty (we := w.alloc (.cells #[.int .i64 s.cap, .int .i64 s.mark, .int .i64 rec, .int .i64 gone, .slice (some ⟨w.heap.size + 1, 0, none⟩) 0 0] 60)) (w := w.alloc (.cells #[.int .i64 s.cap, .int .i64 s.mark, .int .i64 rec, .int .i64 gone, .slice (some ⟨w.heap.size + 1, 0, none⟩) 0 0] 60)) (base := w0.heap.size) 67 3 (Below.refl _ _) (by have := Hb.out; have := HY.out.1.size; omega)
      rw [HY.out.2.2] at this
      exact this
    exact ⟨_, rfl, ⟨(FY.out.below.block _ (by rw [HY.out.2.2]; omega)).trans HY.out.2.1, FY.out.own, H.out.mir⟩, below_then HY.out.1 FY.out.below, fun g hg => by have := FY.out.new g hg; have := HY.out.2.2; omega⟩
  · have HB : Hid (Below w.heap.size w (w.alloc (.cells #[.int .i64 s.cap, .int .i64 s.mark, .int .i64 rec, .int .i64 gone, .slice (some ⟨g, 0, none⟩) ps.length c] 60)) ∧ (w.alloc (.cells #[.int .i64 s.cap, .int .i64 s.mark, .int .i64 rec, .int .i64 gone, .slice (some ⟨g, 0, none⟩) ps.length c] 60)).heap[w.heap.size]? = some (.cells #[.int .i64 s.cap, .int .i64 s.mark, .int .i64 rec, .int .i64 gone, .slice (some ⟨g, 0, none⟩) ps.length c] 60 (0, 0)) ∧ (w.alloc (.cells #[.int .i64 s.cap, .int .i64 s.mark, .int .i64 rec, .int .i64 gone, .slice (some ⟨g, 0, none⟩) ps.length c] 60)).heap.size = w.heap.size + 1) := ⟨below_alloc w _, heap_alloc_new w _, by simp⟩
    have F1 : Hid (FR (w.alloc (.cells #[.int .i64 s.cap, .int .i64 s.mark, .int .i64 rec, .int .i64 gone, .slice (some ⟨g, 0, none⟩) ps.length c] 60)) ((w.alloc (.cells #[.int .i64 s.cap, .int .i64 s.mark, .int .i64 rec, .int .i64 gone, .slice (some ⟨g, 0, none⟩) ps.length c] 60)).alloc (.cells #[] 67)) w0.heap.size 67 3 (.slice (some ⟨w.heap.size + 1, 0, none⟩) 0 0) 0 []) := by
      have := FR.empty (we := w.alloc (.cells #[.int .i64 s.cap, .int .i64 s.mark, .int .i64 rec, .int .i64 gone, .slice (some ⟨g, 0, none⟩) ps.length c] 60)) (w := w.alloc (.cells #[.int .i64 s.cap, .int .i64 s.mark, .int .i64 rec, .int .i64 gone, .slice (some ⟨g, 0, none⟩) ps.length c] 60)) (base := w0.heap.size) 67 3 (Below.refl _ _) (by have := Hb.out; have := HB.out.1.size; omega)
      rw [HB.out.2.2] at this
      exact this
    have d4 : ((w.alloc (.cells #[.int .i64 s.cap, .int .i64 s.mark, .int .i64 rec, .int .i64 gone, .slice (some ⟨g, 0, none⟩) ps.length c] 60)).alloc (.cells #[] 67)).cell? ⟨R, 4, none⟩ = some (.slice (some ⟨g, 0, none⟩) ps.length c) := ((below_then HB.out.1 F1.out.below).cell (p := ⟨R, 4, none⟩) H.out.lt).trans c4
    have hs4 : Hid (∀ w', Below (w.alloc (.cells #[.int .i64 s.cap, .int .i64 s.mark, .int .i64 rec, .int .i64 gone, .slice (some ⟨g, 0, none⟩) ps.length c] 60)).heap.size (w.alloc (.cells #[.int .i64 s.cap, .int .i64 s.mark, .int .i64 rec, .int .i64 gone, .slice (some ⟨g, 0, none⟩) ps.length c] 60)) w' → w'.heap[w.heap.size]? = some (.cells #[.int .i64 s.cap, .int .i64 s.mark, .int .i64 rec, .int .i64 gone, .slice (some ⟨g, 0, none⟩) ps.length c] 60 (0, 0))) := fun w' hb => (hb.block _ (by rw [HB.out.2.2]; omega)).trans HB.out.2.1
    clear h hb
    have HL : Hid (0 + ps.length ≤ 10000) := by show _ ≤ _; omega
    have HSZ : Hid (w0.heap.size ≤ ((w.alloc (.cells #[.int .i64 s.cap, .int .i64 s.mark, .int .i64 rec, .int .i64 gone, .slice (some ⟨g, 0, none⟩) ps.length c] 60)).alloc (.cells #[] 67)).heap.size) := Nat.le_trans Hb.out (below_then HB.out.1 F1.out.below).size
    have HR : Hid (∀ j u, (pcells ps)[j]? = some u → ((w.alloc (.cells #[.int .i64 s.cap, .int .i64 s.mark, .int .i64 rec, .int .i64 gone, .slice (some ⟨g, 0, none⟩) ps.length c] 60)).alloc (.cells #[] 67)).cell? ((⟨g, 0, none⟩ : Addr).add j) = some u) := (own_later H.out.row (below_then HB.out.1 F1.out.below)).cells rfl
    go_enter Try.func26, Try.ntmps26
    go_wp2_with (at_builtin; refine wpList_own rfl (.tmp 7) (.tmp 11) el58 rfl rfl F1.out.own ⟨g, 0, none⟩ ps.length c (pcells ps) rfl (pcells_len ps) HR.out (ones_p ps) HL.out HSZ.out ?_; intro v2 w3 ho hk hv; have F2 : Hid (FR (w.alloc (.cells #[.int .i64 s.cap, .int .i64 s.mark, .int .i64 rec, .int .i64 gone, .slice (some ⟨g, 0, none⟩) ps.length c] 60)) w3 w0.heap.size 67 3 v2 (0 + ps.length) ([] ++ pcells ps)) := F1.out.app ho hk hv; clear ho hk hv; have e4 := (five (hs4.out _ F2.out.below)).2.2.2.2.1; have f4 := (five (hs4.out _ F2.out.below)).2.2.2.2.2 4; obtain ⟨p3, c3', rfl⟩ := own_shape F2.out.own)
    go_ret
    have HO : Hid (w3.ownsRow w0.heap.size 67 3 (.slice p3 ps.length c3') ps.length (pcells ps)) := by have := F2.out.own; rw [Nat.zero_add] at this; exact this
    have HN : Hid (∀ g, (Value.slice p3 ps.length c3').ownBlock = some g → w.heap.size < g) := fun g hg => by have h2 := F2.out.new g (by rw [Nat.zero_add]; exact hg); have := HB.out.2.2; omega
    refine ⟨.slice p3 ps.length c3', rfl, ⟨?_, own_far HO.out (Kept.setCell w.heap.size 4 _) (fun g hg e => by have := HN.out g hg; omega), H.out.mir⟩, ?_, HN.out⟩
    · rw [st_set 4 _ (hs4.out _ F2.out.below)]
      rfl
    · exact ((Kept.of_below (· = w.heap.size) (below_then HB.out.1 F2.out.below)).trans (Kept.setCell w.heap.size 4 _) fun x _ e => e).below fun b hb e => by omega
end
end Go.Proofs.Ytjkmeljefbpbgaa
