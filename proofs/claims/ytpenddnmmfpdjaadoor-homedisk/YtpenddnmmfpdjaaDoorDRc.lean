/-
  The document's own disk: Read, Crash, Flush.
-/
import Derived.Test.YtpenddnmmfpdjaaDoorDRb
namespace Go.Proofs.YtpenddnmmfpdjaaDoor
open Go.RowKit
set_option maxHeartbeats 1000000 in
set_option maxRecDepth 100000 in
theorem rread_bad {w : World} {S : Nat → Prop} {p n : Nat} {d : List Int} {ws : List Wr} (h : Ref w S p n d ws) (i : Int) (hi : i < 0 ∨ (n : Int) ≤ i) : Calls Tryd.prog 69 #[.pointer (some ⟨p, 0, none⟩), .int .i64 i] w fun e w' => e = .returned (.tuple #[.slice none 0 0, .int .i64 40]) ∧ w = w' := by
  by_cases c : i < 0
  · go_enter Tryd.func69, Tryd.ntmps69
    go_wp2
    go_ret2
    exact ⟨rfl, rfl⟩
  · have c2 : (n : Int) ≤ i := by omega
    go_enter Tryd.func69, Tryd.ntmps69
    go_wp2_with fail
    refine (rlen_any h).mono ?_
    rintro e w1 ⟨rfl, rfl⟩
    go_wp2
    go_ret2
    exact ⟨rfl, rfl⟩
/-- write number k of the document's disk -/
theorem RD.at {w : World} {S : Nat → Prop} {p n : Nat} {d : List Int} {ws : List Wr} {g L cap : Nat} {v : Value} {vs : List Value} (h : RD w S p n d ws g L cap v vs) (k : Nat) (hk : k < ws.length) :
    ∃ gv cv gb cb, v = .slice (some ⟨gv, 0, none⟩) ws.length cv ∧ w.cell? ⟨gv, k * 2, none⟩ = some (.int .i64 (ws[k].s : Int)) ∧ w.cell? ⟨gv, k * 2 + 1, none⟩ = some (.slice (some ⟨gb, 0, none⟩) 64 cb) ∧ BIn w (some ⟨gb, 0, none⟩) 64 ws[k].b ∧ gb ≠ g := by
  obtain ⟨pv, cv, e, h0, h1⟩ := own_slice h.wr
  cases pv with
  | none => have := (h0 rfl).1; omega
  | some a =>
    obtain ⟨gv, rfl⟩ := h1 a rfl
    subst e
    have hkv : k < vs.length := by rw [h.len]; exact hk
    have hd := h.dat k hk hkv
    obtain ⟨pb, cb, e, hb, _⟩ := own_in hd (h.fit.at k hk).2.2
    obtain ⟨gb, ob, rfl, _⟩ := hb.cells (by omega)
    have h00 : ob = 0 := by
      obtain ⟨_, _, e2, _, h3⟩ := own_slice hd
      rw [e] at e2
      simp only [Value.slice.injEq] at e2
      obtain ⟨g3, h4⟩ := h3 ⟨gb, ob, none⟩ e2.1.symm
      simp only [Addr.mk.injEq] at h4
      exact h4.2.1
    subst h00
    obtain ⟨c0, c1⟩ := RC_at h.len k hk
    have hr := own_range h.wr
    refine ⟨gv, cv, gb, cb, rfl, ?_, ?_, hb, fun e3 => ?_⟩
    · have := hr (k * 2) _ c0
      rwa [Nat.zero_add] at this
    · have := hr (k * 2 + 1) _ c1
      rw [Nat.zero_add] at this
      rw [this, e]
    · apply h.ne k hkv
      rw [e, ← e3]
      rfl
set_option maxHeartbeats 4000000 in
set_option maxRecDepth 100000 in
theorem rread_good {w : World} {S : Nat → Prop} {p n : Nat} {d : List Int} {ws : List Wr} (h : Ref w S p n d ws) (i : Nat) (hi : i < n) (hk : ws.length ≤ 1000) : Calls Tryd.prog 69 #[.pointer (some ⟨p, 0, none⟩), .int .i64 i] w fun e w' => ∃ v, e = .returned (.tuple #[v, .int .i64 0]) ∧ w'.ownsRow w.heap.size 5 1 v 64 (U8 (newest ws d i)) ∧ Below w.heap.size w w' := by
  obtain ⟨i5, hi5, hz50, hz51, hz52⟩ := info_parts info5
  have c1 : ¬ (i : Int) < 0 := by omega
  have c2 : ¬ (n : Int) ≤ (i : Int) := by omega
  go_enter Tryd.func69, Tryd.ntmps69
  go_wp2_with fail
  refine (rlen_any h).mono ?_
  rintro e w1 ⟨rfl, rfl⟩
  obtain ⟨g, L, cap, v, vs, h⟩ := h
  have s0 := h.cell0
  have HH : Hid (RD w S p n d ws g L cap v vs) := h
  have hL := h.hL
  have hn2 := h.n2
  have hLc := (own_blk h.dur).2.1
  have e1 : IntKind.i64.wrap ((i : Int) * 64) = (i : Int) * 64 := by rw [IntKind.wrap_i64]; omega
  have e2 : IntKind.i64.wrap (((i : Int) + 1) * 64) = ((i : Int) + 1) * 64 := by rw [IntKind.wrap_i64]; omega
  have e3 : (i : Int) * 64 ≤ ((i : Int) + 1) * 64 := by omega
  have e4 : ((i : Int) + 1) * 64 ≤ (cap : Int) := by omega
  have e5 : ¬ (cap : Int) = (i : Int) * 64 := by omega
  have E6 : Hid ((i + 1) * 64 - i * 64 = 64) := by show _ = _; omega
  have s0' : (w.alloc (.cells #[] 5)).cell? ⟨p, 0, none⟩ = some (.slice (some ⟨g, 0, none⟩) L cap) := (h.later (below_alloc w _)).cell0
  have HN : Hid (∀ j u, (U8 (sec d i))[j]? = some u → (w.alloc (.cells #[] 5)).cell? ((⟨g, i * 64, none⟩ : Addr).add j) = some u) := fun j u hu => by
    have hj : j < 64 := by have := (List.getElem?_eq_some_iff.1 hu).1; rw [U8_length, sec_length h.dl hi] at this; exact this
    have hr := own_range (h.later (below_alloc w (.cells #[] 5))).dur (i * 64 + j) u (by rw [← hu]; simp only [U8, List.getElem?_map, sec_get d i j hj]; rw [Nat.mul_comm])
    rw [Addr.add_mid]
    rwa [Nat.zero_add] at hr
  have HL : Hid ((sec d i).length = 64) := sec_length h.dl hi
  clear h hL
  go_wp2_with (at_builtin; refine wpList_append_own _ rfl (.tmp 16) (.tmp 26) 24 rfl w.heap.size 5 i5 (.int .u8 0) 1 1 Tryd.underlying24 hi5 hz50 hz51 hz52 rfl (by omega) _ 0 [] rfl (World.ownsRow_made w #[] 0 (Nat.le_refl _) (Nat.zero_le _) rfl) ⟨g, i * 64, none⟩ ((i + 1) * 64 - i * 64) (cap - i * 64) (U8 (sec d i)) rfl ?_ ?_ ?_ ?_ ?_ ?_ ?_)
  · rw [E6.out, U8_length]; exact HL.out
  · exact HN.out
  · exact ones_u8 _
  · rw [E6.out]; unfold maxLen; omega
  · rw [E6.out]; omega
  · simp
  intro v0 w0 hown hgrow _
  rw [E6.out] at hown
  have HR0 : Hid (w0.ownsRow w.heap.size 5 1 v0 64 (U8 (newk ws d i 0)) ∧ Below w.heap.size w w0) := ⟨hown, ((Below.refl _ w).alloc (Nat.le_refl _) _).grown hgrow (by simp) (by intro k hk; simp [Value.ownBlock] at hk; omega)⟩
  clear hown hgrow HN
  go_wp2
  clear e1 e2 e3 e4 e5 E6 s0 s0'
  go_loopw [6, 7] (fun o j wr => ∃ k : Nat, k ≤ ws.length ∧ j = .int .i64 k ∧ Hid (wr.ownsRow w.heap.size 5 1 o 64 (U8 (newk ws d i k)) ∧ Below w.heap.size w wr)) (fun _ j _ => ws.length - (intOf j).toNat)
  case atStart => exact ⟨0, by omega, rfl, HR0.out⟩
  case round =>
    obtain ⟨k, hkl, rfl, HR⟩ := hrel
    clear HR0
    have h1 := HH.out.later HR.out.2
    have s1 := h1.cell1
    by_cases hlt : k < ws.length
    · obtain ⟨gv, cv, gb, cb, rfl, t1, t2, t3, _⟩ := h1.at k hlt
      have HS : Hid (newk ws d i (k + 1) = if ws[k].s = i then ws[k].b else newk ws d i k) := newk_step ws d i k hlt
      have HXl : Hid (ws[k].b.length = 64) := (HH.out.fit.at k hlt).2.1
      generalize ws[k] = X at *
      by_cases hx : X.s = i
      · have HE : Hid (newk ws d i (k + 1) = X.b) := by show _ = _; rw [HS.out, if_pos hx]
        have ex : ((X.s : Int) == (i : Int)) = true := by rw [hx]; simp
        have s1' : (wr.alloc (.cells #[] 5)).cell? ⟨p, 1, none⟩ = some (.slice (some ⟨gv, 0, none⟩) ws.length cv) := (h1.later (below_alloc wr _)).cell1
        have t2' : (wr.alloc (.cells #[] 5)).cell? ⟨gv, k * 2 + 1, none⟩ = some (.slice (some ⟨gb, 0, none⟩) 64 cb) := by
          rw [World.cell?_alloc_lt _ _ _ (World.block_lt_of_cell? wr _ t2)]; exact t2
        have HN : Hid (∀ j u, (U8 X.b)[j]? = some u → (wr.alloc (.cells #[] 5)).cell? ((⟨gb, 0, none⟩ : Addr).add j) = some u) := (t3.later (below_alloc wr _)).news
        have hle := HR.out.2.size
        clear hx h1 t3
        go_wp2_with (at_builtin; refine wpList_append_own _ rfl (.tmp 47) (.tmp 55) 24 rfl wr.heap.size 5 i5 (.int .u8 0) 1 1 Tryd.underlying24 hi5 hz50 hz51 hz52 rfl (by omega) _ 0 [] rfl (World.ownsRow_made wr #[] 0 (Nat.le_refl _) (Nat.zero_le _) rfl) ⟨gb, 0, none⟩ 64 cb (U8 X.b) rfl ?_ ?_ ?_ ?_ ?_ ?_ ?_)
        · rw [U8_length]; exact HXl.out
        · exact HN.out
        · exact ones_u8 _
        · unfold maxLen; omega
        · omega
        · simp
        intro v2 w2 hown hgrow _
        have HU : Hid (w2.ownsRow w.heap.size 5 1 v2 64 (U8 (newk ws d i (k + 1))) ∧ Below w.heap.size w w2) := by
          rw [HE.out]
          exact ⟨own_mono hown hle, (HR.out.2.alloc hle _).grown hgrow (by simp; omega) (by intro j hj; simp [Value.ownBlock] at hj; omega)⟩
        clear hown hgrow HN
        go_wp2
        go_roundw
        case rel => exact ⟨k + 1, by omega, by go_num, HU.out⟩
        case measure => simp [intOf]; omega
      · have HU : Hid (wr.ownsRow w.heap.size 5 1 u6 64 (U8 (newk ws d i (k + 1))) ∧ Below w.heap.size w wr) := by rw [HS.out, if_neg hx]; exact HR
        have ex : ((X.s : Int) == (i : Int)) = false := by rw [beq_eq_false_iff_ne]; omega
        clear hx h1 t3 t2 HS HR
        go_wp2
        go_roundw
        case rel => exact ⟨k + 1, by omega, by go_num, HU.out⟩
        case measure => simp [intOf]; omega
    · obtain rfl : k = ws.length := by omega
      obtain ⟨pv, cv, rfl, _⟩ := own_slice HH.out.wr
      go_wp2
      go_ret2
      exact ⟨_, rfl, HR.out.1, HR.out.2⟩
end Go.Proofs.YtpenddnmmfpdjaaDoor
