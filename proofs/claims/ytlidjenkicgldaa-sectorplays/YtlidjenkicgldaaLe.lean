/-
  Contracts of layer 4, fifth part: Image, Copy, Load.
-/
import Derived.Test.YtlidjenkicgldaaLd
namespace Go.Proofs.Ytlidjenkicgldaa
open Go.RowKit

set_option maxHeartbeats 400000 in
theorem image_nil (w : World) : Calls Try.prog 13 #[.pointer none] w fun e w' => e = .returned (.slice none 0 0) ∧ w = w' := by
  go_enter Try.func13, Try.ntmps13
  go_wp2
  go_ret
  exact ⟨rfl, rfl⟩

set_option maxHeartbeats 2000000 in
theorem image_any {w : World} {S : Nat → Prop} {p n : Nat} {d : List Int} {ws : List Wr} (h : Dsk w S p n d ws) :
    Calls Try.prog 13 #[.pointer (some ⟨p, 0, none⟩)] w fun e w' => ∃ v, e = .returned v ∧ w'.ownsRow w.heap.size 5 1 v (64 * n) (U8 d) ∧ Below w.heap.size w w' := by
  obtain ⟨i0, hi, hz0, hz1, hz2⟩ := info_parts info5
  obtain ⟨q, cap, v, h⟩ := h
  have h0 := h.cell0
  have HH : Hid (PD w S p n d ws q cap v) := h
  have hn2 := h.n2
  have hmul : IntKind.i64.wrap ((n : Int) * 64) = (n : Int) * 64 := by rw [IntKind.wrap_i64]; omega
  clear h
  have hmk := run_make (P := Try.prog) w 23 5 i0 _ Try.underlying23 hi hz0 .i64 .i64 0 ((n : Int) * 64) (by omega) (by omega) (by rw [hz2]; omega) (by omega)
  rw [hz1, show ((n : Int) * 64).toNat = n * 64 by omega] at hmk
  simp only [Int.toNat_zero, Nat.mul_one, Value.cells] at hmk
  have HO : Hid ((w.alloc (.cells (madeCells #[.int .u8 0] (n * 64)) 5)).ownsRow w.heap.size 5 1 (.slice (some ⟨w.heap.size, 0, none⟩) 0 (n * 64)) 0 []) := World.ownsRow_made w _ (n * 64) (Nat.le_refl _) (by unfold maxLen; omega) (by rw [size_madeCells]; omega)
  obtain ⟨ob, hob⟩ : ∃ ob, Obj.cells (madeCells #[.int .u8 0] (n * 64)) 5 = ob := ⟨_, rfl⟩
  rw [hob] at hmk HO
  clear hob
  have HB : Hid (Below w.heap.size w (w.alloc ob)) := below_alloc w ob
  have h0' : (w.alloc ob).cell? ⟨p, 0, none⟩ = some (.slice (some ⟨q, 0, none⟩) n cap) := (HB.out.cell (p := ⟨p, 0, none⟩) HH.out.blk.lt).trans h0
  go_enter Try.func13, Try.ntmps13
  go_wp2
  clear hmk hmul
  generalize w.alloc ob = W0 at *
  go_loopw [3, 19] (fun b i wr => ∃ k : Nat, k ≤ n ∧ i = .int .i64 k ∧ Hid (wr.ownsRow w.heap.size 5 1 b (64 * k) (U8 (d.take (64 * k))) ∧ Below w.heap.size w wr)) (fun _ i _ => n - (intOf i).toNat)
  case atStart => exact ⟨0, by omega, rfl, by simpa using HO.out, HB.out⟩
  case round =>
    obtain ⟨k, hkm, rfl, HR⟩ := hrel
    clear HO HB h0'
    by_cases hlt : k < n
    · have c0 : wr.cell? ⟨p, 0, none⟩ = some (.slice (some ⟨q, 0, none⟩) n cap) := (HR.out.2.cell (p := ⟨p, 0, none⟩) HH.out.blk.lt).trans h0
      have HN : Hid (∀ j u, (U8 (sec d k))[j]? = some u → wr.cell? ((⟨q, k * 128, none⟩ : Addr).add j) = some u) := fun j u hu => by
        rw [Addr.add_mid]
        exact rangeAt_same (HH.out.pl.dur k hlt) (HR.out.2.block q HH.out.pl.blk.lt) j u hu
      have HL : Hid ((sec d k).length = 64) := HH.out.pl.dl k hlt
      obtain ⟨bp, bc, rfl, _⟩ := own_slice HR.out.1
      go_wp2_with (at_builtin; refine wpList_append_own _ rfl (.tmp 22) (.tmp 30) 23 rfl w.heap.size 5 i0 (.int .u8 0) 1 1 Try.underlying23 hi hz0 hz1 hz2 rfl (by omega) _ (64 * k) _ rfl HR.out.1 ⟨q, k * 128, none⟩ 64 64 (U8 (sec d k)) rfl (by rw [U8_length]; exact HL.out) HN.out (ones_u8 _) (by unfold maxLen; omega) (by omega) HR.out.2.size ?_; intro v' w1 hown hgrow _; have HO1 : Hid (w1.ownsRow w.heap.size 5 1 v' (64 * (k + 1)) (U8 (d.take (64 * (k + 1)))) ∧ Below w.heap.size w w1) := ⟨by rw [sec_step, show 64 * (k + 1) = 64 * k + 64 by omega, show U8 (d.take (64 * k) ++ sec d k) = U8 (d.take (64 * k)) ++ U8 (sec d k) from List.map_append]; exact hown, HR.out.2.grown hgrow HR.out.2.size (fun j hj => (HR.out.1.lt j hj).1)⟩; clear hown hgrow HN)
      go_roundw
      case rel => exact ⟨k + 1, by omega, by go_num, HO1.out⟩
      case measure => simp [intOf]; omega
    · obtain rfl : k = n := by omega
      have HE : Hid (d.take (64 * k) = d) := List.take_of_length_le (by rw [HH.out.dl]; omega)
      go_wp2
      go_ret
      exact ⟨_, rfl, by have := HR.out.1; rw [HE.out] at this; exact this, HR.out.2⟩

theorem PC_length {n : Nat} {D N : Nat → List Int} (hd : ∀ i, i < n → (D i).length = 64) (hn : ∀ i, i < n → (N i).length = 64) : ∀ l ∈ (List.range n).map (fun i => U8 (D i) ++ U8 (N i)), l.length = 128 := fun l hl => by
  obtain ⟨i, hi, rfl⟩ := List.mem_map.1 hl
  have := List.mem_range.1 hi
  rw [List.length_append, U8_length, U8_length, hd i this, hn i this]
/-- all cells of the places -/
def PC (n : Nat) (D N : Nat → List Int) : List Value := ((List.range n).map (fun i => U8 (D i) ++ U8 (N i))).flatten
theorem PC_ones (n : Nat) (D N : Nat → List Int) : ∀ u ∈ PC n D N, u.oneCell' = true := fun u hu => by
  obtain ⟨l, hl, hu⟩ := List.mem_flatten.1 hu
  obtain ⟨i, _, rfl⟩ := List.mem_map.1 hl
  rcases List.mem_append.1 hu with h | h <;> exact ones_u8 _ u h
theorem PC_at {n : Nat} {D N : Nat → List Int} (hd : ∀ i, i < n → (D i).length = 64) (hn : ∀ i, i < n → (N i).length = 64) (i j : Nat) (hi : i < n) (hj : j < 128) : (PC n D N)[i * 128 + j]? = (U8 (D i) ++ U8 (N i))[j]? := by
  have e := flat_at _ (PC_length hd hn) i (by simpa using hi) j hj
  rw [Nat.mul_comm] at e
  unfold PC
  rw [e]
  simp
theorem Pl.cells {w : World} {q n cap : Nat} {D N : Nat → List Int} (h : Pl w q n cap D N) : ∀ j u, (PC n D N)[j]? = some u → w.cell? ((⟨q, 0, none⟩ : Addr).add j) = some u := fun j u hu => by
  have hl : (PC n D N).length = n * 128 := by unfold PC; rw [flat_length _ (PC_length h.dl h.nl)]; simp
  have hj : j < n * 128 := by have := (List.getElem?_eq_some_iff.1 hu).1; omega
  have hi : j / 128 < n := by omega
  have e := PC_at h.dl h.nl (j / 128) (j % 128) hi (Nat.mod_lt _ (by omega))
  rw [show j / 128 * 128 + j % 128 = j by omega, hu] at e
  rw [Addr.add_mid, Nat.zero_add]
  by_cases c : j % 128 < 64
  · rw [List.getElem?_append_left (by rw [U8_length, h.dl _ hi]; exact c)] at e
    have := h.dur _ hi _ _ e.symm
    rwa [show j / 128 * 128 + j % 128 = j by omega] at this
  · rw [List.getElem?_append_right (by rw [U8_length, h.dl _ hi]; omega), U8_length, h.dl _ hi] at e
    have := h.new _ hi _ _ e.symm
    rwa [show j / 128 * 128 + 64 + (j % 128 - 64) = j by omega] at this
theorem Pl.of_own {w : World} {base q n cap : Nat} {D N : Nat → List Int} (h : w.ownsRow base 71 128 (.slice (some ⟨q, 0, none⟩) n cap) n (PC n D N)) (hd : ∀ i, i < n → (D i).length = 64) (hn : ∀ i, i < n → (N i).length = 64) : Pl w q n cap D N := by
  obtain ⟨h1, h2, h3, _⟩ := own_blk h
  refine ⟨h1, h2, h3, hd, hn, fun i hi => own_range_part h (fun j u hu => ?_), fun i hi => own_range_part h (fun j u hu => ?_)⟩
  · have hj : j < 64 := by have := (List.getElem?_eq_some_iff.1 hu).1; rw [U8_length, hd i hi] at this; exact this
    rw [PC_at hd hn i j hi (by omega), List.getElem?_append_left (by rw [U8_length, hd i hi]; exact hj)]; exact hu
  · have hj : j < 64 := by have := (List.getElem?_eq_some_iff.1 hu).1; rw [U8_length, hn i hi] at this; exact this
    rw [show i * 128 + 64 + j = i * 128 + (64 + j) by omega, PC_at hd hn i (64 + j) hi (by omega), List.getElem?_append_right (by rw [U8_length, hd i hi]; omega), U8_length, hd i hi]
    rw [show 64 + j - 64 = j by omega]; exact hu

set_option maxHeartbeats 1000000 in
theorem clone_places {w : World} {q n cap : Nat} {D N : Nat → List Int} (h : Pl w q n cap D N) (hn1 : 1 ≤ n) (hn : n ≤ 4096) :
    Calls Try.prog 33 #[.slice (some ⟨q, 0, none⟩) n cap] w fun e w' => ∃ q' cap', e = .returned (.slice (some ⟨q', 0, none⟩) n cap') ∧ Pl w' q' n cap' D N ∧ w.heap.size ≤ q' ∧ Below w.heap.size w w' := by
  obtain ⟨i0, hi, hz0, hz1, hz2⟩ := info_parts info71
  have q22 : ∀ (w : World) (a : Option Addr) (n c n' c' : Nat), (binOp .eql 72 (.slice a n c) (.slice none n' c')).run Try.prog w = .ok (.bool a.isNone) w := fun w a n c n' c' => Lib.run_eql_slice_nil w _ _ a n c n' c' Try.underlying72
  have HC : Hid (∀ j u, (PC n D N)[j]? = some u → (w.alloc (.cells #[] 71)).cell? ((⟨q, 0, none⟩ : Addr).add j) = some u) := (h.same (Below.heap_alloc _ _ _ h.blk.lt)).cells
  have HL : Hid ((PC n D N).length = n * 128) := by show _ = _; unfold PC; rw [flat_length _ (PC_length h.dl h.nl)]; simp
  have HD : Hid ((∀ i, i < n → (D i).length = 64) ∧ (∀ i, i < n → (N i).length = 64)) := ⟨h.dl, h.nl⟩
  clear h
  go_enter Try.func33, Try.ntmps33
  go_wp2_with (at_builtin; refine wpList_append_lies _ rfl (.tmp 5) (.tmp 6) 72 rfl w.heap.size 71 i0 _ 128 128 Try.underlying72 hi hz0 hz1 hz2 (by simp [Value.cells]) (by omega) _ 0 [] rfl (World.ownsRow_made w #[] 0 (Nat.le_refl _) (Nat.zero_le _) rfl) ⟨q, 0, none⟩ n cap (PC n D N) rfl HL.out HC.out (PC_ones n D N) (by omega) (by unfold maxLen; omega) (by omega) (by simp) _ rfl ?_)
  intro g c2 w1 hown hgrow hat hlt
  try simp only [Nat.zero_add, List.nil_append] at hown ⊢
  go_wp2
  go_ret
  refine ⟨g, c2, rfl, Pl.of_own hown HD.out.1 HD.out.2, (own_blk hown).2.2.2, ?_⟩
  exact ((Below.refl _ w).alloc (Nat.le_refl _) _).grown hgrow (by simp) (by intro k hk; simp [Value.ownBlock] at hk; omega)

set_option maxHeartbeats 1000000 in
theorem clone_waits_at {w : World} {g n k c : Nat} {ws : List Wr} (h : w.ownsRow 0 80 65 (.slice (some ⟨g, 0, none⟩) ws.length c) ws.length (WC ws)) (hf : Fit n ws) (hk : ws.length ≤ 1000) (hkk : ws.length = k) :
    Calls Try.prog 34 #[.slice (some ⟨g, 0, none⟩) k c] w fun e w' => ∃ v', e = .returned v' ∧ w'.ownsRow w.heap.size 80 65 v' ws.length (WC ws) ∧ Below w.heap.size w w' := by
  subst hkk
  obtain ⟨i0, hi, hz0, hz1, hz2⟩ := info_parts info80
  have q22 : ∀ (w : World) (a : Option Addr) (n c n' c' : Nat), (binOp .eql 73 (.slice a n c) (.slice none n' c')).run Try.prog w = .ok (.bool a.isNone) w := fun w a n c n' c' => Lib.run_eql_slice_nil w _ _ a n c n' c' Try.underlying73
  have HC : Hid (∀ j u, (WC ws)[j]? = some u → (w.alloc (.cells #[] 80)).cell? ((⟨g, 0, none⟩ : Addr).add j) = some u) := (own_same h (fun k hk => Below.heap_alloc _ _ _ ((own_ownBlk h hk).elim fun _ hb => hb.lt))).cells rfl
  have HL : Hid ((WC ws).length = ws.length * 65) := WC_length hf
  clear h
  go_enter Try.func34, Try.ntmps34
  go_wp2_with (at_builtin; refine wpList_append_own _ rfl (.tmp 5) (.tmp 6) 73 rfl w.heap.size 80 i0 _ 65 72 Try.underlying73 hi hz0 hz1 hz2 (by simp [Value.cells]) (by omega) _ 0 [] rfl (World.ownsRow_made w #[] 0 (Nat.le_refl _) (Nat.zero_le _) rfl) ⟨g, 0, none⟩ ws.length c (WC ws) rfl HL.out HC.out (WC_ones ws) (by unfold maxLen; omega) (by omega) (by simp) ?_)
  intro v1 w1 hown hgrow hat
  try simp only [Nat.zero_add, List.nil_append] at hown
  go_wp2
  go_ret
  exact ⟨v1, rfl, hown, ((Below.refl _ w).alloc (Nat.le_refl _) _).grown hgrow (by simp) (by intro k hk; simp [Value.ownBlock] at hk; omega)⟩
set_option maxHeartbeats 1000000 in
theorem clone_waits_nil (w : World) : Calls Try.prog 34 #[.slice none 0 0] w fun e w' => e = .returned (.slice none 0 0) ∧ w = w' := by
  have q22 : ∀ (w : World) (a : Option Addr) (n c n' c' : Nat), (binOp .eql 73 (.slice a n c) (.slice none n' c')).run Try.prog w = .ok (.bool a.isNone) w := fun w a n c n' c' => Lib.run_eql_slice_nil w _ _ a n c n' c' Try.underlying73
  go_enter Try.func34, Try.ntmps34
  go_wp2
  go_ret
  exact ⟨rfl, rfl⟩
theorem clone_waits {w : World} {v : Value} {n : Nat} {ws : List Wr} (h : w.ownsRow 0 80 65 v ws.length (WC ws)) (hf : Fit n ws) (hk : ws.length ≤ 1000) :
    Calls Try.prog 34 #[v] w fun e w' => ∃ v', e = .returned v' ∧ w'.ownsRow w.heap.size 80 65 v' ws.length (WC ws) ∧ Below w.heap.size w w' := by
  obtain ⟨pv, c, rfl, h0, h1⟩ := own_slice h
  cases pv with
  | some a =>
    obtain ⟨g, rfl⟩ := h1 a rfl
    exact clone_waits_at h hf hk rfl
  | none =>
    obtain ⟨e1, rfl⟩ := h0 rfl
    obtain rfl : ws = [] := List.eq_nil_of_length_eq_zero e1
    refine (clone_waits_nil w).mono ?_
    rintro e w' ⟨rfl, rfl⟩
    exact ⟨_, rfl, World.ownsRow_nil _ _ _ _, Below.refl _ _⟩
end Go.Proofs.Ytlidjenkicgldaa
