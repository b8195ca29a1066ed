/-
  Contracts of the document's answers: wicketref01.Worth, Take.
-/
import Derived.Test.YtdfnpapnoedpkabEd
namespace Go.Proofs.Ytdfnpapnoedpkab
open Go.RowKit

theorem worth_drop (xs : List Int) (k : Nat) (hk : k < xs.length) : worth (xs.drop k) = xs[k] + 256 * worth (xs.drop (k + 1)) := by
  rw [List.drop_eq_getElem_cons hk]
  rfl

theorem worth_small (xs : List Int) (h : Bytes xs) (hl : xs.length ≤ 7) : 0 ≤ worth xs ∧ worth xs < 72057594037927936 := by
  have hb := worth_bd xs h
  refine ⟨hb.1, Int.lt_of_lt_of_le hb.2 ?_⟩
  have h8 : xs.length = 0 ∨ xs.length = 1 ∨ xs.length = 2 ∨ xs.length = 3 ∨ xs.length = 4 ∨ xs.length = 5 ∨ xs.length = 6 ∨ xs.length = 7 := by omega
  rcases h8 with e | e | e | e | e | e | e | e <;> rw [e] <;> omega

set_option maxHeartbeats 1000000 in
theorem worth_pos (b o n c : Nat) (xs : List Int) (w : World) (hn : n ≤ 8) (h : BIn w (some ⟨b, o, none⟩) n xs) (h0 : 0 < n) :
    Calls Try.prog 25 #[.slice (some ⟨b, o, none⟩) n c] w fun e w' => e = .returned (.int .u64 (worth xs)) ∧ w = w' := by
  have HL : Hid (xs.length = n) := h.len
  have HB : Hid (Bytes xs) := h.byte
  obtain ⟨b', o', e, hc0⟩ := h.cells h0
  simp only [Option.some.injEq, Addr.mk.injEq, and_true] at e
  obtain ⟨rfl, rfl⟩ := e
  have HC : Hid (∀ i, i < n → w.cell? ⟨b, o + i, none⟩ = some (.int .u8 (xs.getD i 0))) := hc0
  clear h hc0
  go_enter Try.func25, Try.ntmps25
  go_wp2
  go_loop [3, 4] (fun m i => ∃ k : Nat, k ≤ n ∧ i = .int .i64 ((k : Int) - 1) ∧ m = .int .u64 (worth (xs.drop k))) (fun _ i => (intOf i + 1).toNat)
  case atStart => exact ⟨n, Nat.le_refl _, rfl, by rw [List.drop_eq_nil_of_le (by rw [HL.out]; exact Nat.le_refl _)]; rfl⟩
  case round =>
    obtain ⟨k, hk, rfl, rfl⟩ := hrel
    by_cases hk0 : 0 < k
    · obtain ⟨j, rfl⟩ : ∃ j, k = j + 1 := ⟨k - 1, by omega⟩
      have hjl : j < xs.length := by rw [HL.out]; omega
      have hc := HC.out j (by omega)
      have hbj := HB.out.at j hjl
      have hws := worth_small (xs.drop (j + 1)) (HB.out.drop _) (by rw [List.length_drop, HL.out]; omega)
      have HW : Hid (_) := worth_drop xs j hjl
      have ej : (((j + 1 : Nat) : Int) - 1) = (j : Int) := by omega
      rw [ej]
      have hgd : xs.getD j 0 = xs[j] := by simp [List.getD, List.getElem?_eq_getElem hjl]
      rw [hgd] at hc
      clear ej hgd
      generalize worth (xs.drop (j + 1)) = W at *
      generalize xs[j] = x at *
      go_wp2
      go_round
      case rel => exact ⟨j, by omega, by go_num, by rw [HW.out]; go_num⟩
      case measure => simp [intOf]
    · obtain rfl : k = 0 := by omega
      go_wp2
      go_ret
      exact ⟨rfl, rfl⟩

set_option maxHeartbeats 400000 in
theorem worth_zero (p : Option Addr) (c : Nat) (w : World) :
    Calls Try.prog 25 #[.slice p 0 c] w fun e w' => e = .returned (.int .u64 0) ∧ w = w' := by
  go_enter Try.func25, Try.ntmps25
  go_wp2
  refine wp_loop_rounds 1 ?_
  rw [rounds_succ]
  go_wp2
  go_ret
  exact ⟨rfl, rfl⟩

theorem worth_any (p : Option Addr) (n c : Nat) (xs : List Int) (w : World) (hn : n ≤ 8) (h : BIn w p n xs) :
    Calls Try.prog 25 #[.slice p n c] w fun e w' => e = .returned (.int .u64 (worth xs)) ∧ w = w' := by
  by_cases h0 : 0 < n
  · obtain ⟨b, o, rfl, hc⟩ := h.cells h0
    exact worth_pos b o n c xs w hn h h0
  · obtain rfl : n = 0 := by omega
    obtain rfl : xs = [] := List.eq_nil_of_length_eq_zero h.len
    exact worth_zero p c w

theorem step_append_own {P : Program} {w : World} {ops : Array Oper} {o : Oper} {a : Act} {K : Act → World → Prop} {Q : Exit → Act → World → Prop} {E : Prop} (hgd : o.guard = none) (s x : Operand) (t : TypeId)
    (ho : o.op = .call { callee := .builtin .append, args := #[s, x], argTypes := #[t, t] })
    (base : Nat) (e : TypeId) (i : TypeInfo) (z : Value) (size bytes : Nat) (ht : P.underlying t = some (.slice e)) (hi : P.info? e = some i) (hz : i.zero = some z)
    (hsize : i.size = size) (hby : i.bytes = bytes) (hzs : z.cells.size = size) (hsz : 0 < size)
    (v : Value) (n : Nat) (xs : List Value) (hs : a.eval s = v) (hown : w.ownsRow base e size v n xs)
    (ad : Addr) (m c : Nat) (news : List Value) (hx : a.eval x = .slice (some ad) m c) (hl : news.length = m * size) (hnews : ∀ j u, news[j]? = some u → w.cell? (ad.add j) = some u) (h1 : ∀ u ∈ news, u.oneCell' = true)
    (h63 : n + m ≤ maxLen) (hbytes : (n + m) * bytes ≤ 140737488355328) (hbase : base ≤ w.heap.size)
    (h : ∀ v' w', w'.ownsRow base e size v' (n + m) (xs ++ news) → w.grownBy w' v.ownBlock → K (a.put o.dst v') w') :
    if Region.wanted o (yielded ops a.tmps) = true then Oper.wp P o a w K Q else E := by
  have hw : Region.wanted o (yielded ops a.tmps) = true := by simp [Region.wanted, hgd]
  rw [if_pos hw]
  exact wp_append_own w s x t ho base e i z size bytes ht hi hz hsize hby hzs hsz v n xs hs hown ad m c news hx hl hnews h1 h63 hbytes hbase fun v' w' a b _ => h v' w' a b

set_option maxHeartbeats 400000 in
theorem rtake_input (p : Option Addr) (n c : Nat) (s : Int) (w : World) (hs : s < 1 ∨ 8 < s) :
    Calls Try.prog 21 #[.slice p n c, .int .i64 s] w fun e w' => e = .returned (.tuple #[.int .u64 0, .slice none 0 0, .int .i64 2]) ∧ w = w' := by
  rcases hs with hs | hs
  · go_enter Try.func21, Try.ntmps21
    go_wp2
    go_ret3
    exact ⟨rfl, rfl⟩
  · have hn : ¬ s < 1 := by omega
    go_enter Try.func21, Try.ntmps21
    go_wp2
    go_ret3
    exact ⟨rfl, rfl⟩

set_option maxHeartbeats 400000 in
theorem rtake_short (p : Option Addr) (n c : Nat) (k : Nat) (w : World) (hs : 1 ≤ k ∧ k ≤ 8) (hk : n < k) :
    Calls Try.prog 21 #[.slice p n c, .int .i64 k] w fun e w' => e = .returned (.tuple #[.int .u64 0, .slice none 0 0, .int .i64 11]) ∧ w = w' := by
  go_enter Try.func21, Try.ntmps21
  go_wp2
  go_ret3
  exact ⟨rfl, rfl⟩

set_option maxHeartbeats 2000000 in
theorem rtake_more (b o n c : Nat) (xs : List Int) (k : Nat) (w : World) (hs : 1 ≤ k ∧ k ≤ 8) (hk : k ≤ n) (hnc : n ≤ c) (hbig : n ≤ 140737488355328) (h : BIn w (some ⟨b, o, none⟩) n xs) (hck : ¬ c = k) :
    Calls Try.prog 21 #[.slice (some ⟨b, o, none⟩) n c, .int .i64 k] w fun e w' => ∃ v', e = .returned (.tuple #[.int .u64 (worth (xs.take k)), v', .int .i64 0]) ∧
      w'.ownsRow w.heap.size 5 1 v' (n - k) (U8 (xs.drop k)) ∧ Below w.heap.size w w' := by
  have k0 : (0 : Int) ≤ k := by omega
  have k1 : (k : Int) ≤ (c : Int) := by omega
  have k2 : (k : Int) ≤ (n : Int) := by omega
  obtain ⟨i0, hi, hz0, hz1, hz2⟩ := info_parts info5
  have HT1 : Hid (BIn w.drew (some ⟨b, o, none⟩) k (xs.take k)) := (h.take k hk).drew
  have HT2 : Hid (BIn (w.alloc (.cells #[] 5)).drew (some ⟨b, o, none⟩) k (xs.take k)) := ((h.take k hk).later (below_alloc w _)).drew
  have HD : Hid (BIn (w.alloc (.cells #[] 5)).drew (some ⟨b, o + k, none⟩) (n - k) (xs.drop k)) := ((h.drop k hk).later (below_alloc w _)).drew
  have HM : Hid ((w.alloc (.cells #[] 5)).drew.ownsRow w.heap.size 5 1 (.slice (some ⟨w.heap.size, 0, none⟩) 0 0) 0 []) := World.ownsRow_made w #[] 0 (Nat.le_refl _) (Nat.zero_le _) rfl
  have HDL : Hid ((U8 (xs.drop k)).length = (n - k) * 1) := by show _ = _; rw [List.length_map, HD.out.len, Nat.mul_one]
  clear h
  go_enter Try.func21, Try.ntmps21
  go_wp2
  go_region_held3 (fun _ => True) (trivial) (first | (go_at_call 25; refine (worth_any _ _ _ (xs.take k) _ (by omega) (by first | exact HT1.out | exact HT2.out)).mono ?_; rintro e w' ⟨rfl, rfl⟩) | (refine step_append_own (by rfl) _ _ 22 (by rfl) w.heap.size 5 i0 (.int .u8 0) 1 1 Try.underlying22 hi hz0 hz1 hz2 rfl (by decide) (.slice (some ⟨w.heap.size, 0, none⟩) 0 0) 0 [] (by rfl) HM.out ⟨b, o + k, none⟩ (n - k) (c - k) (U8 (xs.drop k)) (by rfl) HDL.out HD.out.news (ones_u8 _) (by unfold maxLen; omega) (by omega) (by simp) ?_; intro v1 w1 hown1 hgrow1))
  all_goals go_wp2
  all_goals go_ret3
  all_goals
    refine ⟨v1, rfl, by simpa using hown1, ?_⟩
    exact (((Below.refl w.heap.size w).alloc (Nat.le_refl _) _).drew).grown hgrow1 (by simp) (by intro q hq; simp [Value.ownBlock] at hq; omega)

set_option maxHeartbeats 2000000 in
theorem rtake_end (b o : Nat) (xs : List Int) (k : Nat) (w : World) (hs : 1 ≤ k ∧ k ≤ 8) (h : BIn w (some ⟨b, o, none⟩) k xs) :
    Calls Try.prog 21 #[.slice (some ⟨b, o, none⟩) k k, .int .i64 k] w fun e w' => ∃ v', e = .returned (.tuple #[.int .u64 (worth xs), v', .int .i64 0]) ∧
      w'.ownsRow w.heap.size 5 1 v' 0 [] ∧ Below w.heap.size w w' := by
  have k0 : (0 : Int) ≤ k := by omega
  obtain ⟨i0, hi, hz0, hz1, hz2⟩ := info_parts info5
  have HT1 : Hid (BIn w.drew (some ⟨b, o, none⟩) k xs) := h.drew
  have HT2 : Hid (BIn (w.alloc (.cells #[] 5)).drew (some ⟨b, o, none⟩) k xs) := (h.later (below_alloc w _)).drew
  have HM : Hid ((w.alloc (.cells #[] 5)).drew.ownsRow w.heap.size 5 1 (.slice (some ⟨w.heap.size, 0, none⟩) 0 0) 0 []) := World.ownsRow_made w #[] 0 (Nat.le_refl _) (Nat.zero_le _) rfl
  have HN : Hid (∀ j u, ([] : List Value)[j]? = some u → (w.alloc (.cells #[] 5)).drew.cell? ((⟨b, o, none⟩ : Addr).add j) = some u) := fun j u hu => by simp at hu
  clear h
  go_enter Try.func21, Try.ntmps21
  go_wp2
  go_region_held3 (fun _ => True) (trivial) (first | (go_at_call 25; refine (worth_any _ _ _ xs _ (by omega) (by first | exact HT1.out | exact HT2.out)).mono ?_; rintro e w' ⟨rfl, rfl⟩) | (refine step_append_own (by rfl) _ _ 22 (by rfl) w.heap.size 5 i0 (.int .u8 0) 1 1 Try.underlying22 hi hz0 hz1 hz2 rfl (by decide) (.slice (some ⟨w.heap.size, 0, none⟩) 0 0) 0 [] (by rfl) HM.out ⟨b, o, none⟩ 0 0 [] (by rfl) rfl HN.out (fun u hu => by cases hu) (by unfold maxLen; omega) (by omega) (by simp) ?_; intro v1 w1 hown1 hgrow1))
  all_goals go_wp2
  all_goals go_ret3
  all_goals
    refine ⟨v1, rfl, by simpa using hown1, ?_⟩
    exact (((Below.refl w.heap.size w).alloc (Nat.le_refl _) _).drew).grown hgrow1 (by simp) (by intro q hq; simp [Value.ownBlock] at hq; omega)

theorem rtake_any (p : Option Addr) (n c : Nat) (xs : List Int) (s : Int) (w : World) (h : BIn w p n xs) (hnc : n ≤ c) (hbig : n ≤ 140737488355328) :
    Calls Try.prog 21 #[.slice p n c, .int .i64 s] w fun e w' => ∃ v', e = .returned (.tuple #[.int .u64 (takeS xs s).1, v', .int .i64 (takeS xs s).2.2]) ∧
      w'.ownsRow w.heap.size 5 1 v' (takeS xs s).2.1.length (U8 (takeS xs s).2.1) ∧ Below w.heap.size w w' := by
  unfold takeS
  by_cases hs : s < 1 ∨ 8 < s
  · rw [if_pos hs]
    refine (rtake_input p n c s w hs).mono ?_
    rintro e w' ⟨rfl, rfl⟩
    exact ⟨_, rfl, World.ownsRow_nil _ _ _ _, Below.refl _ _⟩
  · rw [if_neg hs]
    obtain ⟨k, rfl⟩ := Int.eq_ofNat_of_zero_le (show 0 ≤ s by omega)
    rw [Int.toNat_natCast, h.len]
    by_cases hk : (n : Int) < k
    · rw [if_pos hk]
      refine (rtake_short p n c k w (by omega) (by omega)).mono ?_
      rintro e w' ⟨rfl, rfl⟩
      exact ⟨_, rfl, World.ownsRow_nil _ _ _ _, Below.refl _ _⟩
    · rw [if_neg hk]
      obtain ⟨b, o, rfl, _⟩ := h.cells (by omega)
      by_cases hck : c = k
      · subst hck
        obtain rfl : n = c := by omega
        have e1 : xs.take n = xs := List.take_of_length_le (by rw [h.len]; omega)
        have e2 : xs.drop n = [] := List.drop_eq_nil_of_le (by rw [h.len]; omega)
        rw [e1, e2]
        exact rtake_end b o xs n w (by omega) h
      · simp only [List.length_drop, h.len]
        exact rtake_more b o n c xs k w (by omega) (by omega) hnc hbig h hck

theorem takeS_bytes (xs : List Int) (s : Int) (h : Bytes xs) : Bytes (takeS xs s).2.1 ∧ (takeS xs s).2.1.length ≤ xs.length := by
  unfold takeS
  by_cases hs : s < 1 ∨ 8 < s
  · rw [if_pos hs]; exact ⟨Bytes.nil, by simp⟩
  · rw [if_neg hs]
    by_cases hw : (xs.length : Int) < s
    · rw [if_pos hw]; exact ⟨Bytes.nil, by simp⟩
    · rw [if_neg hw]; exact ⟨h.drop _, by simp⟩

theorem take_x (p : Option Addr) (n c : Nat) (xs : List Int) (s : Int) (N : Int) (X : List Int) (er : Int) (hX : takeS xs s = (N, X, er)) (w : World) (h : BIn w p n xs) (hnc : n ≤ c) (hbig : n + 80 ≤ 140737488355328) :
    Calls Try.prog 17 #[.slice p n c, .int .i64 s] w fun e w' => ∃ p' c', e = .returned (.tuple #[.int .u64 N, .slice p' X.length c', .int .i64 er]) ∧ Made w w' p' X.length c' X := by
  have hx := takeS_bytes xs s h.byte
  refine (take_any p n c xs s w h hnc (by omega)).mono ?_
  rintro e w' ⟨v, rfl, ho, hb⟩
  rw [hX] at *
  have hl : X.length ≤ xs.length := hx.2
  rw [h.len] at hl
  obtain ⟨p', c', rfl, hm⟩ := made_of ho hx.1 hb (by simp only; omega)
  exact ⟨p', c', rfl, hm⟩

theorem rtake_x (p : Option Addr) (n c : Nat) (xs : List Int) (s : Int) (N : Int) (X : List Int) (er : Int) (hX : takeS xs s = (N, X, er)) (w : World) (h : BIn w p n xs) (hnc : n ≤ c) (hbig : n + 80 ≤ 140737488355328) :
    Calls Try.prog 21 #[.slice p n c, .int .i64 s] w fun e w' => ∃ p' c', e = .returned (.tuple #[.int .u64 N, .slice p' X.length c', .int .i64 er]) ∧ Made w w' p' X.length c' X := by
  have hx := takeS_bytes xs s h.byte
  refine (rtake_any p n c xs s w h hnc (by omega)).mono ?_
  rintro e w' ⟨v, rfl, ho, hb⟩
  rw [hX] at *
  have hl : X.length ≤ xs.length := hx.2
  rw [h.len] at hl
  obtain ⟨p', c', rfl, hm⟩ := made_of ho hx.1 hb (by simp only; omega)
  exact ⟨p', c', rfl, hm⟩

end Go.Proofs.Ytdfnpapnoedpkab
