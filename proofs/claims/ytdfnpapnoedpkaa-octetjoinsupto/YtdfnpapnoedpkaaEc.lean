/-
  Contracts of the document's answers: wicketref01.Pad, Blank, Worth.
-/
import Derived.Test.YtdfnpapnoedpkaaEb
namespace Go.Proofs.Ytdfnpapnoedpkaa
open Go.RowKit

/-- how long a slice is -/
def lenOf : Value → Nat | .slice _ n _ => n | _ => 0

/-- 'append(out, x...)', out the call's own, x whatever: nil too -/
theorem wpList_append_ownany {P : Program} (w : World) {ops : Array Oper} {rest : List Oper} {o : Oper} {a : Act} {Q : Exit → Act → World → Prop} (hgd : o.guard = none) (s x : Operand) (t : TypeId)
    (ho : o.op = .call { callee := .builtin .append, args := #[s, x], argTypes := #[t, t] })
    (base : Nat) (e : TypeId) (i : TypeInfo) (z : Value) (size bytes : Nat) (ht : P.underlying t = some (.slice e)) (hi : P.info? e = some i) (hz : i.zero = some z)
    (hsize : i.size = size) (hby : i.bytes = bytes) (hzs : z.cells.size = size) (hsz : 0 < size)
    (v : Value) (n : Nat) (xs : List Value) (hs : a.eval s = v) (hown : w.ownsRow base e size v n xs)
    (ao : Option Addr) (m c : Nat) (news : List Value) (hx : a.eval x = .slice ao m c) (hnone : ao = none → m = 0 ∧ c = 0) (hl : news.length = m * size) (hnews : ∀ ad, ao = some ad → ∀ j u, news[j]? = some u → w.cell? (ad.add j) = some u) (h1 : ∀ u ∈ news, u.oneCell' = true)
    (h63 : n + m ≤ maxLen) (hbytes : (n + m) * bytes ≤ 140737488355328) (hbase : base ≤ w.heap.size)
    (h : ∀ v' w', w'.ownsRow base e size v' (n + m) (xs ++ news) → w.grownBy w' v.ownBlock → wpList P ops Q rest (a.put o.dst v') w') : wpList P ops Q (o :: rest) a w := by
  cases ao with
  | some ad => exact wpList_append_own w hgd s x t ho base e i z size bytes ht hi hz hsize hby hzs hsz v n xs hs hown ad m c news hx hl (hnews ad rfl) h1 h63 hbytes hbase fun v' w' a b _ => h v' w' a b
  | none =>
    obtain ⟨rfl, rfl⟩ := hnone rfl
    obtain rfl : news = [] := List.eq_nil_of_length_eq_zero (by simpa using hl)
    exact wpList_append_own_none hgd s x t ho base e i size ht hi v n xs hs hown hx (h v w (by simpa using hown) (World.grownBy.refl _ _))

set_option maxHeartbeats 400000 in
theorem rpad_input (p : Option Addr) (n c : Nat) (s : Int) (w : World) (hs : s < 0 ∨ 64 < s) :
    Calls Try.prog 25 #[.slice p n c, .int .i64 s] w fun e w' => e = .returned (.tuple #[.slice none 0 0, .int .i64 2]) ∧ w = w' := by
  rcases hs with hs | hs
  · go_enter Try.func25, Try.ntmps25
    go_wp2
    go_ret2
    exact ⟨rfl, rfl⟩
  · have hn : ¬ s < 0 := by omega
    go_enter Try.func25, Try.ntmps25
    go_wp2
    go_ret2
    exact ⟨rfl, rfl⟩

set_option maxHeartbeats 400000 in
theorem rpad_wide (p : Option Addr) (n c : Nat) (k : Nat) (w : World) (hk : k ≤ 64) (hs : k < n) :
    Calls Try.prog 25 #[.slice p n c, .int .i64 k] w fun e w' => e = .returned (.tuple #[.slice none 0 0, .int .i64 10]) ∧ w = w' := by
  go_enter Try.func25, Try.ntmps25
  go_wp2
  go_ret2
  exact ⟨rfl, rfl⟩

set_option maxHeartbeats 1000000 in
theorem rpad_ok (p : Option Addr) (n c : Nat) (xs : List Int) (k : Nat) (w : World) (hk : k ≤ 64) (hs : n ≤ k) (h : BIn w p n xs) (hp : p = none → c = 0) :
    Calls Try.prog 25 #[.slice p n c, .int .i64 k] w fun e w' => ∃ v', e = .returned (.tuple #[v', .int .i64 0]) ∧ w'.ownsRow w.heap.size 5 1 v' k (U8 (xs ++ List.replicate (k - n) 0)) ∧ Below w.heap.size w w' := by
  obtain ⟨i0, hi, hz0, hz1, hz2⟩ := info_parts info5
  have HH : Hid (BIn (w.alloc (.cells #[] 5)) p n xs) := h.later (below_alloc w _)
  have HM : Hid ((w.alloc (.cells #[] 5)).ownsRow w.heap.size 5 1 (.slice (some ⟨w.heap.size, 0, none⟩) 0 0) 0 []) := World.ownsRow_made w #[] 0 (Nat.le_refl _) (Nat.zero_le _) rfl
  have HP : Hid (p = none → n = 0 ∧ c = 0) := by
    intro e
    refine ⟨?_, hp e⟩
    by_cases h0 : 0 < n
    · obtain ⟨b, o, e2, _⟩ := h.cells h0
      rw [e] at e2; cases e2
    · omega
  have HN : Hid (∀ ad, p = some ad → ∀ j u, (U8 xs)[j]? = some u → (w.alloc (.cells #[] 5)).cell? (ad.add j) = some u) := by
    intro ad e
    have := HH.out
    rw [e] at this
    exact this.news
  clear h hp
  go_enter Try.func25, Try.ntmps25
  go_wp2_with (at_builtin; refine wpList_append_ownany _ rfl (.tmp 17) (.tmp 18) 23 rfl w.heap.size 5 i0 (.int .u8 0) 1 1 Try.underlying23 hi hz0 hz1 hz2 rfl (by decide) _ 0 [] rfl HM.out p n c (U8 xs) rfl HP.out (by simp [U8, HH.out.len]) HN.out (ones_u8 xs) (by unfold maxLen; omega) (by omega) (by simp) ?_)
  intro v w1 hown hgrow
  have hb := ((Below.refl _ w).alloc (Nat.le_refl _) _).grown hgrow (by simp) (by intro k hk; simp [Value.ownBlock] at hk; omega)
  have HO : Hid (w1.ownsRow w.heap.size 5 1 v n (U8 xs)) := by show World.ownsRow _ _ _ _ _ _ _; simpa using hown
  have HB : Hid (Below w.heap.size w w1) := hb
  clear hown hgrow hb HM
  go_wp2
  go_loopw [6] (fun v wr => ∃ (j : Nat) (q : Option Addr) (d : Nat), n ≤ j ∧ j ≤ k ∧ v = .slice q j d ∧ wr.ownsRow w.heap.size 5 1 (.slice q j d) j (U8 (xs ++ List.replicate (j - n) 0)) ∧ Below w.heap.size w wr) (fun v _ => k - lenOf v)
  case atStart =>
    obtain ⟨q, d, e, _⟩ := own_in HO.out HH.out.byte
    refine ⟨n, q, d, Nat.le_refl _, hs, e, ?_, HB.out⟩
    rw [← e, Nat.sub_self]
    simpa using HO.out
  case round =>
    obtain ⟨j, q, d, hj0, hj1, rfl, ho, hbr⟩ := hrel
    have HO2 : Hid (wr.ownsRow w.heap.size 5 1 (.slice q j d) j (U8 (xs ++ List.replicate (j - n) 0))) := ho
    have HB2 : Hid (Below w.heap.size w wr) := hbr
    clear ho hbr HO HB
    by_cases hlt : j < k
    · go_wp2_with (at_builtin; refine wpList_append_own _ rfl (.tmp 24) (.tmp 25) 23 rfl w.heap.size 5 i0 (.int .u8 0) 1 1 Try.underlying23 hi hz0 hz1 hz2 rfl (by decide) (.slice q j d) j (U8 (xs ++ List.replicate (j - n) 0)) rfl (HO2.out.alloc _) ⟨wr.heap.size, 0, none⟩ 1 1 [.int .u8 0] rfl rfl (cell_one_new _ _ _) (one_u8 _) (by unfold maxLen; omega) (by omega) (by have := HB2.out.size; simp; omega) ?_)
      intro v2 w2 hown2 hgrow2 _
      have R1 : w2.ownsRow w.heap.size 5 1 v2 (j + 1) (U8 (xs ++ List.replicate (j + 1 - n) 0)) := by
        have e : j + 1 - n = (j - n) + 1 := by omega
        rw [e, List.replicate_succ', ← List.append_assoc]
        simpa [U8] using hown2
      obtain ⟨q2, d2, e2, _⟩ := own_in R1 (HH.out.byte.append (fun x hx => by rw [List.eq_of_mem_replicate hx]; omega))
      subst e2
      have HR1 : Hid (w2.ownsRow w.heap.size 5 1 (.slice q2 (j + 1) d2) (j + 1) (U8 (xs ++ List.replicate (j + 1 - n) 0))) := R1
      have HR2 : Hid (Below w.heap.size w w2) := (HB2.out.alloc HB2.out.size _).grown hgrow2 (by have := HB2.out.size; simp; omega) (fun g hg => (HO2.out.lt g hg).1)
      clear hown2 hgrow2 R1 HO2 HB2
      go_wp2
      go_roundw
      case rel => exact ⟨j + 1, q2, d2, by omega, by omega, rfl, HR1.out, HR2.out⟩
      case measure => simp [lenOf]; omega
    · obtain rfl : k = j := by omega
      go_wp2
      go_ret2
      exact ⟨_, rfl, HO2.out, HB2.out⟩

theorem rpad_any (p : Option Addr) (n c : Nat) (xs : List Int) (s : Int) (w : World) (h : BIn w p n xs) (hp : p = none → c = 0) :
    Calls Try.prog 25 #[.slice p n c, .int .i64 s] w fun e w' => ∃ v', e = .returned (.tuple #[v', .int .i64 (padS xs s).2]) ∧
      w'.ownsRow w.heap.size 5 1 v' (padS xs s).1.length (U8 (padS xs s).1) ∧ Below w.heap.size w w' := by
  unfold padS
  by_cases hs : s < 0 ∨ 64 < s
  · rw [if_pos hs]
    refine (rpad_input p n c s w hs).mono ?_
    rintro e w' ⟨rfl, rfl⟩
    exact ⟨_, rfl, World.ownsRow_nil _ _ _ _, Below.refl _ _⟩
  · rw [if_neg hs]
    obtain ⟨k, rfl⟩ := Int.eq_ofNat_of_zero_le (show 0 ≤ s by omega)
    rw [Int.toNat_natCast, h.len]
    by_cases hk : (k : Int) < n
    · rw [if_pos hk]
      refine (rpad_wide p n c k w (by omega) (by omega)).mono ?_
      rintro e w' ⟨rfl, rfl⟩
      exact ⟨_, rfl, World.ownsRow_nil _ _ _ _, Below.refl _ _⟩
    · rw [if_neg hk]
      have e : (xs ++ List.replicate (k - n) 0).length = k := by simp [h.len]; omega
      rw [e]
      exact rpad_ok p n c xs k w (by omega) (by omega) h hp

set_option maxHeartbeats 400000 in
theorem rblank_pos (b o n c : Nat) (xs : List Int) (w : World) (hn : n ≤ maxLen) (h : BIn w (some ⟨b, o, none⟩) n xs) (h0 : 0 < n) :
    Calls Try.prog 24 #[.slice (some ⟨b, o, none⟩) n c] w fun e w' => e = .returned (.bool (blankS xs)) ∧ w = w' := by
  unfold maxLen at hn
  have hx := h.len
  have HX : Hid (xs.length = n) := hx
  clear hx
  go_enter Try.func24, Try.ntmps24
  go_wp2
  go_loop [3] (fun i => ∃ k : Nat, k ≤ n ∧ i = .int .i64 k ∧ blankS (xs.take k) = true) (fun i => n - (intOf i).toNat)
  case atStart => exact ⟨0, Nat.zero_le _, rfl, rfl⟩
  case round =>
    obtain ⟨k, hk, rfl, hb⟩ := hrel
    have HB : Hid (_) := hb
    clear hb
    by_cases hlt : k < n
    · obtain ⟨b', o', e, hc0⟩ := h.cells h0
      simp only [Option.some.injEq, Addr.mk.injEq, and_true] at e
      obtain ⟨rfl, rfl⟩ := e
      have hc := hc0 k hlt
      have hkl : k < xs.length := by rw [HX.out]; exact hlt
      clear hc0
      cases hz : (xs[k] != 0)
      · go_wp2
        go_round
        case rel => exact ⟨k + 1, by omega, by go_num, blank_step xs k hkl HB.out hz⟩
        case measure => simp [intOf]; omega
      · go_wp2
        go_ret
        exact ⟨by rw [blank_no xs k hkl hz]; rfl, rfl⟩
    · go_wp2
      go_ret
      have e := HB.out
      rw [List.take_of_length_le (by rw [HX.out]; omega)] at e
      exact ⟨by rw [e]; rfl, rfl⟩

set_option maxHeartbeats 400000 in
theorem rblank_zero (p : Option Addr) (c : Nat) (w : World) :
    Calls Try.prog 24 #[.slice p 0 c] w fun e w' => e = .returned (.bool true) ∧ w = w' := by
  go_enter Try.func24, Try.ntmps24
  go_wp2
  refine wp_loop_rounds 1 ?_
  rw [rounds_succ]
  go_wp2
  go_ret
  exact ⟨rfl, rfl⟩

theorem rblank_any (p : Option Addr) (n c : Nat) (xs : List Int) (w : World) (hn : n ≤ maxLen) (h : BIn w p n xs) :
    Calls Try.prog 24 #[.slice p n c] w fun e w' => e = .returned (.bool (blankS xs)) ∧ w = w' := by
  by_cases h0 : 0 < n
  · obtain ⟨b, o, rfl, hc⟩ := h.cells h0
    exact rblank_pos b o n c xs w hn h h0
  · obtain rfl : n = 0 := by omega
    obtain rfl : xs = [] := List.eq_nil_of_length_eq_zero h.len
    exact rblank_zero p c w

end Go.Proofs.Ytdfnpapnoedpkaa
