/-
  Contracts of the statements' own helpers: some, put.
-/
import Derived.Test.YtlidjenkicgldaaHa
namespace Go.Proofs.Ytlidjenkicgldaa
open Go.RowKit

theorem info3 : (Try.prog.info? 3).map (fun i => (i.zero, i.size, i.bytes)) = some (some (.int .i64 0), 1, 8) := by kernel_rfl
abbrev I64 (xs : List Int) : List Value := xs.map (Value.int .i64)
theorem ones_i64 (xs : List Int) : ∀ v ∈ I64 xs, v.oneCell' = true := by
  intro u hu; obtain ⟨x, _, rfl⟩ := List.mem_map.1 hu; rfl
theorem IIn.news {w : World} {a : Addr} {n : Nat} {xs : List Int} (h : IIn w (some a) n xs) : ∀ j u, (I64 xs)[j]? = some u → w.cell? (a.add j) = some u := by
  intro j u hj
  have hjn : j < xs.length := by
    have := (List.getElem?_eq_some_iff.1 hj).1
    simpa using this
  obtain ⟨b, o, e, hc⟩ := h.cells (by have := h.len; omega)
  simp only [Option.some.injEq] at e
  subst e
  rw [Addr.add_mid, hc j (by have := h.len; omega), ← hj]
  simp [List.getD, List.getElem?_eq_getElem hjn]
theorem IIn.take {w : World} {p : Option Addr} {n : Nat} {xs : List Int} (h : IIn w p n xs) (k : Nat) (hk : k ≤ n) : IIn w p k (xs.take k) := by
  refine ⟨by rw [List.length_take, h.len]; omega, fun hp => ?_⟩
  obtain ⟨b, o, e, hc⟩ := h.cells (by omega)
  refine ⟨b, o, e, fun i hi => ?_⟩
  rw [hc i (by omega)]
  simp [List.getD, hi]
theorem IIn.kept {w w' : World} {S : Nat → Prop} {p : Option Addr} {n : Nat} {xs : List Int} (h : IIn w p n xs) (hk : Kept S w w') (hs : ∀ a, p = some a → ¬ S a.block) : IIn w' p n xs := by
  refine ⟨h.len, fun h0 => ?_⟩
  obtain ⟨b, o, rfl, hc⟩ := h.cells h0
  refine ⟨b, o, rfl, fun i hi => ?_⟩
  rw [World.cell?_of_block (w := w) (a := ⟨b, o + i, none⟩) (hk.block b (h.lt h0) (hs _ rfl))]
  exact hc i hi
theorem BIn.kept {w w' : World} {S : Nat → Prop} {p : Option Addr} {n : Nat} {xs : List Int} (h : BIn w p n xs) (hk : Kept S w w') (hs : ∀ a, p = some a → ¬ S a.block) : BIn w' p n xs := by
  refine ⟨h.len, h.byte, fun h0 => ?_⟩
  obtain ⟨b, o, rfl, hc⟩ := h.cells h0
  refine ⟨b, o, rfl, fun i hi => ?_⟩
  rw [World.cell?_of_block (w := w) (a := ⟨b, o + i, none⟩) (hk.block b (h.lt h0) (hs _ rfl))]
  exact hc i hi
theorem ints_in {w : World} {base : Nat} {v : Value} {n : Nat} {xs : List Int} (h : w.ownsRow base 3 1 v n (I64 xs)) : ∃ p c, v = .slice p n c ∧ IIn w p n xs ∧ n ≤ c ∧ (p = none → c = 0) ∧ (∀ a, p = some a → base ≤ a.block ∧ a.block < w.heap.size) := by
  have hl : xs.length = n := by have := h.1; simpa [I64] using this
  rcases h.2 with ⟨rfl, rfl⟩ | ⟨g, cap, cur, rfl, h1, hg, hnc, hcm, hsz, htake⟩
  · exact ⟨none, 0, rfl, ⟨hl, fun h0 => absurd h0 (Nat.lt_irrefl 0)⟩, Nat.le_refl _, fun _ => rfl, fun a e => by cases e⟩
  · refine ⟨_, cap, rfl, ⟨hl, fun h0 => ⟨g, 0, rfl, fun i hi => ?_⟩⟩, hnc, (fun e => by cases e), fun a e => ?_⟩
    · have := h.cellAt i (by omega)
      rw [Nat.zero_add, this]
      simp [I64, List.getD, List.getElem?_eq_getElem (show i < xs.length by omega)]
    · simp only [Option.some.injEq] at e
      subst e
      exact ⟨h1, (Array.getElem?_eq_some_iff.1 hg).1⟩

set_option maxHeartbeats 1000000 in
theorem some_at (a : Addr) (m c : Nat) (xs : List Int) (w : World) (h : IIn w (some a) m xs) (hmc : m ≤ c) (J : Nat) (hJ : J = min m 30) :
    Calls Try.prog 18 #[.slice (some a) m c] w fun e w' => ∃ v', e = .returned v' ∧ w'.ownsRow w.heap.size 3 1 v' J (I64 (xs.take J)) ∧ Below w.heap.size w w' := by
  obtain ⟨i0, hi, hz0, hz1, hz2⟩ := info_parts info3
  have hmin : (if (30 : Int) < (m : Int) then (30 : Int) else (m : Int)) = (J : Int) := by split <;> omega
  have hj1 : (J : Int) ≤ (c : Int) := by omega
  have hj0 : (0 : Int) ≤ (J : Int) := by omega
  have HN : Hid (∀ j u, (I64 (xs.take J))[j]? = some u → (w.alloc (.cells #[] 3)).cell? (a.add j) = some u) := ((h.take J (by omega)).later (below_alloc w _)).news
  have HL : Hid ((xs.take J).length = J) := (h.take J (by omega)).len
  have hJ30 : J ≤ 30 := by omega
  clear h hJ
  go_enter Try.func18, Try.ntmps18
  go_wp2_with (at_builtin; refine wpList_append_own _ rfl (.tmp 3) (.tmp 8) 36 rfl w.heap.size 3 i0 (.int .i64 0) 1 8 Try.underlying36 hi hz0 hz1 hz2 rfl (by omega) _ 0 [] rfl (World.ownsRow_made w #[] 0 (Nat.le_refl _) (Nat.zero_le _) rfl) a J c (I64 (xs.take J)) rfl (by simpa [I64] using HL.out) HN.out (ones_i64 _) (by unfold maxLen; omega) (by omega) (by simp) ?_)
  intro v' w1 hown hgrow hnil
  go_wp2
  go_ret
  refine ⟨v', rfl, by simpa [I64, List.map_take] using hown, ?_⟩
  exact ((Below.refl _ w).alloc (Nat.le_refl _) _).grown hgrow (by simp) (by intro k hk; simp [Value.ownBlock] at hk; omega)

set_option maxHeartbeats 1000000 in
theorem some_none (w : World) :
    Calls Try.prog 18 #[.slice none 0 0] w fun e w' => ∃ v', e = .returned v' ∧ w'.ownsRow w.heap.size 3 1 v' 0 [] ∧ Below w.heap.size w w' := by
  obtain ⟨i0, hi, hz0, hz1, hz2⟩ := info_parts info3
  have HM : Hid ((w.alloc (.cells #[] 3)).ownsRow w.heap.size 3 1 (.slice (some ⟨w.heap.size, 0, none⟩) 0 0) 0 []) := World.ownsRow_made w #[] 0 (Nat.le_refl _) (Nat.zero_le _) rfl
  go_enter Try.func18, Try.ntmps18
  go_wp2_with (at_builtin; refine wpList_append_own_none rfl (.tmp 3) (.tmp 8) 36 rfl w.heap.size 3 i0 1 Try.underlying36 hi _ 0 [] rfl HM.out rfl ?_)
  go_ret
  exact ⟨_, rfl, HM.out, below_alloc _ _⟩

/-- at most 30 of them, in a list of their own -/
theorem some_any (p : Option Addr) (m c : Nat) (xs : List Int) (w : World) (h : IIn w p m xs) (hp : p = none → c = 0) (hmc : m ≤ c) :
    Calls Try.prog 18 #[.slice p m c] w fun e w' => ∃ q c' J X, e = .returned (.slice q J c') ∧ IIn w' q J X ∧ J ≤ 30 ∧ (∀ a, q = some a → w.heap.size ≤ a.block ∧ a.block < w'.heap.size) ∧ Below w.heap.size w w' := by
  cases p with
  | some a =>
    refine (some_at a m c xs w h hmc (min m 30) rfl).mono ?_
    rintro e w' ⟨v, rfl, ho, hb⟩
    obtain ⟨q, c', rfl, h1, _, _, h2⟩ := ints_in ho
    exact ⟨q, c', _, _, rfl, h1, by omega, h2, hb⟩
  | none =>
    obtain rfl := hp rfl
    obtain rfl : m = 0 := by omega
    refine (some_none w).mono ?_
    rintro e w' ⟨v, rfl, ho, hb⟩
    obtain ⟨q, c', rfl, h1, _, _, h2⟩ := ints_in (xs := []) ho
    exact ⟨q, c', _, _, rfl, h1, by omega, h2, hb⟩

/-- the sector of a number -/
def sl8 (x : Int) : Nat := ((x.tmod 8 + 8) % 8).toNat
theorem sl8_lt (x : Int) : sl8 x < 8 := by unfold sl8; omega
theorem sl8_is (x : Int) : (x.tmod 8 + 8) % 8 = ((sl8 x : Nat) : Int) := by unfold sl8; omega
theorem tmod8 (x : Int) : -8 < x.tmod 8 ∧ x.tmod 8 < 8 := by
  have h1 := Int.tmod_lt_of_pos x (show (0 : Int) < 8 by omega)
  have h2 := Int.lt_tmod_of_pos x (b := 8) (by omega)
  omega
/-- the bytes of write number i -/
def wb (i : Nat) : List Int := List.replicate 64 ((i : Int) + 1)
/-- the first k writes -/
def pws (xs : List Int) (k : Nat) : List Wr := (List.range k).map fun i => ⟨sl8 (xs.getD i 0), wb i⟩
theorem pws_zero (xs : List Int) : pws xs 0 = [] := rfl
theorem pws_succ (xs : List Int) (k : Nat) : pws xs (k + 1) = pws xs k ++ [⟨sl8 (xs.getD k 0), wb k⟩] := by simp [pws, List.range_succ]
theorem pws_length (xs : List Int) (k : Nat) : (pws xs k).length = k := by simp [pws]
theorem wb_length (i : Nat) : (wb i).length = 64 := by simp [wb]
theorem wb_bytes (i : Nat) (h : i < 255) : Bytes (wb i) := Bytes.rep _ _ (by omega)

theorem made64 : ∃ ob, (∀ w, (Instr.makeSlice 23 (.int .i64 64) (.int .i64 64)).run Try.prog w = .ok (.slice (some ⟨w.heap.size, 0, none⟩) 64 64) (w.alloc ob)) ∧ ∀ (W : World) (j : Nat) (x : Int), W.heap[j]? = some ob → BRow W j (fillk x 0) := by
  obtain ⟨i0, hi, hz0, hz1, hz2⟩ := info_parts info5
  refine ⟨.cells (List.replicate 64 (Value.int .u8 0)).toArray 5, fun w => ?_, fun W j x h => ?_⟩
  · have := run_make (P := Try.prog) w 23 5 i0 _ Try.underlying23 hi hz0 .i64 .i64 64 64 (by omega) (by omega) (by rw [hz2]; omega) (by omega)
    rw [hz1] at this
    exact this.trans (by rw [show (64 : Int).toNat * 1 = 64 from rfl]; exact congrArg (fun c => Result.ok _ (w.alloc (.cells c 5))) (made_rep 1 (Value.int .u8 0) (by omega) 64))
  · unfold BRow; rw [h, fillk_zero, U8, List.map_replicate]

set_option maxRecDepth 10000 in
set_option maxHeartbeats 4000000 in
theorem put_any {w : World} {S : Nat → Prop} {p n : Nat} {d : List Int} (h : Dsk w S p 8 d []) (a : Option Addr) (m c : Nat) (xs : List Int) (hx : IIn w a m xs) (hm : m ≤ 30) (ha : ∀ b, a = some b → ¬ S b.block) (hn : n = m) :
    Calls Try.prog 19 #[.pointer (some ⟨p, 0, none⟩), .slice a n c] w fun e w' => e = .returned (.bool true) ∧ Dsk w' (More S w) p 8 d (pws xs m) ∧ Kept S w w' := by
  subst hn
  obtain ⟨ob, hmk, hZ⟩ := made64
  have HZ : Hid (∀ (W : World) (j : Nat) (x : Int), W.heap[j]? = some ob → BRow W j (fillk x 0)) := hZ
  have HH : Hid (Dsk w S p 8 d []) := h
  have HX : Hid (IIn w a n xs ∧ (∀ b, a = some b → ¬ S b.block)) := ⟨hx, ha⟩
  clear h hx ha hZ
  go_enter Try.func19, Try.ntmps19
  go_wp2
  go_loopw [11] (fun i wr => ∃ k : Nat, k ≤ n ∧ i = .int .i64 k ∧ Hid (Dsk wr (More S w) p 8 d (pws xs k) ∧ Kept S w wr)) (fun i _ => n - (intOf i).toNat)
  case atStart => exact ⟨0, by omega, rfl, HH.out.mono (fun k _ h => .inl h), Kept.refl _ _⟩
  case round =>
    obtain ⟨k, hkm, rfl, HR⟩ := hrel
    by_cases hlt : k < n
    · obtain ⟨g, o, rfl, hc⟩ := (HX.out.1.kept HR.out.2 HX.out.2).cells (by omega)
      have hck := hc k hlt
      obtain ⟨x, hxk⟩ : ∃ x, x = xs.getD k 0 := ⟨_, rfl⟩
      have HE : Hid (x = xs.getD k 0) := hxk
      rw [← hxk] at hck
      clear hxk hc
      obtain ⟨wk, hwk⟩ : ∃ wk, wk = wr := ⟨_, rfl⟩
      subst hwk
      go_wp2
      have HB0 : Hid (Below wk.heap.size wk (wk.alloc ob) ∧ BRow (wk.alloc ob) wk.heap.size (fillk ((k : Int) + 1) 0)) := ⟨below_alloc _ _, HZ.out _ _ _ (heap_alloc_new wk ob)⟩
      clear hck
      generalize wk.alloc ob = W1 at *
      go_loopw [19] (fun i wr => ∃ j : Nat, j ≤ 64 ∧ i = .int .i64 j ∧ Hid (Below wk.heap.size wk wr ∧ BRow wr wk.heap.size (fillk ((k : Int) + 1) j))) (fun i _ => 64 - (intOf i).toNat)
      case atStart => exact ⟨0, by omega, rfl, HB0.out⟩
      case round =>
        obtain ⟨j, hj, rfl, HQ⟩ := hrel
        clear HB0
        by_cases hj2 : j < 64
        · have hl := fillk_length ((k : Int) + 1) j (by omega)
          have c1 := HQ.out.2.cell (k := j) (by omega)
          have f1 := HQ.out.2.free j
          have HU : Hid (Below wk.heap.size wk (wr.setCell ⟨wk.heap.size, j, none⟩ (.int .u8 ((k : Int) + 1))) ∧ BRow (wr.setCell ⟨wk.heap.size, j, none⟩ (.int .u8 ((k : Int) + 1))) wk.heap.size (fillk ((k : Int) + 1) (j + 1))) := by
            refine ⟨HQ.out.1.setCell (Nat.le_refl _) _, ?_⟩
            rw [← fillk_step _ j hj2]
            exact HQ.out.2.put j _
          generalize (fillk ((k : Int) + 1) j)[j] = y at c1
          clear hl HQ
          have hw1 : ((k : Int) + 1) % 256 = (k : Int) + 1 := by omega
          go_wp2
          go_roundw
          case rel => exact ⟨j + 1, by omega, by go_num, HU.out⟩
          case measure => simp [intOf]; omega
        · obtain rfl : j = 64 := by omega
          have hrow := HQ.out.2
          rw [fillk_all] at hrow
          have t0 := tmod8 x
          have t1 := sl8_is x
          have hs8 := sl8_lt x
          obtain ⟨t, ht⟩ : ∃ t, x.tmod 8 = t := ⟨_, rfl⟩
          rw [ht] at t0 t1
          obtain ⟨t00, t01⟩ := t0
          have HSx : Hid (sl8 x = sl8 (xs.getD k 0)) := by show _ = _; rw [HE.out]
          generalize sl8 x = sx at *
          have HW : Hid (Dsk wr (More S w) p 8 d (pws xs k) ∧ Kept S w wr) := ⟨HR.out.1.later HQ.out.1, HR.out.2.trans (T := fun _ => False) (Kept.of_below HQ.out.1) (fun _ _ f => f.elim)⟩
          clear HR HQ
          go_wp2_with fail
          refine (write_good HW.out.1 sx hs8 (some ⟨wk.heap.size, 0, none⟩) 64 (wb k) (hrow.bin (by simp) (wb_bytes k (by omega))) (by rw [pws_length]; omega)).mono ?_
          rintro e w2 ⟨rfl, hd2, hk2⟩
          have hsz := HW.out.2.size
          have HN : Hid (Dsk w2 (More S w) p 8 d (pws xs (k + 1)) ∧ Kept S w w2) := by
            refine ⟨?_, HW.out.2.then hk2⟩
            rw [pws_succ, ← HSx.out]
            exact hd2.mono (fun j _ h => h.elim id (fun h => .inr (by omega)))
          clear HW hd2 hk2 hrow
          go_wp2
          go_roundw
          case rel => exact ⟨k + 1, by omega, by go_num, HN.out⟩
          case measure => simp [intOf]; omega
    · obtain rfl : k = n := by omega
      go_wp2
      go_ret
      exact ⟨rfl, HR.out.1, HR.out.2⟩
end Go.Proofs.Ytlidjenkicgldaa
