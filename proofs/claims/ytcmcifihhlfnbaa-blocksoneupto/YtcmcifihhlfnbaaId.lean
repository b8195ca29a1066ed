/-
  Layer 5: the statement BlocksOne: its walk.
-/
import Derived.Test.YtcmcifihhlfnbaaHb
namespace Go.Proofs.Ytcmcifihhlfnbaa
open Go.RowKit

/-- 'append' of a list that may be nil onto one that the call owns and that is not nil -/
theorem wpList_append_some {P : Program} (w : World) {ops : Array Oper} {rest : List Oper} {o : Oper} {a : Act} {Q : Exit → Act → World → Prop} (hgd : o.guard = none) (s x : Operand) (t : TypeId)
    (ho : o.op = .call { callee := .builtin .append, args := #[s, x], argTypes := #[t, t] })
    (base : Nat) (e : TypeId) (i : TypeInfo) (z : Value) (bytes : Nat) (ht : P.underlying t = some (.slice e)) (hi : P.info? e = some i) (hz : i.zero = some z)
    (hsize : i.size = 1) (hby : i.bytes = bytes) (hzs : z.cells.size = 1)
    (a0 : Addr) (n c0 : Nat) (xs : List Value) (hs : a.eval s = .slice (some a0) n c0) (hown : w.ownsRow base e 1 (.slice (some a0) n c0) n xs)
    (p : Option Addr) (m c : Nat) (news : List Value) (hx : a.eval x = .slice p m c) (hp : p = none → c = 0) (hmc : m ≤ c) (hl : news.length = m) (hnews : ∀ ad, p = some ad → ∀ j u, news[j]? = some u → w.cell? (ad.add j) = some u) (h1 : ∀ u ∈ news, u.oneCell' = true)
    (h63 : n + m ≤ maxLen) (hbytes : (n + m) * bytes ≤ 140737488355328) (hbase : base ≤ w.heap.size)
    (h : ∀ g cap w', w'.ownsRow base e 1 (.slice (some ⟨g, 0, none⟩) (n + m) cap) (n + m) (xs ++ news) → w.grownBy w' (some a0.block) → wpList P ops Q rest (a.put o.dst (.slice (some ⟨g, 0, none⟩) (n + m) cap)) w') : wpList P ops Q (o :: rest) a w := by
  cases p with
  | some ad =>
    refine wpList_append_own w hgd s x t ho base e i z 1 bytes ht hi hz hsize hby hzs (by omega) _ n xs hs hown ad m c news hx (by omega) (hnews ad rfl) h1 h63 hbytes hbase fun v' w' hO hG hN => ?_
    rcases hO.2 with ⟨e1, _⟩ | ⟨g, cap, cur, e1, _⟩
    · exact absurd (hN.1 e1).1 (by simp)
    · subst e1
      exact h g cap w' hO hG
  | none =>
    obtain rfl := hp rfl
    obtain rfl : m = 0 := by omega
    obtain rfl : news = [] := List.eq_nil_of_length_eq_zero hl
    refine wpList_append_own_none hgd s x t ho base e i 1 ht hi _ n xs hs hown hx ?_
    rcases hown.2 with ⟨e1, _⟩ | ⟨g, cap, cur, e1, _⟩
    · exact absurd e1 (by simp)
    · simp only [Value.slice.injEq, Option.some.injEq] at e1
      obtain ⟨rfl, _, rfl⟩ := e1
      exact h g c0 w (by simpa using hown) (World.grownBy.refl _ _)

theorem set_same {l : List Value} {i : Nat} {v : Value} (h : l[i]? = some v) : l.set i v = l := by
  obtain ⟨hi, rfl⟩ := List.getElem?_eq_some_iff.1 h
  exact List.set_getElem_self hi
/-- a number written over by itself -/
theorem row_same {w : World} {B g N cap : Nat} {xs : List Int} (h : w.ownsRow B 3 1 (.slice (some ⟨g, 0, none⟩) N cap) N (I64 xs)) {i : Nat} (hi : i < xs.length) :
    (w.setCell ⟨g, i, none⟩ (.int .i64 (xs.getD i 0))).ownsRow B 3 1 (.slice (some ⟨g, 0, none⟩) N cap) N (I64 xs) ∧ w.grownBy (w.setCell ⟨g, i, none⟩ (.int .i64 (xs.getD i 0))) (some g) := by
  have hst := h.stored i (.int .i64 (xs.getD i 0))
  rw [set_same (by have := getD_front (rest := []) hi; simpa using this)] at hst
  exact hst
theorem own_read {w : World} {B : Nat} {p : Option Addr} {N cap : Nat} {xs : List Int} (h : w.ownsRow B 3 1 (.slice p N cap) N (I64 xs)) : IIn w p N xs := by
  obtain ⟨p', c', e, hI, _⟩ := ints_in h
  simp only [Value.slice.injEq] at e
  obtain ⟨rfl, _, rfl⟩ := e
  exact hI
theorem getD_back {T xs : List Int} {n k : Nat} (hT : T.length = n) : (T ++ xs).getD (n + k) 0 = xs.getD k 0 := by
  rw [List.getD, List.getElem?_append_right (by omega), hT, Nat.add_sub_cancel_left]
  rfl

set_option maxRecDepth 100000 in
set_option maxHeartbeats 16000000 in
theorem blocksOne_is (p q : Option Addr) (n c m d : Nat) (xs ys : List Int) (x y b : Int) (w0 : World) (h : IIn w0 p n xs) (k : IIn w0 q m ys) (hnc : n ≤ c) (hp : p = none → c = 0) (hn : n ≤ 1048576) (hm : m ≤ 1048576) :
    Calls Try.prog 4 #[.slice p n c, .agg #[.int .i64 x, .int .i64 y], .slice q m d, .int .i64 b] w0 fun e w' => e = .returned (.bool true) ∧ Below w0.heap.size w0 w' := by
  obtain ⟨i0, hi, hz0, hz1, hz2⟩ := info_parts info3
  have hn8 : n + 80 ≤ 17592186044416 := by omega
  have hm8 : m + 80 ≤ 17592186044416 := by omega
  have hnn : n + n + 80 ≤ 17592186044416 := by omega
  obtain ⟨T, hT⟩ : ∃ T, turnS xs = T := ⟨_, rfl⟩
  obtain ⟨F, E, hF⟩ : ∃ F E, formS xs x y = (F, E) := ⟨_, _, rfl⟩
  have hF2 : formS (T ++ xs) x y = (F, E) := by
    rw [← hF]
    refine formS_congr x y fun z => ?_
    rw [List.mem_append, ← hT]
    exact ⟨fun h => h.elim turnS_mem id, .inr⟩
  obtain ⟨Z, hZ⟩ : ∃ Z, bothS xs ys = Z := ⟨_, rfl⟩
  have lF : F.length + 80 ≤ 17592186044416 := by have := formS_len xs x y; rw [hF] at this; simp only at this; omega
  have lZ : Z.length + 80 ≤ 17592186044416 := by have := bothS_length xs ys; rw [hZ, h.len] at this; omega
  have hUZ : ∀ i, i + 1 < Z.length → Z.getD i 0 < Z.getD (i + 1) 0 := by rw [← hZ]; exact (up_bothS xs ys).adj
  have hmZ : ∀ z, hasS Z z = (hasS xs z && hasS ys z) := fun z => by
    rw [Bool.eq_iff_iff, Bool.and_eq_true, hasS_iff, hasS_iff, hasS_iff, ← hZ, mem_bothS]
  obtain ⟨Hz, hHz⟩ : ∃ H, hasS Z b = H := ⟨_, rfl⟩
  obtain ⟨Hx, hHx⟩ : ∃ H, hasS xs b = H := ⟨_, rfl⟩
  obtain ⟨Hy, hHy⟩ : ∃ H, hasS ys b = H := ⟨_, rfl⟩
  have hHH : Hz = (Hx && Hy) := by rw [← hHz, ← hHx, ← hHy]; exact hmZ b
  have hE0 : E = 0 → F = diffS xs ∧ formS F x y = (F, 0) ∧ isS F = true ∧ ((F.length : Int) ≤ y) := fun e => by
    have h0 : (formS xs x y).2 = 0 := by rw [hF]; exact e
    have h1 := formS_ok h0
    have h2 : F = diffS xs := by rw [← h1.1, hF]
    refine ⟨h2, ?_, by rw [h2]; exact isS_form h0, by rw [h2]; exact h1.2.2.2.2⟩
    rw [h2, formS_form, hF, h2, e]
  have hE1 : E ≠ 0 → F = [] ∧ (E = 2 ∨ E = 50 ∨ E = 51 ∨ E = 52) := fun e => by
    have h1 := formS_errs xs x y
    rw [hF] at h1
    refine ⟨h1.2 e, ?_⟩
    rcases h1.1 with h | h
    · exact absurd h e
    · exact h
  have QT : Hid (turnS xs = T) := hT
  have QF : Hid (formS xs x y = (F, E)) := hF
  have QF2 : Hid (formS (T ++ xs) x y = (F, E)) := hF2
  have QZ : Hid (bothS xs ys = Z) := hZ
  have QUZ : Hid (∀ i, i + 1 < Z.length → Z.getD i 0 < Z.getD (i + 1) 0) := hUZ
  have QmZ : Hid (∀ z, hasS Z z = (hasS xs z && hasS ys z)) := hmZ
  have Qp : Hid (p = none → c = 0) := hp
  have QHz : Hid (hasS Z b = Hz) := hHz
  have QHx : Hid (hasS xs b = Hx) := hHx
  have QHy : Hid (hasS ys b = Hy) := hHy
  have QHH : Hid (Hz = (Hx && Hy)) := hHH
  have QE0 : Hid (E = 0 → F = diffS xs ∧ formS F x y = (F, 0) ∧ isS F = true ∧ ((F.length : Int) ≤ y)) := hE0
  have QE1 : Hid (E ≠ 0 → F = [] ∧ (E = 2 ∨ E = 50 ∨ E = 51 ∨ E = 52)) := hE1
  have QL : Hid (xs.length = n) := h.len
  clear hT hF hF2 hZ hUZ hmZ hp hHz hHx hHy hHH hE0 hE1
  go_enter Try.func4, Try.ntmps4
  go_wp2_with fail
  have b0_1 := below_alloc w0 (.cells #[.int .i64 x, .int .i64 y] 30)
  have mc0 : (w0.alloc (.cells #[.int .i64 x, .int .i64 y] 30)).cell? ⟨w0.heap.size, 0, none⟩ = some (.int .i64 x) := by rw [cell_of_row _ w0.heap.size 0 _ 30 (0, 0) (heap_alloc_new w0 _)]; rfl
  have mc1 : (w0.alloc (.cells #[.int .i64 x, .int .i64 y] 30)).cell? ⟨w0.heap.size, 1, none⟩ = some (.int .i64 y) := by rw [cell_of_row _ w0.heap.size 1 _ 30 (0, 0) (heap_alloc_new w0 _)]; rfl
  have mlt : w0.heap.size < (w0.alloc (.cells #[.int .i64 x, .int .i64 y] 30)).heap.size := by simp
  obtain ⟨w1, hw1⟩ : ∃ w1, w0.alloc (.cells #[.int .i64 x, .int .i64 y] 30) = w1 := ⟨_, rfl⟩
  rw [hw1] at b0_1 mc0 mc1 mlt ⊢
  clear hw1
  have MC0 : Hid (w1.cell? ⟨w0.heap.size, 0, none⟩ = some (.int .i64 x)) := mc0
  have MC1 : Hid (w1.cell? ⟨w0.heap.size, 1, none⟩ = some (.int .i64 y)) := mc1
  clear mc0 mc1
  refine (awake_is w1).mono ?_
  rintro e w2 ⟨rfl, b1_2⟩
  have c0 := (b1_2.cell (p := ⟨w0.heap.size, 0, none⟩) mlt).trans MC0.out
  have c1 := (b1_2.cell (p := ⟨w0.heap.size, 1, none⟩) mlt).trans MC1.out
  go_wp2_with fail
  clear c0 c1
  have b0_2 := below_then b0_1 b1_2
  refine (form_is p n c xs x y F E QF.out w2 hn8 (h.later b0_2)).mono ?_
  rintro e w3 ⟨qf, df, rfl, mf⟩
  have b2_3 := mf.below
  have b0_3 := below_then b0_2 b2_3
  have HX3 : Hid (IIn w3 p n xs) := (h.later b0_3)
  have HL : Hid ((I64 xs).length = n) := by show _ = _; rw [List.length_map, QL.out]
  have HN : Hid (∀ ad, p = some ad → ∀ j u, (I64 xs)[j]? = some u → (w3.alloc (.cells #[] 3)).cell? (ad.add j) = some u) := (HX3.out.later (below_alloc w3 _)).newsAny
  have HM : Hid ((w3.alloc (.cells #[] 3)).ownsRow w3.heap.size 3 1 (.slice (some ⟨w3.heap.size, 0, none⟩) 0 0) 0 []) := World.ownsRow_made w3 #[] 0 (Nat.le_refl _) (Nat.zero_le _) rfl
  go_wp2_with (at_builtin; refine wpList_append_some _ rfl (.tmp 34) (.tmp 35) 23 rfl w3.heap.size 3 i0 (.int .i64 0) 8 Try.underlying23 hi hz0 hz1 hz2 rfl _ 0 0 [] rfl HM.out p n c (I64 xs) rfl Qp.out hnc HL.out HN.out (ones_i64 xs) (by unfold maxLen; omega) (by omega) (by simp) ?_)
  intro g1 cap1 wa hown hgrow
  have HO1 : Hid (wa.ownsRow w3.heap.size 3 1 (.slice (some ⟨g1, 0, none⟩) n cap1) n (I64 xs)) := by show World.ownsRow _ _ _ _ _ _ _; simpa using hown
  have HB1 : Hid (Below w3.heap.size w3 wa) := ((Below.refl _ w3).alloc (Nat.le_refl _) _).grown hgrow (by simp) (by intro k hk; cases hk; exact Nat.le_refl _)
  clear hown hgrow HN HM
  have HN : Hid (∀ ad, p = some ad → ∀ j u, (I64 xs)[j]? = some u → wa.cell? (ad.add j) = some u) := (HX3.out.later HB1.out).newsAny
  go_wp2_with (at_builtin; refine wpList_append_some _ rfl (.tmp 36) (.tmp 37) 23 rfl w3.heap.size 3 i0 (.int .i64 0) 8 Try.underlying23 hi hz0 hz1 hz2 rfl _ n cap1 (I64 xs) rfl HO1.out p n c (I64 xs) rfl Qp.out hnc HL.out HN.out (ones_i64 xs) (by unfold maxLen; omega) (by omega) HB1.out.size ?_)
  intro g cap wb hown hgrow
  have HO : Hid (wb.ownsRow w3.heap.size 3 1 (.slice (some ⟨g, 0, none⟩) (n + n) cap) (n + n) (I64 (xs ++ xs))) := by
    have e : I64 (xs ++ xs) = I64 xs ++ I64 xs := by simp [I64]
    rw [e]
    exact hown
  have HB4 : Hid (Below w3.heap.size w3 wb) := HB1.out.grown hgrow HB1.out.size (fun k hk => (HO1.out.lt k hk).1)
  have hcap : n + n ≤ cap := by
    rcases hown.2 with ⟨h1, _⟩ | ⟨g', cap', cur, h1, _, _, h2, _⟩
    · cases h1
    · simp only [Value.slice.injEq] at h1
      omega
  clear hown hgrow HO1 HB1 HN HL
  have j1 : ((n : Int) + (n : Int)) / 2 = (n : Int) := by omega
  have j2 : (n : Int) ≤ (cap : Int) := by omega
  have j3 : ((n + n : Nat) : Int) / 2 = (n : Int) := by omega
  go_wp2_with fail
  refine (turn_is w3.heap.size g (n + n) cap n cap xs xs wb HO.out QL.out hn8).mono ?_
  rintro e wc ⟨rfl, ho5, hg5⟩
  rw [QT.out] at ho5
  have HGB : Hid (w3.heap.size ≤ g) := (ho5.lt g rfl).1
  have HO5 : Hid (wc.ownsRow w3.heap.size 3 1 (.slice (some ⟨g, 0, none⟩) (n + n) cap) (n + n) (I64 (T ++ xs))) := ho5
  have HB5 : Hid (Below w3.heap.size w3 wc) := HB4.out.grown hg5 HB4.out.size (fun k hk => by cases hk; exact HGB.out)
  have HTL : Hid (T.length = n) := by show _ = _; rw [← QT.out, turnS_length, QL.out]
  clear ho5 hg5 HO HB4
  clear j1 j2 j3
  go_wp2
  go_loopw [12] (fun i wr => ∃ k : Nat, k ≤ n ∧ i = .int .i64 k ∧ Hid (wr.ownsRow w3.heap.size 3 1 (.slice (some ⟨g, 0, none⟩) (n + n) cap) (n + n) (I64 (T ++ xs))) ∧ Hid (Below w3.heap.size w3 wr)) (fun i _ => n - (intOf i).toNat)
  case atStart => exact ⟨0, Nat.zero_le _, rfl, HO5, HB5⟩
  case round =>
    obtain ⟨i, hin, rfl, HO, HB⟩ := hrel
    by_cases hlt : i < n
    · obtain ⟨b', ob, rfl, hcs⟩ := (HX3.out.later HB.out).cells (by omega)
      have hc := hcs i hlt
      have hrs := row_same HO.out (i := n + i) (by rw [List.length_append, HTL.out, QL.out]; omega)
      have hrc := HO.out.cellAt (n + i) (by omega)
      rw [show (I64 (T ++ xs))[n + i]? = some (.int .i64 ((T ++ xs).getD (n + i) 0)) from by have := getD_front (xs := T ++ xs) (rest := []) (i := n + i) (by rw [List.length_append, HTL.out, QL.out]; omega); simpa using this] at hrc
      have hfz := HO.out.frozenAt (n + i)
      rw [getD_back HTL.out] at hrs hrc
      obtain ⟨v, hv⟩ : ∃ v, xs.getD i 0 = v := ⟨_, rfl⟩
      rw [hv] at hc hrs hrc
      have HN : Hid ((wr.setCell ⟨g, n + i, none⟩ (.int .i64 v)).ownsRow w3.heap.size 3 1 (.slice (some ⟨g, 0, none⟩) (n + n) cap) (n + n) (I64 (T ++ xs)) ∧ Below w3.heap.size w3 (wr.setCell ⟨g, n + i, none⟩ (.int .i64 v))) := ⟨hrs.1, HB.out.grown hrs.2 HB.out.size (fun k hk => by cases hk; exact HGB.out)⟩
      clear hrs hcs hv HO HB HO5 HB5
      have j1 : (n : Int) + (i : Int) < (n : Int) + (n : Int) := by omega
      have j2 : ((n : Int) + (i : Int)).toNat = n + i := by omega
      have j3 : (0 : Int) ≤ (n : Int) + (i : Int) := by omega
      have j4 : (n : Int) + (i : Int) < ((n + n : Nat) : Int) := by omega
      go_wp2
      go_roundw
      case rel => exact ⟨i + 1, by omega, by go_num, HN.out.1, HN.out.2⟩
      case measure => simp [intOf]; omega
    · obtain rfl : n = i := by omega
      obtain ⟨w4, rfl⟩ : ∃ w4, w4 = wr := ⟨_, rfl⟩
      clear HO5 HB5
      have b3_4 := HB.out
      have HR : Hid (IIn w4 (some ⟨g, 0, none⟩) (n + n) (T ++ xs)) := own_read HO.out
      clear HO HB
      have b1_3 := below_then b1_2 b2_3
      have b1_4 := below_then b1_3 b3_4
      have c0 := (b1_4.cell (p := ⟨w0.heap.size, 0, none⟩) mlt).trans MC0.out
      have c1 := (b1_4.cell (p := ⟨w0.heap.size, 1, none⟩) mlt).trans MC1.out
      go_wp2_with fail
      clear c0 c1
      refine (form_is _ (n + n) cap (T ++ xs) x y F E QF2.out w4 hnn HR.out).mono ?_
      rintro e w5 ⟨qg, dg, rfl, mg⟩
      have b4_5 := mg.below
      go_wp2_with fail
      have b3_5 := below_then b3_4 b4_5
      refine (same_eq qf qg _ df _ dg F w5 (mf.read.later b3_5) mg.read lF).mono ?_
      rintro e w6 ⟨rfl, b5_6⟩
      go_wp2_with fail
      have b0_4 := below_then b0_3 b3_4
      have b0_5 := below_then b0_4 b4_5
      have b0_6 := below_then b0_5 b5_6
      refine (both_x p q n c m d xs ys Z QZ.out w6 (h.later b0_6) (k.later b0_6) hn8 hm8).mono ?_
      rintro e w7 ⟨qz, dz, rfl, mz⟩
      have b6_7 := mz.below
      go_wp2_with fail
      refine (has_x qz _ dz Z b Hz QHz.out w7 mz.read lZ).mono ?_
      rintro e w8 ⟨rfl, b7_8⟩
      go_wp2_with fail
      have b0_7 := below_then b0_6 b6_7
      have b0_8 := below_then b0_7 b7_8
      refine (has_x p n c xs b Hx QHx.out w8 (h.later b0_8) hn8).mono ?_
      rintro e w9 ⟨rfl, b8_9⟩
      cases Hx with
      | false =>
        obtain rfl : Hz = false := by have := QHH.out; simpa using this
        have b7_9 := below_then b7_8 b8_9
        have b0_9 := below_then b0_8 b8_9
        have HZR : Hid (IIn w9 qz Z.length Z) := (mz.read.later b7_9)
        go_wp2
        go_loopw [16] (fun i wr => ∃ k : Nat, 1 ≤ k ∧ (k ≤ Z.length ∨ k = 1) ∧ i = .int .i64 k ∧ ∃ nq, wr = w9.drewN nq) (fun i _ => Z.length - (intOf i).toNat)
        case atStart => exact ⟨1, Nat.le_refl _, .inr rfl, rfl, 0, rfl⟩
        case round =>
          obtain ⟨t, ht1, ht2, rfl, nq, hwr⟩ := hrel
          subst hwr
          by_cases hlt : t < Z.length
          · obtain ⟨t', rfl⟩ : ∃ t', t = t' + 1 := ⟨t - 1, by omega⟩
            obtain ⟨b', ob, rfl, hcs⟩ := HZR.out.cells (by omega)
            have hc1 := hcs t' (by omega)
            have hc2 := hcs (t' + 1) (by omega)
            have hab := QUZ.out t' (by omega)
            obtain ⟨u1, hu1⟩ : ∃ u, Z.getD t' 0 = u := ⟨_, rfl⟩
            obtain ⟨u2, hu2⟩ : ∃ u, Z.getD (t' + 1) 0 = u := ⟨_, rfl⟩
            rw [hu1] at hc1 hab
            rw [hu2] at hc2 hab
            clear hu1 hu2 hcs
            have i1 : (t' : Int) < (Z.length : Int) := by omega
            have i2 : (t' : Int) + 1 < (Z.length : Int) := by omega
            go_wp2
            go_quiet (fail)
            go_wp2
            go_roundw
            case rel => exact ⟨t' + 1 + 1, by omega, .inl (by omega), by go_num, _, rfl⟩
            case measure => simp [intOf]; omega
          · clear ht1 ht2
            have hge : ¬ (t : Int) < (Z.length : Int) := by omega
            have b9_10 : Below w9.heap.size w9 (w9.drewN nq) := below_drawn nq
            by_cases hE : E = 0
            · subst hE
              obtain ⟨hFd, hF3, hIs, hFy⟩ := QE0.out rfl
              have hHF : ∀ v, hasS F v = hasS xs v := fun v => by rw [Bool.eq_iff_iff, hasS_iff, hasS_iff, hFd, mem_diffS]
              have QHF : Hid (∀ v, hasS F v = hasS xs v) := hHF
              have QF3 : Hid (formS F x y = (F, 0)) := hF3
              have QIs : Hid (isS F = true) := hIs
              clear hFd hF3 hIs hHF QE0 QE1
              revert b9_10
              generalize w9.drewN nq = w10
              intro b9_10
              have b1_5 := below_then b1_4 b4_5
              have b1_6 := below_then b1_5 b5_6
              have b1_7 := below_then b1_6 b6_7
              have b1_8 := below_then b1_7 b7_8
              have b1_9 := below_then b1_8 b8_9
              have b1_10 := below_then b1_9 b9_10
              have c0 := (b1_10.cell (p := ⟨w0.heap.size, 0, none⟩) mlt).trans MC0.out
              have c1 := (b1_10.cell (p := ⟨w0.heap.size, 1, none⟩) mlt).trans MC1.out
              go_wp2_with fail
              clear c0 c1
              have b3_6 := below_then b3_5 b5_6
              have b3_7 := below_then b3_6 b6_7
              have b3_8 := below_then b3_7 b7_8
              have b3_9 := below_then b3_8 b8_9
              have b3_10 := below_then b3_9 b9_10
              refine (form_is qf _ df F x y F 0 QF3.out w10 lF (mf.read.later b3_10)).mono ?_
              rintro e w11 ⟨qk, dk, rfl, mk⟩
              have b10_11 := mk.below
              go_wp2_with fail
              have b3_11 := below_then b3_10 b10_11
              refine (same_eq qk qf _ dk _ df F w11 mk.read (mf.read.later b3_11) lF).mono ?_
              rintro e w12 ⟨rfl, b11_12⟩
              go_wp2_with fail
              have b3_12 := below_then b3_11 b11_12
              refine (is_x qf _ df F true QIs.out w12 (mf.read.later b3_12) mf.room.1 lF).mono ?_
              rintro e w13 ⟨rfl, b12_13⟩
              have b1_11 := below_then b1_10 b10_11
              have b1_12 := below_then b1_11 b11_12
              have b1_13 := below_then b1_12 b12_13
              have c0 := (b1_13.cell (p := ⟨w0.heap.size, 0, none⟩) mlt).trans MC0.out
              have c1 := (b1_13.cell (p := ⟨w0.heap.size, 1, none⟩) mlt).trans MC1.out
              have hFy2 : ¬ y < (F.length : Int) := by omega
              go_wp2_with fail
              clear c0 c1 hFy2
              have b3_13 := below_then b3_12 b12_13
              refine (has_x qf _ df F b false (by rw [QHF.out]; exact QHx.out) w13 (mf.read.later b3_13) lF).mono ?_
              rintro e w14 ⟨rfl, b13_14⟩
              go_wp2_with fail
              have b0_10 := below_then b0_9 b9_10
              have b0_11 := below_then b0_10 b10_11
              have b0_12 := below_then b0_11 b11_12
              have b0_13 := below_then b0_12 b12_13
              have b0_14 := below_then b0_13 b13_14
              refine (has_x p n c xs b false QHx.out w14 (h.later b0_14) hn8).mono ?_
              rintro e w15 ⟨rfl, b14_15⟩
              have b3_14 := below_then b3_13 b13_14
              have b3_15 := below_then b3_14 b14_15
              have b0_15 := below_then b0_14 b14_15
              have HFR : Hid (IIn w15 qf F.length F) := (mf.read.later b3_15)
              have HXR : Hid (IIn w15 p n xs) := (h.later b0_15)
              have HBE : Hid (Below w0.heap.size w0 w15) := b0_15
              go_wp2
              go_loop [19] (fun i => ∃ t : Nat, t ≤ n ∧ i = .int .i64 t) (fun i => n - (intOf i).toNat)
              case atStart => exact ⟨0, Nat.zero_le _, rfl⟩
              case round =>
                obtain ⟨t, ht, rfl⟩ := hrel
                by_cases hlt : t < n
                · obtain ⟨b', ob, rfl, hcs⟩ := HXR.out.cells (by omega)
                  have hc := hcs t hlt
                  have hmem : xs.getD t 0 ∈ xs := mem_getD_of (by rw [QL.out]; exact hlt)
                  obtain ⟨v, hv⟩ : ∃ v, xs.getD t 0 = v := ⟨_, rfl⟩
                  rw [hv] at hc hmem
                  have HV : Hid (hasS F v = true) := by show _ = _; rw [QHF.out, hasS_iff]; exact hmem
                  clear hv hcs hmem
                  go_wp2_with fail
                  refine (has_is qf _ df F v _ HFR.out (by omega)).mono ?_
                  rintro e w' ⟨rfl, rfl⟩
                  rw [HV.out]
                  go_wp2
                  go_round
                  case rel => exact ⟨t + 1, by omega, by go_num⟩
                  case measure => simp [intOf]; omega
                · obtain rfl : n = t := by omega
                  go_wp2
                  go_loop [20] (fun i => ∃ t : Nat, t ≤ F.length + 1 ∧ i = .int .i64 t) (fun i => F.length + 1 - (intOf i).toNat)
                  case atStart => exact ⟨0, Nat.zero_le _, rfl⟩
                  case round =>
                    obtain ⟨t, ht2, rfl⟩ := hrel
                    by_cases hlt2 : t < F.length
                    · obtain ⟨b', ob, rfl, hcs⟩ := HFR.out.cells (by omega)
                      have hc := hcs t hlt2
                      have hmem : F.getD t 0 ∈ F := mem_getD_of hlt2
                      have hnx : nextS F t = (F.getD t 0, true) := by unfold nextS; rw [if_pos ⟨by omega, by omega⟩, Int.toNat_natCast]
                      obtain ⟨v, hv⟩ : ∃ v, F.getD t 0 = v := ⟨_, rfl⟩
                      rw [hv] at hc hmem hnx
                      have HV : Hid (hasS xs v = true) := by show _ = _; rw [← QHF.out, hasS_iff]; exact hmem
                      have HNX : Hid (nextS F t = (v, true)) := hnx
                      clear hv hcs hmem hnx
                      have i1 : (t : Int) ≤ (F.length : Int) := by omega
                      have i2 : (t : Int) < (F.length : Int) := by omega
                      go_wp2_with fail
                      refine (next_is _ _ df F t _ HFR.out).mono ?_
                      rintro e w' ⟨rfl, rfl⟩
                      rw [HNX.out]
                      go_wp2_with fail
                      refine (has_is p n c xs v _ HXR.out (by omega)).mono ?_
                      rintro e w' ⟨rfl, rfl⟩
                      rw [HV.out]
                      go_wp2
                      go_round
                      case rel => exact ⟨t + 1, by omega, by go_num⟩
                      case measure => simp [intOf]; omega
                    · by_cases heq : t = F.length
                      · have HNX : Hid (nextS F t = (0, false)) := by show _ = _; unfold nextS; rw [if_neg (by omega)]
                        have i1 : (t : Int) ≤ (F.length : Int) := by omega
                        have i2 : ¬ (t : Int) < (F.length : Int) := by omega
                        clear heq
                        go_wp2_with fail
                        refine (next_is _ _ df F t _ HFR.out).mono ?_
                        rintro e w' ⟨rfl, rfl⟩
                        rw [HNX.out]
                        go_wp2
                        go_round
                        case rel => exact ⟨t + 1, by omega, by go_num⟩
                        case measure => simp [intOf]; omega
                      · have i1 : ¬ (t : Int) ≤ (F.length : Int) := by omega
                        go_wp2
                        go_ret
                        exact ⟨rfl, HBE.out⟩
            · obtain ⟨hFn, hEs⟩ := QE1.out hE
              have HBE : Hid (Below w0.heap.size w0 (w9.drewN nq)) := below_then b0_9 b9_10
              subst hFn
              rcases hEs with rfl | rfl | rfl | rfl
              all_goals (go_wp2; go_ret; exact ⟨rfl, HBE.out⟩)
      | true =>
        obtain rfl : Hz = Hy := by have := QHH.out; simpa using this
        go_wp2_with fail
        have b0_9 := below_then b0_8 b8_9
        refine (has_x q m d ys b Hz QHy.out w9 (k.later b0_9) hm8).mono ?_
        rintro e w10 ⟨rfl, b9_10⟩
        have b7_9 := below_then b7_8 b8_9
        have b7_10 := below_then b7_9 b9_10
        have b0_10 := below_then b0_9 b9_10
        have HZR : Hid (IIn w10 qz Z.length Z) := (mz.read.later b7_10)
        go_wp2
        go_loopw [16] (fun i wr => ∃ k : Nat, 1 ≤ k ∧ (k ≤ Z.length ∨ k = 1) ∧ i = .int .i64 k ∧ ∃ nq, wr = w10.drewN nq) (fun i _ => Z.length - (intOf i).toNat)
        case atStart => exact ⟨1, Nat.le_refl _, .inr rfl, rfl, 0, rfl⟩
        case round =>
          obtain ⟨t, ht1, ht2, rfl, nq, hwr⟩ := hrel
          subst hwr
          by_cases hlt : t < Z.length
          · obtain ⟨t', rfl⟩ : ∃ t', t = t' + 1 := ⟨t - 1, by omega⟩
            obtain ⟨b', ob, rfl, hcs⟩ := HZR.out.cells (by omega)
            have hc1 := hcs t' (by omega)
            have hc2 := hcs (t' + 1) (by omega)
            have hab := QUZ.out t' (by omega)
            obtain ⟨u1, hu1⟩ : ∃ u, Z.getD t' 0 = u := ⟨_, rfl⟩
            obtain ⟨u2, hu2⟩ : ∃ u, Z.getD (t' + 1) 0 = u := ⟨_, rfl⟩
            rw [hu1] at hc1 hab
            rw [hu2] at hc2 hab
            clear hu1 hu2 hcs
            have i1 : (t' : Int) < (Z.length : Int) := by omega
            have i2 : (t' : Int) + 1 < (Z.length : Int) := by omega
            go_wp2
            go_quiet (fail)
            go_wp2
            go_roundw
            case rel => exact ⟨t' + 1 + 1, by omega, .inl (by omega), by go_num, _, rfl⟩
            case measure => simp [intOf]; omega
          · clear ht1 ht2
            have hge : ¬ (t : Int) < (Z.length : Int) := by omega
            have b10_11 : Below w10.heap.size w10 (w10.drewN nq) := below_drawn nq
            by_cases hE : E = 0
            · subst hE
              obtain ⟨hFd, hF3, hIs, hFy⟩ := QE0.out rfl
              have hHF : ∀ v, hasS F v = hasS xs v := fun v => by rw [Bool.eq_iff_iff, hasS_iff, hasS_iff, hFd, mem_diffS]
              have QHF : Hid (∀ v, hasS F v = hasS xs v) := hHF
              have QF3 : Hid (formS F x y = (F, 0)) := hF3
              have QIs : Hid (isS F = true) := hIs
              clear hFd hF3 hIs hHF QE0 QE1
              revert b10_11
              generalize w10.drewN nq = w11
              intro b10_11
              have b1_5 := below_then b1_4 b4_5
              have b1_6 := below_then b1_5 b5_6
              have b1_7 := below_then b1_6 b6_7
              have b1_8 := below_then b1_7 b7_8
              have b1_9 := below_then b1_8 b8_9
              have b1_10 := below_then b1_9 b9_10
              have b1_11 := below_then b1_10 b10_11
              have c0 := (b1_11.cell (p := ⟨w0.heap.size, 0, none⟩) mlt).trans MC0.out
              have c1 := (b1_11.cell (p := ⟨w0.heap.size, 1, none⟩) mlt).trans MC1.out
              go_wp2_with fail
              clear c0 c1
              have b3_6 := below_then b3_5 b5_6
              have b3_7 := below_then b3_6 b6_7
              have b3_8 := below_then b3_7 b7_8
              have b3_9 := below_then b3_8 b8_9
              have b3_10 := below_then b3_9 b9_10
              have b3_11 := below_then b3_10 b10_11
              refine (form_is qf _ df F x y F 0 QF3.out w11 lF (mf.read.later b3_11)).mono ?_
              rintro e w12 ⟨qk, dk, rfl, mk⟩
              have b11_12 := mk.below
              go_wp2_with fail
              have b3_12 := below_then b3_11 b11_12
              refine (same_eq qk qf _ dk _ df F w12 mk.read (mf.read.later b3_12) lF).mono ?_
              rintro e w13 ⟨rfl, b12_13⟩
              go_wp2_with fail
              have b3_13 := below_then b3_12 b12_13
              refine (is_x qf _ df F true QIs.out w13 (mf.read.later b3_13) mf.room.1 lF).mono ?_
              rintro e w14 ⟨rfl, b13_14⟩
              have b1_12 := below_then b1_11 b11_12
              have b1_13 := below_then b1_12 b12_13
              have b1_14 := below_then b1_13 b13_14
              have c0 := (b1_14.cell (p := ⟨w0.heap.size, 0, none⟩) mlt).trans MC0.out
              have c1 := (b1_14.cell (p := ⟨w0.heap.size, 1, none⟩) mlt).trans MC1.out
              have hFy2 : ¬ y < (F.length : Int) := by omega
              go_wp2_with fail
              clear c0 c1 hFy2
              have b3_14 := below_then b3_13 b13_14
              refine (has_x qf _ df F b true (by rw [QHF.out]; exact QHx.out) w14 (mf.read.later b3_14) lF).mono ?_
              rintro e w15 ⟨rfl, b14_15⟩
              go_wp2_with fail
              have b0_11 := below_then b0_10 b10_11
              have b0_12 := below_then b0_11 b11_12
              have b0_13 := below_then b0_12 b12_13
              have b0_14 := below_then b0_13 b13_14
              have b0_15 := below_then b0_14 b14_15
              refine (has_x p n c xs b true QHx.out w15 (h.later b0_15) hn8).mono ?_
              rintro e w16 ⟨rfl, b15_16⟩
              have b3_15 := below_then b3_14 b14_15
              have b3_16 := below_then b3_15 b15_16
              have b0_16 := below_then b0_15 b15_16
              have HFR : Hid (IIn w16 qf F.length F) := (mf.read.later b3_16)
              have HXR : Hid (IIn w16 p n xs) := (h.later b0_16)
              have HBE : Hid (Below w0.heap.size w0 w16) := b0_16
              go_wp2
              go_loop [19] (fun i => ∃ t : Nat, t ≤ n ∧ i = .int .i64 t) (fun i => n - (intOf i).toNat)
              case atStart => exact ⟨0, Nat.zero_le _, rfl⟩
              case round =>
                obtain ⟨t, ht, rfl⟩ := hrel
                by_cases hlt : t < n
                · obtain ⟨b', ob, rfl, hcs⟩ := HXR.out.cells (by omega)
                  have hc := hcs t hlt
                  have hmem : xs.getD t 0 ∈ xs := mem_getD_of (by rw [QL.out]; exact hlt)
                  obtain ⟨v, hv⟩ : ∃ v, xs.getD t 0 = v := ⟨_, rfl⟩
                  rw [hv] at hc hmem
                  have HV : Hid (hasS F v = true) := by show _ = _; rw [QHF.out, hasS_iff]; exact hmem
                  clear hv hcs hmem
                  go_wp2_with fail
                  refine (has_is qf _ df F v _ HFR.out (by omega)).mono ?_
                  rintro e w' ⟨rfl, rfl⟩
                  rw [HV.out]
                  go_wp2
                  go_round
                  case rel => exact ⟨t + 1, by omega, by go_num⟩
                  case measure => simp [intOf]; omega
                · obtain rfl : n = t := by omega
                  go_wp2
                  go_loop [20] (fun i => ∃ t : Nat, t ≤ F.length + 1 ∧ i = .int .i64 t) (fun i => F.length + 1 - (intOf i).toNat)
                  case atStart => exact ⟨0, Nat.zero_le _, rfl⟩
                  case round =>
                    obtain ⟨t, ht2, rfl⟩ := hrel
                    by_cases hlt2 : t < F.length
                    · obtain ⟨b', ob, rfl, hcs⟩ := HFR.out.cells (by omega)
                      have hc := hcs t hlt2
                      have hmem : F.getD t 0 ∈ F := mem_getD_of hlt2
                      have hnx : nextS F t = (F.getD t 0, true) := by unfold nextS; rw [if_pos ⟨by omega, by omega⟩, Int.toNat_natCast]
                      obtain ⟨v, hv⟩ : ∃ v, F.getD t 0 = v := ⟨_, rfl⟩
                      rw [hv] at hc hmem hnx
                      have HV : Hid (hasS xs v = true) := by show _ = _; rw [← QHF.out, hasS_iff]; exact hmem
                      have HNX : Hid (nextS F t = (v, true)) := hnx
                      clear hv hcs hmem hnx
                      have i1 : (t : Int) ≤ (F.length : Int) := by omega
                      have i2 : (t : Int) < (F.length : Int) := by omega
                      go_wp2_with fail
                      refine (next_is _ _ df F t _ HFR.out).mono ?_
                      rintro e w' ⟨rfl, rfl⟩
                      rw [HNX.out]
                      go_wp2_with fail
                      refine (has_is p n c xs v _ HXR.out (by omega)).mono ?_
                      rintro e w' ⟨rfl, rfl⟩
                      rw [HV.out]
                      go_wp2
                      go_round
                      case rel => exact ⟨t + 1, by omega, by go_num⟩
                      case measure => simp [intOf]; omega
                    · by_cases heq : t = F.length
                      · have HNX : Hid (nextS F t = (0, false)) := by show _ = _; unfold nextS; rw [if_neg (by omega)]
                        have i1 : (t : Int) ≤ (F.length : Int) := by omega
                        have i2 : ¬ (t : Int) < (F.length : Int) := by omega
                        clear heq
                        go_wp2_with fail
                        refine (next_is _ _ df F t _ HFR.out).mono ?_
                        rintro e w' ⟨rfl, rfl⟩
                        rw [HNX.out]
                        go_wp2
                        go_round
                        case rel => exact ⟨t + 1, by omega, by go_num⟩
                        case measure => simp [intOf]; omega
                      · have i1 : ¬ (t : Int) ≤ (F.length : Int) := by omega
                        go_wp2
                        go_ret
                        exact ⟨rfl, HBE.out⟩
            · obtain ⟨hFn, hEs⟩ := QE1.out hE
              have HBE : Hid (Below w0.heap.size w0 (w10.drewN nq)) := below_then b0_10 b10_11
              subst hFn
              rcases hEs with rfl | rfl | rfl | rfl
              all_goals (go_wp2; go_ret; exact ⟨rfl, HBE.out⟩)

end Go.Proofs.Ytcmcifihhlfnbaa
