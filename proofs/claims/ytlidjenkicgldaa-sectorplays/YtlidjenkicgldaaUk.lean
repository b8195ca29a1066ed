/-
  Layer 4: plays: Crash.
-/
import Derived.Test.YtlidjenkicgldaaUc
import Derived.BigQuiet
namespace Go.Proofs.Ytlidjenkicgldaa
open Go.RowKit

theorem IIn.kept0 {w w' : World} {S : Nat → Prop} {p : Option Addr} {n : Nat} {xs : List Int} (h : IIn w p n xs) (hk : Kept S w w') (hs : ∀ a, p = some a → 0 < n → ¬ S a.block) : IIn w' p n xs := by
  by_cases h0 : 0 < n
  · exact h.kept hk (fun a ea => hs a ea h0)
  · exact ⟨h.len, fun c => absurd c h0⟩
theorem I64_length (xs : List Int) : (I64 xs).length = xs.length := by simp
theorem one_two : ∀ u ∈ [Value.int .i64 (-7), Value.int .i64 (-7)], u.oneCell' = true := by simp [Value.oneCell']
theorem two_new (w : World) : ∀ j u, [Value.int .i64 (-7), Value.int .i64 (-7)][j]? = some u → (w.alloc (.cells #[.int .i64 (-7), .int .i64 (-7)] 3)).cell? ((⟨w.heap.size, 0, none⟩ : Addr).add j) = some u := fun j u hu => by
  have e := new_range w [.int .i64 (-7), .int .i64 (-7)] 3 j u hu
  rw [Addr.add_mid]
  exact e
theorem two_later {w w' : World} {g : Nat} (h : ∀ j u, [Value.int .i64 (-7), Value.int .i64 (-7)][j]? = some u → w.cell? ((⟨g, 0, none⟩ : Addr).add j) = some u) (e : w'.heap[g]? = w.heap[g]?) : ∀ j u, [Value.int .i64 (-7), Value.int .i64 (-7)][j]? = some u → w'.cell? ((⟨g, 0, none⟩ : Addr).add j) = some u := fun j u hu => by
  have := h j u hu
  rw [Addr.add_mid] at this ⊢
  exact (World.cell?_of_block (w := w) (a := ⟨g, 0 + j, none⟩) e).trans this
theorem ints_head {w : World} {base g n c : Nat} {xs : List Int} {ys : List Value} (h : w.ownsRow base 3 1 (.slice (some ⟨g, 0, none⟩) (n + 2) c) (n + 2) (I64 xs ++ ys)) (hl : xs.length = n) : IIn w (some ⟨g, 0, none⟩) n xs := by
  refine ⟨hl, fun _ => ⟨g, 0, rfl, fun i hi => ?_⟩⟩
  refine own_range_part (ys := I64 xs) (o := 0) h (fun j v hv => ?_) i _ ?_
  · rw [Nat.zero_add, List.getElem?_append_left (by have := (List.getElem?_eq_some_iff.1 hv).1; exact this)]; exact hv
  · simp [I64, List.getD, List.getElem?_eq_getElem (show i < xs.length by omega)]
theorem ints_at {w : World} {base g n c k : Nat} {xs : List Int} {ys : List Value} (h : w.ownsRow base 3 1 (.slice (some ⟨g, 0, none⟩) (n + 2) c) (n + 2) (I64 xs ++ ys)) (hl : xs.length = n) (hk : k < n) : w.cell? ⟨g, k, none⟩ = some (.int .i64 (xs.getD k 0)) := by
  obtain ⟨b, o, e, hc⟩ := (ints_head h hl).cells (by omega)
  simp only [Option.some.injEq, Addr.mk.injEq, and_true] at e
  obtain ⟨rfl, rfl⟩ := e
  have := hc k hk
  rwa [Nat.zero_add] at this
theorem ints_tail {w : World} {base g n c : Nat} {xs : List Int} (h : w.ownsRow base 3 1 (.slice (some ⟨g, 0, none⟩) (n + 2) c) (n + 2) (I64 xs ++ [.int .i64 (-7), .int .i64 (-7)])) (hl : xs.length = n) (k : Nat) (hk : k < 2) : w.cell? ⟨g, n + k, none⟩ = some (.int .i64 (-7)) := by
  have := own_range_part (ys := [.int .i64 (-7)]) (o := n + k) h (fun j v hv => ?_) 0 (.int .i64 (-7)) rfl
  · simpa using this
  · have hj : j = 0 := by have := (List.getElem?_eq_some_iff.1 hv).1; simpa using this
    subst hj
    simp at hv
    subst hv
    rw [List.getElem?_append_right (by rw [I64_length]; omega), I64_length, hl]
    rcases (show k = 0 ∨ k = 1 by omega) with rfl | rfl
    · simp
    · simp

theorem step_append_ownany {P : Program} {w : World} {ops : Array Oper} {o : Oper} {a : Act} {K : Act → World → Prop} {Q : Exit → Act → World → Prop} {E : Prop} (hgd : o.guard = none) (s x : Operand) (t : TypeId)
    (ho : o.op = .call { callee := .builtin .append, args := #[s, x], argTypes := #[t, t] })
    (base : Nat) (e : TypeId) (i : TypeInfo) (z : Value) (size bytes : Nat) (ht : P.underlying t = some (.slice e)) (hi : P.info? e = some i) (hz : i.zero = some z)
    (hsize : i.size = size) (hby : i.bytes = bytes) (hzs : z.cells.size = size) (hsz : 0 < size)
    (v : Value) (n : Nat) (xs : List Value) (hs : a.eval s = v) (hown : w.ownsRow base e size v n xs)
    (ao : Option Addr) (m c : Nat) (news : List Value) (hx : a.eval x = .slice ao m c) (hnone : ao = none → m = 0 ∧ c = 0) (hl : news.length = m * size) (hnews : ∀ ad, ao = some ad → ∀ j u, news[j]? = some u → w.cell? (ad.add j) = some u) (h1 : ∀ u ∈ news, u.oneCell' = true)
    (h63 : n + m ≤ maxLen) (hbytes : (n + m) * bytes ≤ 140737488355328) (hbase : base ≤ w.heap.size)
    (h : ∀ v' w', w'.ownsRow base e size v' (n + m) (xs ++ news) → w.grownBy w' v.ownBlock → K (a.put o.dst v') w') :
    if Region.wanted o (yielded ops a.tmps) = true then Oper.wp P o a w K Q else E := by
  cases ao with
  | some ad => exact step_append_own hgd s x t ho base e i z size bytes ht hi hz hsize hby hzs hsz v n xs hs hown ad m c news hx hl (hnews ad rfl) h1 h63 hbytes hbase h
  | none =>
    obtain ⟨rfl, rfl⟩ := hnone rfl
    obtain rfl : news = [] := List.eq_nil_of_length_eq_zero (by simpa using hl)
    have hw : Region.wanted o (yielded ops a.tmps) = true := by simp [Region.wanted, hgd]
    rw [if_pos hw]
    have hrun := run_append_owned_none (P := P) (w := w) base t o.type e i size ht hi v n xs hown
    unfold Oper.wp
    simp [execOp, ho, resolve, invoke, builtin, hs, hx, hrun, Result.andThen]
    exact h v w (by simpa using hown) (World.grownBy.refl _ _)

set_option maxRecDepth 100000 in
set_option maxHeartbeats 8000000 in
theorem plays_crash {w : World} {B P n K : Nat} (h : St w B P n K) (hK : K ≤ 100) (W N : Int) (pd pk : Option Addr) (ld cd lk ck : Nat) (xs : List Int) (hxs : IIn w pk lk xs) (hkB : ∀ a, pk = some a → 0 < lk → a.block < B) (hpk : pk = none → ck = 0) (hlk : lk ≤ ck) (hbig : lk ≤ 17592186043904) :
    Calls Try.prog 26 #[.pointer (some ⟨P, 0, none⟩), .agg #[.int .i64 4, .int .i64 W, .int .i64 N, .slice pd ld cd, .slice pk lk ck]] w fun e0 w' => e0 = .returned (.bool true) ∧ St w' B P n (K + 1) ∧ Below B w w' := by
  obtain ⟨i3, hi3, hz30, hz31, hz32⟩ := info_parts info3
  obtain ⟨R, x, y, e, u, m, hp, hu, hm, hB⟩ := h
  have t2 := tmod2 W
  have e2 := sl2_is W
  have l2 := sl2_lt W
  go_enter Try.func26, Try.ntmps26
  go_wp2
  rw [e2]
  have HH0 : Hid (Pr w R B P x y n e u e u m) := hp
  have HBx : Hid (Below w.heap.size w (w.alloc (.cells #[.int .i64 4, .int .i64 W, .int .i64 N, .slice pd ld cd, .slice pk lk ck] 61)) ∧ (w.alloc (.cells #[.int .i64 4, .int .i64 W, .int .i64 N, .slice pd ld cd, .slice pk lk ck] 61)).heap[w.heap.size]? = some (.cells #[.int .i64 4, .int .i64 W, .int .i64 N, .slice pd ld cd, .slice pk lk ck] 61 (0, 0))) := ⟨below_alloc w _, heap_alloc_new w _⟩
  have HZ : Hid (R w.heap.size = 0) := hp.hi _ (Nat.le_refl _)
  clear hp t2 e2
  revert HBx l2
  generalize sl2 W = i
  generalize w.alloc (.cells #[.int .i64 4, .int .i64 W, .int .i64 N, .slice pd ld cd, .slice pk lk ck] 61) = w1
  intro l2 HBx
  have HH1 : Hid (Pr w1 R B P x y n e u e u m) := HH0.out.later HBx.out.1
  have HBo : Hid (Box w1 w.heap.size 4 W N (.slice pd ld cd) (.slice pk lk ck)) := HBx.out.2
  have s1 := HBx.out.1.size
  have HB1 : Hid (Below w.heap.size w w1) := HBx.out.1
  have hul : (u i).length ≤ 100 := by have := hu i l2; omega
  clear HBx HH0
  have c0 := HH1.out.cx i l2
  have c1 := HH1.out.cy i l2
  have d0 : w1.drew.cell? ⟨P, i, none⟩ = some (.pointer (some ⟨x i, 0, none⟩)) := c0
  have d1 : w1.drew.cell? ⟨P, 2 + i, none⟩ = some (.pointer (some ⟨y i, 0, none⟩)) := c1
  go_quiet (fail)
  have HH : Hid (Pr (w1.drewN nq) R B P x y n e u e u m) := HH1.out.later (below_drawn nq)
  have HX : Hid (Box (w1.drewN nq) w.heap.size 4 W N (.slice pd ld cd) (.slice pk lk ck)) := HBo.out.later (below_drawn nq)
  have HB2 : Hid (Below w.heap.size w (w1.drewN nq)) := below_then HB1.out (below_drawn nq)
  have hs2 : w.heap.size ≤ (w1.drewN nq).heap.size := s1
  clear c0 c1 d0 d1 HH1 HBo HB1 s1
  revert HH HX HB2 hs2
  generalize w1.drewN nq = w2
  intro HH HX HB2 hs2
  have hB2 : B ≤ w2.heap.size := by omega
  obtain ⟨b0, b1, b2, b3, b4⟩ := HX.out.at
  clear b1 b2 b3
  have HK2 : Hid (IIn w2 pk lk xs) := hxs.later HB2.out
  have pkn : pk = none → lk = 0 ∧ ck = 0 := fun hh => by have := hpk hh; omega
  clear hxs
  go_wp2
  refine wp_region_noPanic ?_
  refine wp_region_held_drew (S := fun w' => w'.cell? ⟨w.heap.size, 4, none⟩ = some (.slice pk lk ck)) (by kernel_rfl) b4 (fun hHeld => ?_)
  refine wpAnyH_take (i := 1) (v := ?v1p) (by simp; rfl) (by kernel_rfl) (by kernel_rfl) (by kernel_rfl) (fun _ _ _ h => h) (Or.inl ⟨by rfl, ?y1p⟩) hHeld ?r1p
  case y1p => intro w hSw; clear hSw; go_simp; with_reducible rfl
  simp only [Act.put, List.setIfInBounds_toArray, List.set_cons_zero, List.set_cons_succ]
  refine wpAnyH_take (i := 2) (v := ?v2p) (by simp; rfl) (by kernel_rfl) (by kernel_rfl) (by kernel_rfl) (fun _ _ _ h => h) (Or.inl ⟨by rfl, ?y2p⟩) hHeld ?r2p
  case y2p => intro w hSw; go_simp; with_reducible rfl
  simp only [Act.put, List.setIfInBounds_toArray, List.set_cons_zero, List.set_cons_succ]
  refine wpAnyH_take (i := 6) (v := ?v6p) (by simp; rfl) (by kernel_rfl) (by kernel_rfl) (by kernel_rfl) (fun _ _ _ h => h) (Or.inl ⟨by rfl, ?y6p⟩) hHeld ?r6p
  case y6p => intro w hSw; clear hSw; go_simp; with_reducible rfl
  simp only [Act.put, List.setIfInBounds_toArray, List.set_cons_zero, List.set_cons_succ]
  refine wpAnyH_take (i := 7) (v := ?v7p) (by simp; rfl) (by kernel_rfl) (by kernel_rfl) (by kernel_rfl) (fun _ _ _ h => h) (Or.inl ⟨by rfl, ?y7p⟩) hHeld ?r7p
  case y7p => intro w hSw; go_simp; with_reducible rfl
  simp only [Act.put, List.setIfInBounds_toArray, List.set_cons_zero, List.set_cons_succ]
  refine wpAnyH_take (i := 8) (v := ?v8p) (by simp; rfl) (by kernel_rfl) (by kernel_rfl) (by kernel_rfl) (fun _ _ _ h => h) (Or.inl ⟨by rfl, ?y8p⟩) hHeld ?r8p
  case y8p => intro w hSw; clear hSw; go_simp; with_reducible rfl
  simp only [Act.put, List.setIfInBounds_toArray, List.set_cons_zero, List.set_cons_succ]
  have sF : ∀ W, Below w2.heap.size w2 W → W.cell? ⟨w.heap.size, 4, none⟩ = some (.slice pk lk ck) := fun W hb => (hb.cell (p := ⟨w.heap.size, 4, none⟩) (World.block_lt_of_cell? w2 _ b4)).trans b4
  have bw : Below w2.heap.size w2 w2.drew := ⟨rfl, rfl, rfl, Nat.le_refl _, fun _ _ => rfl⟩
  clear b0 b4
  refine wpAnyH_ready (rs := [0, 4]) (by kernel_rfl) (by simp) ?_
  refine AllReadyH.cons (by simp; rfl) (fun Kc hKc => ?_) (AllReadyH.cons (by simp; rfl) (fun Kc hKc => ?_) AllReadyH.nil)
  · go_simp
    have b0 : Below w2.heap.size w2 (w2.drew.alloc (.cells #[] 3)) := bw.alloc bw.size _
    have o0 : (w2.drew.alloc (.cells #[] 3)).ownsRow w2.heap.size 3 1 (.slice (some ⟨w2.heap.size, 0, none⟩) 0 0) 0 [] := World.ownsRow_made w2.drew #[] 0 (Nat.le_refl _) (Nat.zero_le _) rfl
    refine hKc.out _ _ (sF _ b0) (fun hHeld => ?_)
    clear hKc Kc
    refine wpAnyH_ready (rs := [3, 4]) (by kernel_rfl) (by simp) ?_
    refine AllReadyH.cons (by simp; rfl) (fun Kc hKc => ?_) (AllReadyH.cons (by simp; rfl) (fun Kc hKc => ?_) AllReadyH.nil)
    · refine step_append_ownany rfl (.tmp 180) (.tmp 182) 36 rfl w2.heap.size 3 i3 (.int .i64 0) 1 8 Try.underlying36 hi3 hz30 hz31 hz32 rfl (by omega) (.slice (some ⟨w2.heap.size, 0, none⟩) 0 0) 0 [] rfl o0 pk lk ck (I64 xs) rfl pkn (by rw [I64_length, HK2.out.len]; omega) (fun ad ea => by subst ea; exact (HK2.out.later b0).news) (ones_i64 _) (by unfold maxLen; omega) (by omega) b0.size ?_
      intro v3 w3 hown3 hgrow3
      simp only [Nat.zero_add, List.nil_append] at hown3
      have b3 : Below w2.heap.size w2 w3 := b0.grown hgrow3 b0.size (fun k hk => (o0.lt k hk).1)
      refine hKc.out _ _ (sF _ b3) (fun hHeld => ?_)
      clear hKc Kc
      refine wpAnyH_ready (rs := [4]) (by kernel_rfl) (by simp) ?_
      refine AllReadyH.cons (by simp; rfl) (fun Kc hKc => ?_) AllReadyH.nil
      go_simp
      have b4 : Below w2.heap.size w2 (w3.alloc (.cells #[.int .i64 (-7), .int .i64 (-7)] 3)) := b3.alloc b3.size _
      refine hKc.out _ _ (sF _ b4) (fun hHeld => ?_)
      clear hKc Kc
      refine wpAnyH_ready (rs := [5]) (by kernel_rfl) (by simp) ?_
      refine AllReadyH.cons (by simp; rfl) (fun Kc hKc => ?_) AllReadyH.nil
      refine step_append_lies _ rfl (.tmp 183) (.tmp 184) 36 rfl w2.heap.size 3 i3 (.int .i64 0) 1 8 Try.underlying36 hi3 hz30 hz31 hz32 rfl (by omega) v3 lk (I64 xs) rfl (hown3.alloc _) ⟨w3.heap.size, 0, none⟩ 2 2 [.int .i64 (-7), .int .i64 (-7)] rfl rfl (two_new w3) one_two (by omega) (by unfold maxLen; omega) (by omega) b4.size _ rfl ?_
      intro g5 c5 w5 hown5 hgrow5 hat5 hlt5
      have HW : Hid (w5.ownsRow w2.heap.size 3 1 (.slice (some ⟨g5, 0, none⟩) (lk + 2) c5) (lk + 2) (I64 xs ++ [.int .i64 (-7), .int .i64 (-7)]) ∧ Below w2.heap.size w2 w5) := ⟨hown5, b4.grown hgrow5 b4.size (fun k hk => (hown3.lt k hk).1)⟩
      refine hKc.out _ _ (sF _ HW.out.2) (fun hHeld => ?_)
      clear hKc Kc hown5 hgrow5 hat5 hlt5
      obtain ⟨_, hlc5, _, hg5⟩ := own_blk HW.out.1
      have hlI : (lk : Int) ≤ (c5 : Int) := by omega
      simp only [Act.put, List.setIfInBounds_toArray, List.set_cons_zero, List.set_cons_succ]
      clear b0 o0 b3 b4 hown3 hgrow3
      refine wpAnyH_take (i := 9) (v := ?v9a) (by simp; rfl) (by kernel_rfl) (by kernel_rfl) (by kernel_rfl) (fun _ _ _ h => h) (Or.inl ⟨by rfl, ?y9a⟩) hHeld ?r9a
      case y9a => intro w hSw; clear hSw; go_simp; with_reducible rfl
      simp only [Act.put, List.setIfInBounds_toArray, List.set_cons_zero, List.set_cons_succ]
      refine wpAnyH_take (i := 10) (v := ?v10a) (by simp; rfl) (by kernel_rfl) (by kernel_rfl) (by kernel_rfl) (fun _ _ _ h => h) (Or.inl ⟨by rfl, ?y10a⟩) hHeld ?r10a
      case y10a => intro w hSw; clear hSw; go_simp; with_reducible rfl
      simp only [Act.put, List.setIfInBounds_toArray, List.set_cons_zero, List.set_cons_succ]
      refine wpAnyH_done (by kernel_rfl) (NoPanic.normal ?_) _
      clear hHeld
      have hs5 := HW.out.2.size
      have HI5 : Hid (IIn w5 (some ⟨g5, 0, none⟩) lk xs) := ints_head HW.out.1 HK2.out.len
      go_wp2_with fail
      refine (crash_any ((HH.out.dsk i l2).later HW.out.2) (by omega) (some ⟨g5, 0, none⟩) lk c5 xs HI5.out (by omega)).mono ?_
      rintro e1 w6 ⟨rfl, hd6, hk6⟩
      have hP6 := (HH.out.later HW.out.2).setD l2 hk6 (hd6.mono (fun k _ hs => .inl hs)) (by omega)
      have hs6 := hk6.size
      have ns : ∀ k, R k = 0 → ¬ (R k = 1 + i) := fun k hk => by omega
      have hg5l : g5 < w5.heap.size := (own_blk HW.out.1).1.lt
      have hR5 : R g5 = 0 := HH.out.hi g5 hg5
      have HO6 : Hid (w6.ownsRow w2.heap.size 3 1 (.slice (some ⟨g5, 0, none⟩) (lk + 2) c5) (lk + 2) (I64 xs ++ [.int .i64 (-7), .int .i64 (-7)])) := own_same HW.out.1 (fun k hk => hk6.block k (own_lt HW.out.1 hk) (by simp only [Value.ownBlock, Option.some.injEq] at hk; rw [← hk]; exact ns _ hR5))
      have HX6 : Hid (Box w6 w.heap.size 4 W N (.slice pd ld cd) (.slice pk lk ck)) := (HX.out.later HW.out.2).same (hk6.block _ (HX.out.later HW.out.2).lt (ns _ HZ.out))
      have HK6 : Hid (IIn w6 pk lk xs) := IIn.kept0 (HK2.out.later HW.out.2) hk6 (fun a ea h0 => ns _ (HH.out.lo _ (hkB a ea h0)))
      have HB6 : Hid (Below B w2 w6) := (HW.out.2.mono hB2).trans ((HH.out.later HW.out.2).kb (by omega) (by omega) hk6)
      have HP6 : Hid (Pr w6 (up R w5.heap.size w6.heap.size (1 + i)) B P x y n (at2 e i (settle (keepsK xs) (u i) (e i))) (at2 u i []) e u m) := hP6
      have HR6 : Hid (up R w5.heap.size w6.heap.size (1 + i) g5 = 0 ∧ up R w5.heap.size w6.heap.size (1 + i) w.heap.size = 0) := ⟨(up_lo hg5l).trans hR5, (up_lo (by have := HX.out.lt; omega)).trans HZ.out⟩
      clear hd6 hk6 hP6 ns HW HI5 HX HK2 hR5
      generalize up R w5.heap.size w6.heap.size (1 + i) = R6 at HP6 HR6
      obtain ⟨b0, b1, b2, b3, b4⟩ := HX6.out.at
      clear b0 b1 b2 b3
      go_wp2_with fail
      refine (rcrash_any (HP6.out.ref i l2) (by omega) pk lk ck xs HK6.out (fun a ea h0 => by rw [HP6.out.lo _ (hkB a ea h0)]; omega) (by omega)).mono ?_
      rintro e1 w7 ⟨rfl, hd7, hk7⟩
      have hP7 := HP6.out.setR l2 hk7 (hd7.mono (fun k _ hs => .inl hs)) (by omega)
      have hs7 := hk7.size
      have ns : ∀ k, R6 k = 0 → ¬ (R6 k = 3 + i) := fun k hk => by omega
      have HO7 : Hid (w7.ownsRow w2.heap.size 3 1 (.slice (some ⟨g5, 0, none⟩) (lk + 2) c5) (lk + 2) (I64 xs ++ [.int .i64 (-7), .int .i64 (-7)])) := own_same HO6.out (fun k hk => hk7.block k (own_lt HO6.out hk) (by simp only [Value.ownBlock, Option.some.injEq] at hk; rw [← hk]; exact ns _ HR6.out.1))
      have HX7 : Hid (Box w7 w.heap.size 4 W N (.slice pd ld cd) (.slice pk lk ck)) := HX6.out.same (hk7.block _ HX6.out.lt (ns _ HR6.out.2))
      have HK7 : Hid (IIn w7 pk lk xs) := IIn.kept0 HK6.out hk7 (fun a ea h0 => ns _ (HP6.out.lo _ (hkB a ea h0)))
      have HB7 : Hid (Below B w2 w7) := HB6.out.trans (HP6.out.kb (by omega) (by omega) hk7)
      have HP7 : Hid (∃ R7, Pr w7 R7 B P x y n (at2 e i (settle (keepsK xs) (u i) (e i))) (at2 u i []) (at2 e i (settle (keepsK xs) (u i) (e i))) (at2 u i []) m) := ⟨_, hP7⟩
      clear hd7 hk7 hP7 ns HO6 HX6 HK6 HB6 HP6 HR6 b4
      have hl2I : (lk : Int) + 2 ≤ (c5 : Int) := by omega
      obtain ⟨b0, b1, b2, b3, b4⟩ := HX7.out.at
      clear b0 b1 b2 b3
      go_wp2
      clear b4
      go_loopw [26, 214] (fun o v wr => ∃ k : Nat, k ≤ lk ∧ v = .int .i64 k ∧ o = .bool true ∧ Hid (Below w7.heap.size w7 wr)) (fun _ v _ => lk - (intOf v).toNat)
      case atStart => exact ⟨0, Nat.zero_le _, rfl, rfl, Below.refl _ _⟩
      case round =>
        obtain ⟨k, hk, rfl, rfl, HR⟩ := hrel
        obtain ⟨b0, b1, b2, b3, b4⟩ := (HX7.out.later HR.out).at
        clear b0 b1 b2 b3
        by_cases hlt : k < lk
        · obtain ⟨gb, ob, rfl, hcb⟩ := (HK7.out.later HR.out).cells (by omega)
          have f1 := hcb k hlt
          have f2 : wr.cell? ⟨g5, k, none⟩ = some (.int .i64 (xs.getD k 0)) := ints_at (own_later HO7.out HR.out) HK7.out.len hlt
          clear hcb
          go_wp2
          go_quiet (fail)
          have HN : Hid (Below w7.heap.size w7 (wr.drewN nq)) := HR.out.trans (below_drawn nq)
          clear f1 f2 b4 HR
          go_wp2
          go_roundw
          case rel => exact ⟨k + 1, by omega, by go_num, rfl, HN.out⟩
          case measure => simp [intOf]; omega
        · have f1 : wr.cell? ⟨g5, lk, none⟩ = some (.int .i64 (-7)) := ints_tail (own_later HO7.out HR.out) HK7.out.len 0 (by omega)
          have f2 : wr.cell? ⟨g5, lk + 1, none⟩ = some (.int .i64 (-7)) := ints_tail (own_later HO7.out HR.out) HK7.out.len 1 (by omega)
          go_wp2
          go_ret
          obtain ⟨R7, hP7⟩ := HP7.out
          have hsr := HR.out.size
          refine ⟨rfl, ⟨R7, x, y, _, _, m, hP7.later HR.out, fun j hj => ?_, by omega, by omega⟩, (HB2.out.mono hB).trans (HB7.out.trans (HR.out.mono (by omega)))⟩
          have := hu j hj
          unfold at2; split
          · simp
          · omega
    · go_simp
      have b4 : Below w2.heap.size w2 ((w2.drew.alloc (.cells #[] 3)).alloc (.cells #[.int .i64 (-7), .int .i64 (-7)] 3)) := b0.alloc b0.size _
      refine hKc.out _ _ (sF _ b4) (fun hHeld => ?_)
      clear hKc Kc
      refine wpAnyH_ready (rs := [3]) (by kernel_rfl) (by simp) ?_
      refine AllReadyH.cons (by simp; rfl) (fun Kc hKc => ?_) AllReadyH.nil
      refine step_append_ownany rfl (.tmp 180) (.tmp 182) 36 rfl w2.heap.size 3 i3 (.int .i64 0) 1 8 Try.underlying36 hi3 hz30 hz31 hz32 rfl (by omega) (.slice (some ⟨w2.heap.size, 0, none⟩) 0 0) 0 [] rfl (o0.alloc _) pk lk ck (I64 xs) rfl pkn (by rw [I64_length, HK2.out.len]; omega) (fun ad ea => by subst ea; exact (HK2.out.later b4).news) (ones_i64 _) (by unfold maxLen; omega) (by omega) b4.size ?_
      intro v3 w3 hown3 hgrow3
      simp only [Nat.zero_add, List.nil_append] at hown3
      have b3 : Below w2.heap.size w2 w3 := b4.grown hgrow3 b4.size (fun k hk => (o0.lt k hk).1)
      have t3 := two_later (two_new (w2.drew.alloc (.cells #[] 3))) (hgrow3.block (w2.drew.alloc (.cells #[] 3)).heap.size (by simp) (by simp [Value.ownBlock]))
      have ee : (w2.drew.alloc (.cells #[] 3)).heap.size = w2.heap.size + 1 := by simp
      rw [ee] at t3
      refine hKc.out _ _ (sF _ b3) (fun hHeld => ?_)
      clear hKc Kc
      refine wpAnyH_ready (rs := [5]) (by kernel_rfl) (by simp) ?_
      refine AllReadyH.cons (by simp; rfl) (fun Kc hKc => ?_) AllReadyH.nil
      refine step_append_lies _ rfl (.tmp 183) (.tmp 184) 36 rfl w2.heap.size 3 i3 (.int .i64 0) 1 8 Try.underlying36 hi3 hz30 hz31 hz32 rfl (by omega) v3 lk (I64 xs) rfl hown3 ⟨w2.heap.size + 1, 0, none⟩ 2 2 [.int .i64 (-7), .int .i64 (-7)] rfl rfl t3 one_two (by omega) (by unfold maxLen; omega) (by omega) b3.size _ rfl ?_
      intro g5 c5 w5 hown5 hgrow5 hat5 hlt5
      have HW : Hid (w5.ownsRow w2.heap.size 3 1 (.slice (some ⟨g5, 0, none⟩) (lk + 2) c5) (lk + 2) (I64 xs ++ [.int .i64 (-7), .int .i64 (-7)]) ∧ Below w2.heap.size w2 w5) := ⟨hown5, b3.grown hgrow5 b3.size (fun k hk => (hown3.lt k hk).1)⟩
      refine hKc.out _ _ (sF _ HW.out.2) (fun hHeld => ?_)
      clear hKc Kc hown5 hgrow5 hat5 hlt5
      obtain ⟨_, hlc5, _, hg5⟩ := own_blk HW.out.1
      have hlI : (lk : Int) ≤ (c5 : Int) := by omega
      simp only [Act.put, List.setIfInBounds_toArray, List.set_cons_zero, List.set_cons_succ]
      clear b0 o0 b3 b4 hown3 hgrow3 t3
      refine wpAnyH_take (i := 9) (v := ?v9b) (by simp; rfl) (by kernel_rfl) (by kernel_rfl) (by kernel_rfl) (fun _ _ _ h => h) (Or.inl ⟨by rfl, ?y9b⟩) hHeld ?r9b
      case y9b => intro w hSw; clear hSw; go_simp; with_reducible rfl
      simp only [Act.put, List.setIfInBounds_toArray, List.set_cons_zero, List.set_cons_succ]
      refine wpAnyH_take (i := 10) (v := ?v10b) (by simp; rfl) (by kernel_rfl) (by kernel_rfl) (by kernel_rfl) (fun _ _ _ h => h) (Or.inl ⟨by rfl, ?y10b⟩) hHeld ?r10b
      case y10b => intro w hSw; clear hSw; go_simp; with_reducible rfl
      simp only [Act.put, List.setIfInBounds_toArray, List.set_cons_zero, List.set_cons_succ]
      refine wpAnyH_done (by kernel_rfl) (NoPanic.normal ?_) _
      clear hHeld
      have hs5 := HW.out.2.size
      have HI5 : Hid (IIn w5 (some ⟨g5, 0, none⟩) lk xs) := ints_head HW.out.1 HK2.out.len
      go_wp2_with fail
      refine (crash_any ((HH.out.dsk i l2).later HW.out.2) (by omega) (some ⟨g5, 0, none⟩) lk c5 xs HI5.out (by omega)).mono ?_
      rintro e1 w6 ⟨rfl, hd6, hk6⟩
      have hP6 := (HH.out.later HW.out.2).setD l2 hk6 (hd6.mono (fun k _ hs => .inl hs)) (by omega)
      have hs6 := hk6.size
      have ns : ∀ k, R k = 0 → ¬ (R k = 1 + i) := fun k hk => by omega
      have hg5l : g5 < w5.heap.size := (own_blk HW.out.1).1.lt
      have hR5 : R g5 = 0 := HH.out.hi g5 hg5
      have HO6 : Hid (w6.ownsRow w2.heap.size 3 1 (.slice (some ⟨g5, 0, none⟩) (lk + 2) c5) (lk + 2) (I64 xs ++ [.int .i64 (-7), .int .i64 (-7)])) := own_same HW.out.1 (fun k hk => hk6.block k (own_lt HW.out.1 hk) (by simp only [Value.ownBlock, Option.some.injEq] at hk; rw [← hk]; exact ns _ hR5))
      have HX6 : Hid (Box w6 w.heap.size 4 W N (.slice pd ld cd) (.slice pk lk ck)) := (HX.out.later HW.out.2).same (hk6.block _ (HX.out.later HW.out.2).lt (ns _ HZ.out))
      have HK6 : Hid (IIn w6 pk lk xs) := IIn.kept0 (HK2.out.later HW.out.2) hk6 (fun a ea h0 => ns _ (HH.out.lo _ (hkB a ea h0)))
      have HB6 : Hid (Below B w2 w6) := (HW.out.2.mono hB2).trans ((HH.out.later HW.out.2).kb (by omega) (by omega) hk6)
      have HP6 : Hid (Pr w6 (up R w5.heap.size w6.heap.size (1 + i)) B P x y n (at2 e i (settle (keepsK xs) (u i) (e i))) (at2 u i []) e u m) := hP6
      have HR6 : Hid (up R w5.heap.size w6.heap.size (1 + i) g5 = 0 ∧ up R w5.heap.size w6.heap.size (1 + i) w.heap.size = 0) := ⟨(up_lo hg5l).trans hR5, (up_lo (by have := HX.out.lt; omega)).trans HZ.out⟩
      clear hd6 hk6 hP6 ns HW HI5 HX HK2 hR5
      generalize up R w5.heap.size w6.heap.size (1 + i) = R6 at HP6 HR6
      obtain ⟨b0, b1, b2, b3, b4⟩ := HX6.out.at
      clear b0 b1 b2 b3
      go_wp2_with fail
      refine (rcrash_any (HP6.out.ref i l2) (by omega) pk lk ck xs HK6.out (fun a ea h0 => by rw [HP6.out.lo _ (hkB a ea h0)]; omega) (by omega)).mono ?_
      rintro e1 w7 ⟨rfl, hd7, hk7⟩
      have hP7 := HP6.out.setR l2 hk7 (hd7.mono (fun k _ hs => .inl hs)) (by omega)
      have hs7 := hk7.size
      have ns : ∀ k, R6 k = 0 → ¬ (R6 k = 3 + i) := fun k hk => by omega
      have HO7 : Hid (w7.ownsRow w2.heap.size 3 1 (.slice (some ⟨g5, 0, none⟩) (lk + 2) c5) (lk + 2) (I64 xs ++ [.int .i64 (-7), .int .i64 (-7)])) := own_same HO6.out (fun k hk => hk7.block k (own_lt HO6.out hk) (by simp only [Value.ownBlock, Option.some.injEq] at hk; rw [← hk]; exact ns _ HR6.out.1))
      have HX7 : Hid (Box w7 w.heap.size 4 W N (.slice pd ld cd) (.slice pk lk ck)) := HX6.out.same (hk7.block _ HX6.out.lt (ns _ HR6.out.2))
      have HK7 : Hid (IIn w7 pk lk xs) := IIn.kept0 HK6.out hk7 (fun a ea h0 => ns _ (HP6.out.lo _ (hkB a ea h0)))
      have HB7 : Hid (Below B w2 w7) := HB6.out.trans (HP6.out.kb (by omega) (by omega) hk7)
      have HP7 : Hid (∃ R7, Pr w7 R7 B P x y n (at2 e i (settle (keepsK xs) (u i) (e i))) (at2 u i []) (at2 e i (settle (keepsK xs) (u i) (e i))) (at2 u i []) m) := ⟨_, hP7⟩
      clear hd7 hk7 hP7 ns HO6 HX6 HK6 HB6 HP6 HR6 b4
      have hl2I : (lk : Int) + 2 ≤ (c5 : Int) := by omega
      obtain ⟨b0, b1, b2, b3, b4⟩ := HX7.out.at
      clear b0 b1 b2 b3
      go_wp2
      clear b4
      go_loopw [26, 214] (fun o v wr => ∃ k : Nat, k ≤ lk ∧ v = .int .i64 k ∧ o = .bool true ∧ Hid (Below w7.heap.size w7 wr)) (fun _ v _ => lk - (intOf v).toNat)
      case atStart => exact ⟨0, Nat.zero_le _, rfl, rfl, Below.refl _ _⟩
      case round =>
        obtain ⟨k, hk, rfl, rfl, HR⟩ := hrel
        obtain ⟨b0, b1, b2, b3, b4⟩ := (HX7.out.later HR.out).at
        clear b0 b1 b2 b3
        by_cases hlt : k < lk
        · obtain ⟨gb, ob, rfl, hcb⟩ := (HK7.out.later HR.out).cells (by omega)
          have f1 := hcb k hlt
          have f2 : wr.cell? ⟨g5, k, none⟩ = some (.int .i64 (xs.getD k 0)) := ints_at (own_later HO7.out HR.out) HK7.out.len hlt
          clear hcb
          go_wp2
          go_quiet (fail)
          have HN : Hid (Below w7.heap.size w7 (wr.drewN nq)) := HR.out.trans (below_drawn nq)
          clear f1 f2 b4 HR
          go_wp2
          go_roundw
          case rel => exact ⟨k + 1, by omega, by go_num, rfl, HN.out⟩
          case measure => simp [intOf]; omega
        · have f1 : wr.cell? ⟨g5, lk, none⟩ = some (.int .i64 (-7)) := ints_tail (own_later HO7.out HR.out) HK7.out.len 0 (by omega)
          have f2 : wr.cell? ⟨g5, lk + 1, none⟩ = some (.int .i64 (-7)) := ints_tail (own_later HO7.out HR.out) HK7.out.len 1 (by omega)
          go_wp2
          go_ret
          obtain ⟨R7, hP7⟩ := HP7.out
          have hsr := HR.out.size
          refine ⟨rfl, ⟨R7, x, y, _, _, m, hP7.later HR.out, fun j hj => ?_, by omega, by omega⟩, (HB2.out.mono hB).trans (HB7.out.trans (HR.out.mono (by omega)))⟩
          have := hu j hj
          unfold at2; split
          · simp
          · omega
  · go_simp
    have b4 : Below w2.heap.size w2 (w2.drew.alloc (.cells #[.int .i64 (-7), .int .i64 (-7)] 3)) := bw.alloc bw.size _
    refine hKc.out _ _ (sF _ b4) (fun hHeld => ?_)
    clear hKc Kc
    refine wpAnyH_ready (rs := [0]) (by kernel_rfl) (by simp) ?_
    refine AllReadyH.cons (by simp; rfl) (fun Kc hKc => ?_) AllReadyH.nil
    go_simp
    have b0 : Below w2.heap.size w2 ((w2.drew.alloc (.cells #[.int .i64 (-7), .int .i64 (-7)] 3)).alloc (.cells #[] 3)) := b4.alloc b4.size _
    have o0 : ((w2.drew.alloc (.cells #[.int .i64 (-7), .int .i64 (-7)] 3)).alloc (.cells #[] 3)).ownsRow w2.heap.size 3 1 (.slice (some ⟨(w2.drew.alloc (.cells #[.int .i64 (-7), .int .i64 (-7)] 3)).heap.size, 0, none⟩) 0 0) 0 [] := World.ownsRow_made (w2.drew.alloc (.cells #[.int .i64 (-7), .int .i64 (-7)] 3)) #[] 0 b4.size (Nat.zero_le _) rfl
    have ee : (w2.drew.alloc (.cells #[.int .i64 (-7), .int .i64 (-7)] 3)).heap.size = w2.heap.size + 1 := by simp
    rw [ee] at o0
    refine hKc.out _ _ (sF _ b0) (fun hHeld => ?_)
    clear hKc Kc
    refine wpAnyH_ready (rs := [3]) (by kernel_rfl) (by simp) ?_
    refine AllReadyH.cons (by simp; rfl) (fun Kc hKc => ?_) AllReadyH.nil
    refine step_append_ownany rfl (.tmp 180) (.tmp 182) 36 rfl w2.heap.size 3 i3 (.int .i64 0) 1 8 Try.underlying36 hi3 hz30 hz31 hz32 rfl (by omega) (.slice (some ⟨w2.heap.size + 1, 0, none⟩) 0 0) 0 [] rfl o0 pk lk ck (I64 xs) rfl pkn (by rw [I64_length, HK2.out.len]; omega) (fun ad ea => by subst ea; exact (HK2.out.later b0).news) (ones_i64 _) (by unfold maxLen; omega) (by omega) b0.size ?_
    intro v3 w3 hown3 hgrow3
    simp only [Nat.zero_add, List.nil_append] at hown3
    have b3 : Below w2.heap.size w2 w3 := b0.grown hgrow3 b0.size (fun k hk => (o0.lt k hk).1)
    have t3 := two_later (two_later (two_new w2.drew) (Below.heap_alloc _ (.cells #[] 3) _ (by simp))) (hgrow3.block w2.drew.heap.size (by simp; omega) (by simp [Value.ownBlock]))
    refine hKc.out _ _ (sF _ b3) (fun hHeld => ?_)
    clear hKc Kc
    refine wpAnyH_ready (rs := [5]) (by kernel_rfl) (by simp) ?_
    refine AllReadyH.cons (by simp; rfl) (fun Kc hKc => ?_) AllReadyH.nil
    refine step_append_lies _ rfl (.tmp 183) (.tmp 184) 36 rfl w2.heap.size 3 i3 (.int .i64 0) 1 8 Try.underlying36 hi3 hz30 hz31 hz32 rfl (by omega) v3 lk (I64 xs) rfl hown3 ⟨w2.heap.size, 0, none⟩ 2 2 [.int .i64 (-7), .int .i64 (-7)] rfl rfl t3 one_two (by omega) (by unfold maxLen; omega) (by omega) b3.size _ rfl ?_
    intro g5 c5 w5 hown5 hgrow5 hat5 hlt5
    have HW : Hid (w5.ownsRow w2.heap.size 3 1 (.slice (some ⟨g5, 0, none⟩) (lk + 2) c5) (lk + 2) (I64 xs ++ [.int .i64 (-7), .int .i64 (-7)]) ∧ Below w2.heap.size w2 w5) := ⟨hown5, b3.grown hgrow5 b3.size (fun k hk => (hown3.lt k hk).1)⟩
    refine hKc.out _ _ (sF _ HW.out.2) (fun hHeld => ?_)
    clear hKc Kc hown5 hgrow5 hat5 hlt5
    obtain ⟨_, hlc5, _, hg5⟩ := own_blk HW.out.1
    have hlI : (lk : Int) ≤ (c5 : Int) := by omega
    simp only [Act.put, List.setIfInBounds_toArray, List.set_cons_zero, List.set_cons_succ]
    clear b0 o0 b3 b4 hown3 hgrow3 t3
    refine wpAnyH_take (i := 9) (v := ?v9c) (by simp; rfl) (by kernel_rfl) (by kernel_rfl) (by kernel_rfl) (fun _ _ _ h => h) (Or.inl ⟨by rfl, ?y9c⟩) hHeld ?r9c
    case y9c => intro w hSw; clear hSw; go_simp; with_reducible rfl
    simp only [Act.put, List.setIfInBounds_toArray, List.set_cons_zero, List.set_cons_succ]
    refine wpAnyH_take (i := 10) (v := ?v10c) (by simp; rfl) (by kernel_rfl) (by kernel_rfl) (by kernel_rfl) (fun _ _ _ h => h) (Or.inl ⟨by rfl, ?y10c⟩) hHeld ?r10c
    case y10c => intro w hSw; clear hSw; go_simp; with_reducible rfl
    simp only [Act.put, List.setIfInBounds_toArray, List.set_cons_zero, List.set_cons_succ]
    refine wpAnyH_done (by kernel_rfl) (NoPanic.normal ?_) _
    clear hHeld
    have hs5 := HW.out.2.size
    have HI5 : Hid (IIn w5 (some ⟨g5, 0, none⟩) lk xs) := ints_head HW.out.1 HK2.out.len
    go_wp2_with fail
    refine (crash_any ((HH.out.dsk i l2).later HW.out.2) (by omega) (some ⟨g5, 0, none⟩) lk c5 xs HI5.out (by omega)).mono ?_
    rintro e1 w6 ⟨rfl, hd6, hk6⟩
    have hP6 := (HH.out.later HW.out.2).setD l2 hk6 (hd6.mono (fun k _ hs => .inl hs)) (by omega)
    have hs6 := hk6.size
    have ns : ∀ k, R k = 0 → ¬ (R k = 1 + i) := fun k hk => by omega
    have hg5l : g5 < w5.heap.size := (own_blk HW.out.1).1.lt
    have hR5 : R g5 = 0 := HH.out.hi g5 hg5
    have HO6 : Hid (w6.ownsRow w2.heap.size 3 1 (.slice (some ⟨g5, 0, none⟩) (lk + 2) c5) (lk + 2) (I64 xs ++ [.int .i64 (-7), .int .i64 (-7)])) := own_same HW.out.1 (fun k hk => hk6.block k (own_lt HW.out.1 hk) (by simp only [Value.ownBlock, Option.some.injEq] at hk; rw [← hk]; exact ns _ hR5))
    have HX6 : Hid (Box w6 w.heap.size 4 W N (.slice pd ld cd) (.slice pk lk ck)) := (HX.out.later HW.out.2).same (hk6.block _ (HX.out.later HW.out.2).lt (ns _ HZ.out))
    have HK6 : Hid (IIn w6 pk lk xs) := IIn.kept0 (HK2.out.later HW.out.2) hk6 (fun a ea h0 => ns _ (HH.out.lo _ (hkB a ea h0)))
    have HB6 : Hid (Below B w2 w6) := (HW.out.2.mono hB2).trans ((HH.out.later HW.out.2).kb (by omega) (by omega) hk6)
    have HP6 : Hid (Pr w6 (up R w5.heap.size w6.heap.size (1 + i)) B P x y n (at2 e i (settle (keepsK xs) (u i) (e i))) (at2 u i []) e u m) := hP6
    have HR6 : Hid (up R w5.heap.size w6.heap.size (1 + i) g5 = 0 ∧ up R w5.heap.size w6.heap.size (1 + i) w.heap.size = 0) := ⟨(up_lo hg5l).trans hR5, (up_lo (by have := HX.out.lt; omega)).trans HZ.out⟩
    clear hd6 hk6 hP6 ns HW HI5 HX HK2 hR5
    generalize up R w5.heap.size w6.heap.size (1 + i) = R6 at HP6 HR6
    obtain ⟨b0, b1, b2, b3, b4⟩ := HX6.out.at
    clear b0 b1 b2 b3
    go_wp2_with fail
    refine (rcrash_any (HP6.out.ref i l2) (by omega) pk lk ck xs HK6.out (fun a ea h0 => by rw [HP6.out.lo _ (hkB a ea h0)]; omega) (by omega)).mono ?_
    rintro e1 w7 ⟨rfl, hd7, hk7⟩
    have hP7 := HP6.out.setR l2 hk7 (hd7.mono (fun k _ hs => .inl hs)) (by omega)
    have hs7 := hk7.size
    have ns : ∀ k, R6 k = 0 → ¬ (R6 k = 3 + i) := fun k hk => by omega
    have HO7 : Hid (w7.ownsRow w2.heap.size 3 1 (.slice (some ⟨g5, 0, none⟩) (lk + 2) c5) (lk + 2) (I64 xs ++ [.int .i64 (-7), .int .i64 (-7)])) := own_same HO6.out (fun k hk => hk7.block k (own_lt HO6.out hk) (by simp only [Value.ownBlock, Option.some.injEq] at hk; rw [← hk]; exact ns _ HR6.out.1))
    have HX7 : Hid (Box w7 w.heap.size 4 W N (.slice pd ld cd) (.slice pk lk ck)) := HX6.out.same (hk7.block _ HX6.out.lt (ns _ HR6.out.2))
    have HK7 : Hid (IIn w7 pk lk xs) := IIn.kept0 HK6.out hk7 (fun a ea h0 => ns _ (HP6.out.lo _ (hkB a ea h0)))
    have HB7 : Hid (Below B w2 w7) := HB6.out.trans (HP6.out.kb (by omega) (by omega) hk7)
    have HP7 : Hid (∃ R7, Pr w7 R7 B P x y n (at2 e i (settle (keepsK xs) (u i) (e i))) (at2 u i []) (at2 e i (settle (keepsK xs) (u i) (e i))) (at2 u i []) m) := ⟨_, hP7⟩
    clear hd7 hk7 hP7 ns HO6 HX6 HK6 HB6 HP6 HR6 b4
    have hl2I : (lk : Int) + 2 ≤ (c5 : Int) := by omega
    obtain ⟨b0, b1, b2, b3, b4⟩ := HX7.out.at
    clear b0 b1 b2 b3
    go_wp2
    clear b4
    go_loopw [26, 214] (fun o v wr => ∃ k : Nat, k ≤ lk ∧ v = .int .i64 k ∧ o = .bool true ∧ Hid (Below w7.heap.size w7 wr)) (fun _ v _ => lk - (intOf v).toNat)
    case atStart => exact ⟨0, Nat.zero_le _, rfl, rfl, Below.refl _ _⟩
    case round =>
      obtain ⟨k, hk, rfl, rfl, HR⟩ := hrel
      obtain ⟨b0, b1, b2, b3, b4⟩ := (HX7.out.later HR.out).at
      clear b0 b1 b2 b3
      by_cases hlt : k < lk
      · obtain ⟨gb, ob, rfl, hcb⟩ := (HK7.out.later HR.out).cells (by omega)
        have f1 := hcb k hlt
        have f2 : wr.cell? ⟨g5, k, none⟩ = some (.int .i64 (xs.getD k 0)) := ints_at (own_later HO7.out HR.out) HK7.out.len hlt
        clear hcb
        go_wp2
        go_quiet (fail)
        have HN : Hid (Below w7.heap.size w7 (wr.drewN nq)) := HR.out.trans (below_drawn nq)
        clear f1 f2 b4 HR
        go_wp2
        go_roundw
        case rel => exact ⟨k + 1, by omega, by go_num, rfl, HN.out⟩
        case measure => simp [intOf]; omega
      · have f1 : wr.cell? ⟨g5, lk, none⟩ = some (.int .i64 (-7)) := ints_tail (own_later HO7.out HR.out) HK7.out.len 0 (by omega)
        have f2 : wr.cell? ⟨g5, lk + 1, none⟩ = some (.int .i64 (-7)) := ints_tail (own_later HO7.out HR.out) HK7.out.len 1 (by omega)
        go_wp2
        go_ret
        obtain ⟨R7, hP7⟩ := HP7.out
        have hsr := HR.out.size
        refine ⟨rfl, ⟨R7, x, y, _, _, m, hP7.later HR.out, fun j hj => ?_, by omega, by omega⟩, (HB2.out.mono hB).trans (HB7.out.trans (HR.out.mono (by omega)))⟩
        have := hu j hj
        unfold at2; split
        · simp
        · omega
end Go.Proofs.Ytlidjenkicgldaa
