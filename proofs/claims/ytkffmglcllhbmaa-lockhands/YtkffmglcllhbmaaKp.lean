/-
  Layer 14: LockRefused.
-/
import Derived.Test.YtkffmglcllhbmaaKn
namespace Go.Proofs.Ytkffmglcllhbmaa
open Go.RowKit

section
variable {w0 w : World} {Q n : Nat} {a : Lk} {X : Nat → Prop}
/-- a Lay that is refused -/
theorem o_layBad (h : Own w0 w Q n a X) {t : Int} {p : Option Addr} {k c : Nat} {s : List Int} (hI : B.IIn w p k s) (hk : k ≤ 140737488355328) {E : Int} (hE : layE a t s = E) (h0 : E ≠ 0) :
    Calls Try.prog 22 #[qp Q, .int .u64 t, .slice p k c] w fun e w' => e = .returned (.int .i64 E) ∧ Own w0 w' Q n a X ∧ Below w.heap.size w w' := by
  obtain ⟨F, rfl, h2, r⟩ := h
  refine (lay_bad h2 t hI hk (by rw [hE]; exact h0)).mono ?_
  rintro e w' ⟨rfl, hb⟩
  exact ⟨by rw [hE], Own.later ⟨F, rfl, h2, r⟩ hb, hb⟩
theorem o_takeOut (h : Own w0 w Q n a X) (hn : n ≤ 10000) {t : Int} (ht : U64 t) (hin : isIn a.L t = false) : Calls Try.prog 12 #[qp Q, .int .u64 t] w fun e w' => e = .returned (.tuple #[.int .i64 0, .int .i64 110]) ∧ Own w0 w' Q n a X ∧ Below w.heap.size w w' := by
  obtain ⟨F, rfl, h2, r⟩ := h
  refine (take_out h2 hn ht hin).mono ?_
  rintro e w' ⟨rfl, hb⟩
  exact ⟨rfl, Own.later ⟨F, rfl, h2, r⟩ hb, hb⟩
theorem o_dropOut (h : Own w0 w Q n a X) {t : Int} (ht : U64 t) (hin : isIn a.L t = false) : Calls Try.prog 20 #[qp Q, .int .u64 t] w fun e w' => e = .returned (.tuple #[.int .i64 0, .int .i64 110]) ∧ Own w0 w' Q n a X ∧ Below w.heap.size w w' := by
  obtain ⟨F, rfl, h2, r⟩ := h
  refine (dropL_out h2 ht hin).mono ?_
  rintro e w' ⟨rfl, hb⟩
  exact ⟨rfl, Own.later ⟨F, rfl, h2, r⟩ hb, hb⟩
end
theorem u_in {w : World} {base : Nat} {p : Option Addr} {n c : Nat} {s : List Int} (h : w.ownsRow base 3 1 (.slice p n c) n (B.I64 s)) : B.IIn w p n s := by
  obtain ⟨p', c', e, hI, _⟩ := B.ints_in h
  simp only [Value.slice.injEq, true_and] at e
  obtain ⟨rfl, rfl⟩ := e
  exact hI
/-- append in a drawn region, onto a row of ours -/
theorem step_app {P : Program} {o : Oper} {a : Act} {w : World} {K : Act → World → Prop} {Q : Exit → Act → World → Prop} {E : Prop} {md : Nat → Option Bool} (hw : Region.wanted o md = true) (s x : Operand) (t : TypeId)
    (ho : o.op = .call { callee := .builtin .append, args := #[s, x], argTypes := #[t, t] })
    (e : TypeId) (i : TypeInfo) (z : Value) (bytes : Nat) (ht : P.underlying t = some (.slice e)) (hi : P.info? e = some i) (hz : i.zero = some z) (hsize : i.size = 1) (hby : i.bytes = bytes) (hzs : z.cells.size = 1)
    (w0 : World) (hb : Below w0.heap.size w0 w) (v : Value) (xs : List Value) (hs : a.eval s = v) (hown : w.ownsRow w0.heap.size e 1 v xs.length xs)
    (ad : Addr) (m c : Nat) (news : List Value) (hx : a.eval x = .slice (some ad) m c) (hl : news.length = m) (hnews : ∀ j u, news[j]? = some u → w.cell? (ad.add j) = some u) (h1 : ∀ u ∈ news, u.oneCell' = true)
    (h63 : xs.length + m ≤ maxLen) (hbytes : (xs.length + m) * bytes ≤ 140737488355328)
    (h : ∀ p2 c2 w2, w2.ownsRow w0.heap.size e 1 (.slice p2 (xs ++ news).length c2) (xs ++ news).length (xs ++ news) → Below w0.heap.size w0 w2 → Kept (fun b => blk v = some b) w w2 → K (a.put o.dst (.slice p2 (xs ++ news).length c2)) w2) :
    if Region.wanted o md = true then Oper.wp P o a w K Q else E := by
  rw [if_pos hw]
  obtain ⟨v2, w2, hr, r2, k2, _⟩ := run_append_own (P := P) w w0.heap.size t o.type e i z 1 bytes ht hi hz hsize hby hzs (by omega) v xs.length xs hown ad m c news (by omega) hnews h1 h63 hbytes hb.size
  obtain ⟨p1, c1, rfl, _, _, hg1, hi1⟩ := own_shape hown
  have r2' : w2.ownsRow w0.heap.size e 1 v2 (xs ++ news).length (xs ++ news) := by rw [List.length_append, hl]; exact r2
  obtain ⟨p2, c2, rfl, _⟩ := own_shape r2'
  have hk : Kept (fun b => blk (.slice p1 xs.length c1) = some b) w w2 := ⟨k2.os, k2.tape, k2.output, k2.size, fun b hb' hn => k2.block b hb' fun e => hn ((hi1 b).1 e.symm)⟩
  have hK := h p2 c2 w2 r2' (hk.into hb (fun b hb' e => by have := (hg1 b e).1; omega) (Nat.le_refl _)) hk
  unfold Oper.wp
  rw [List.length_append] at hK
  simp [execOp, ho, resolve, invoke, builtin, hs, hx, hr, Result.andThen]
  exact hK
theorem info_boolR : (Try.prog.info? 4).map (fun i => (i.zero, i.size, i.bytes)) = some (some (.bool false), 1, 1) := by kernel_rfl
theorem lay0_low {N : Nat} {W : List (Value × List Int)} {t : Int} (h1 : 1 ≤ N) (ht : t ≤ W.length) : layE (crowdA N W) t [0] = 110 := by
  unfold layE
  rw [if_neg (by simp), if_neg (by simp; omega), if_pos ht]
theorem lay_nilE (a : Lk) (t : Int) : layE a t [] = 53 := if_pos (.inl rfl)
theorem lay_twiceE (a : Lk) (t : Int) : layE a t [0, 0] = 53 := if_pos (.inr (by simp))
theorem lay_outE {N : Nat} {W : List (Value × List Int)} {t b : Int} (hb : ¬ (0 ≤ b ∧ b < N)) : layE (crowdA N W) t [b] = 51 := by
  unfold layE
  rw [if_neg (by simp), if_pos (by simpa using hb)]
theorem lay0_ok {N : Nat} {W : List (Value × List Int)} (h1 : 1 ≤ N) : layE (crowdA N W) ((W.length : Int) + 1) [0] = 0 := layE_zero.2 ⟨by simp, List.pairwise_singleton _ _, by simp; omega, by show (W.length : Int) < _; omega⟩
theorem lay_fallE (a : Lk) (t : Int) {s : List Int} {i : Nat} (h1 : 1 ≤ i) (hi : i < s.length) (h : s.getD i 0 ≤ s.getD (i - 1) 0) : layE a t s = 53 := by
  refine if_pos (.inr fun hp => ?_)
  have := adj_up hp (j := i - 1) (by omega)
  rw [show i - 1 + 1 = i by omega] at this
  omega
theorem out_top {W : List (Value × List Int)} {t : Int} (h : (W.length : Int) < t ∨ t ≤ 0) : isIn (entF W.length (SW W) (fun _ => 0) (fun _ => false)) t = false := by
  cases hi : isIn (entF W.length (SW W) (fun _ => 0) (fun _ => false)) t with
  | false => rfl
  | true =>
    obtain ⟨e, he, het⟩ := mem_tix.1 (isIn_iff.1 hi)
    obtain ⟨j, hj, _, rfl⟩ := mem_entF.1 he
    simp at het
    omega
set_option maxHeartbeats 2000000 in
set_option maxRecDepth 100000 in
theorem lockRefused_any (w : World) (n0 : Int) {p : Option Addr} {m c : Nat} {xs : List Int} (hU : UIn w p m xs) (hx : ∀ x ∈ xs, U64 x) (hm : m ≤ 17592186044416) (late : Int) (hlate : U64 late) {po : Option Addr} {mo co : Nat} {zs : List Int} (hZ : B.IIn w po mo zs) (hmo : mo ≤ 17592186044416) : Calls Try.prog 5 #[.int .i64 n0, .slice p m c, .int .u64 late, .slice po mo co] w fun e w' => e = .returned (.bool true) ∧ Below w.heap.size w w' := by
  obtain ⟨i0, hi, hz0, hz1, hz2⟩ := info_parts B.info3
  have hml : 17592186044416 ≤ maxLen := by decide
  have HU : Hid (UIn w p m xs ∧ ∀ x ∈ xs, U64 x) := ⟨hU, hx⟩
  have HZ : Hid (B.IIn w po mo zs ∧ True) := ⟨hZ, trivial⟩
  have hlr := u64_iff.1 hlate
  clear hU hx hZ
  go_enter Try.func5, Try.ntmps5
  go_wp2_with fail
  refine (blocksOf_any n0 w).mono ?_
  rintro e w' ⟨N, rfl, hN, rfl⟩
  go_wp2_with fail
  refine (crowd_any w N hN.1 hN.2 HU.out.1 HU.out.2 hm).mono ?_
  rintro e w1 ⟨Q, pw, cw, W, rfl, h1, h2, hW⟩
  have H1 : Hid (Own w w1 Q 10 (crowdA N W) (fun _ => False) ∧ Wt w w1 (.slice pw W.length cw) W) := ⟨h1, h2⟩
  clear h1 h2
  go_wp2_with fail
  refine (awake_any w1).mono ?_
  rintro e w2 ⟨rfl, hb2⟩
  have H2 : Hid (Own w w2 Q 10 (crowdA N W) (fun _ => False) ∧ Wt w w2 (.slice pw W.length cw) W) := ⟨H1.out.1.later hb2, H1.out.2.later hb2⟩
  clear H1 hb2
  have hmk2 := run_make_row' (P := Try.prog) 44 4 (.bool false) 1 Try.underlying44 info_boolR rfl .i64 .i64 W.length (by omega) (by omega) w2
  rw [frow_made] at hmk2
  have H3 : Hid (Own w (w2.alloc (.cells (frow (fun _ => .bool false) W.length).toArray 4)) Q 10 (crowdA N W) (fun _ => False) ∧ Wt w (w2.alloc (.cells (frow (fun _ => .bool false) W.length).toArray 4)) (.slice pw W.length cw) W) := ⟨H2.out.1.later (below_alloc _ _), H2.out.2.later (below_alloc _ _)⟩
  have HG : Hid ((w2.alloc (.cells (frow (fun _ => .bool false) W.length).toArray 4)).heap[w2.heap.size]? = some (.cells (frow (fun _ => .bool false) W.length).toArray 4 (0, 0))) := heap_alloc_new w2 _
  have HSL : Hid (∀ i, i < W.length → (SW W i).length ≤ 64) := fun i hi => H2.out.1.ok.slen (mem_entF.2 (⟨i, hi, rfl, rfl⟩ : ∃ j, j < W.length ∧ (fun _ => false) j = false ∧ (⟨(i : Int) + 1, SW W i, 0⟩ : En) = ⟨(j : Int) + 1, SW W j, (fun _ => 0) j⟩))
  obtain ⟨W3, hW3⟩ : ∃ x, w2.alloc (.cells (frow (fun _ => .bool false) W.length).toArray 4) = x := ⟨_, rfl⟩
  rw [hW3] at H3 HG hmk2
  clear hW3 H2
  go_wp2
  clear hmk2
  go_loopw [12, 41] (fun v i wr => ∃ k : Nat, k ≤ W.length ∧ i = .int .i64 k ∧ (∃ p c, v = .slice p k c) ∧ Hid (wr.ownsRow W3.heap.size 3 1 v k (B.I64 (List.replicate k 0)) ∧ Below W3.heap.size W3 wr)) (fun _ i _ => W.length - (intOf i).toNat)
  case atStart => exact ⟨0, Nat.zero_le _, rfl, ⟨none, 0, rfl⟩, World.ownsRow_nil _ _ _ _, Below.refl _ _⟩
  case round =>
    obtain ⟨k, hk, rfl, ⟨pd, cd, rfl⟩, HD⟩ := hrel
    by_cases hlt : k < W.length
    · have j1 : (k : Int) < (W.length : Int) := by omega
      have HOA : Hid ((wr.alloc (.cells #[.int .i64 0] 3)).ownsRow W3.heap.size 3 1 (.slice pd k cd) (B.I64 (List.replicate k 0)).length (B.I64 (List.replicate k 0))) := by rw [show (B.I64 (List.replicate k 0)).length = k by simp]; exact B.own_later HD.out.1 (below_alloc _ _)
      have HBA : Hid (Below W3.heap.size W3 (wr.alloc (.cells #[.int .i64 0] 3))) := below_then HD.out.2 (below_alloc _ _)
      have hrl : (B.I64 (List.replicate k 0)).length = k := by simp
      go_wp2_with (at_builtin; refine wpList_app rfl (.tmp 43) (.tmp 44) 37 rfl 3 i0 (.int .i64 0) 8 Try.underlying37 hi hz0 hz1 hz2 rfl W3 HBA.out (.slice pd k cd) (B.I64 (List.replicate k 0)) rfl HOA.out (some ⟨wr.heap.size, 0, none⟩) 1 1 [.int .i64 0] rfl (fun e => by cases e) (by decide) rfl (one_news _ _) (B.one_i64 _) (by rw [hrl]; omega) (by rw [hrl]; omega) ?_; intro p5 c5 w5 o5 b5 _; have HLN : Hid ((B.I64 (List.replicate k 0) ++ [Value.int .i64 0]).length = k + 1) := (by show _ = _; simp); rw [HLN.out]; have H5 : Hid (w5.ownsRow W3.heap.size 3 1 (.slice p5 (k + 1) c5) (k + 1) (B.I64 (List.replicate (k + 1) 0)) ∧ Below W3.heap.size W3 w5) := ⟨(by rw [HLN.out] at o5; rw [show B.I64 (List.replicate (k + 1) 0) = B.I64 (List.replicate k 0) ++ [Value.int .i64 0] by simp [List.replicate_succ', B.I64]]; exact o5), b5⟩; clear o5 b5)
      go_roundw
      case rel => exact ⟨k + 1, by omega, by go_num, ⟨p5, c5, rfl⟩, H5.out⟩
      case measure => simp [intOf]; omega
    · obtain rfl : k = W.length := by omega
      have HO : Hid (Own w wr Q 10 (crowdA N W) (fun _ => False)) := H3.out.1.later HD.out.2
      have HF : Hid (Fr wr W.length (SW W) (fun _ => 0) (fun _ => false) pw pd (some ⟨w2.heap.size, 0, none⟩)) := by
        refine ⟨(H3.out.2.later HD.out.2).rd, fun i hi => ?_, fun i hi => ?_⟩
        · obtain ⟨b, o, rfl, hc⟩ := (u_in HD.out.1).cells (by omega)
          exact ⟨b, o, rfl, by rw [hc i hi]; simp [hi]⟩
        · refine ⟨w2.heap.size, 0, rfl, ?_⟩
          rw [Nat.zero_add]
          exact frow_cell ((HD.out.2.block _ (Array.getElem?_eq_some_iff.1 HG.out).1).trans HG.out) hi
      clear HD H3 HG
      obtain ⟨wA, hwA⟩ : ∃ x, x = wr := ⟨_, rfl⟩
      subst hwA
      have hmod : 0 ≤ late % ((W.length : Int) + 1) ∧ late % ((W.length : Int) + 1) ≤ W.length := ⟨Int.emod_nonneg _ (by omega), by have := Int.emod_lt_of_pos late (show (0 : Int) < (W.length : Int) + 1 by omega); omega⟩
      go_wp2_with (go_at_call 13; refine (num_is _ _).mono ?_; rintro e w' ⟨rfl, rfl⟩)
      refine (o_layBad (HO.out.later (below_alloc _ _)) (t := late % ((W.length : Int) + 1)) (B.lit_in _ [0] 1 rfl) (by decide) (E := 110) (lay0_low hN.1 hmod.2) (by decide)).mono ?_
      rintro e w4 ⟨rfl, -, hb4⟩
      have HB4 : Hid (Below wA.heap.size wA w4) := below_then (below_alloc _ _) hb4
      clear hb4
      go_wp2_with (go_at_call 13; refine (num_is _ _).mono ?_; rintro e w' ⟨rfl, rfl⟩)
      refine (o_layBad (HO.out.later HB4.out) (t := (W.length : Int) + 1) (B.IIn.nil _ _) (by decide) (E := 53) (lay_nilE _ _) (by decide)).mono ?_
      rintro e w5 ⟨rfl, -, hb5⟩
      have HB5 : Hid (Below wA.heap.size wA w5) := below_then HB4.out hb5
      clear hb5 HB4
      go_wp2_with (go_at_call 13; refine (num_is _ _).mono ?_; rintro e w' ⟨rfl, rfl⟩)
      refine (o_layBad (HO.out.later (below_then HB5.out (below_alloc _ _))) (t := (W.length : Int) + 1) (B.lit_in _ [0, 0] 2 rfl) (by decide) (E := 53) (lay_twiceE _ _) (by decide)).mono ?_
      rintro e w6 ⟨rfl, -, hb6⟩
      have HB6 : Hid (Below wA.heap.size wA w6) := below_then (below_then HB5.out (below_alloc _ _)) hb6
      clear hb6 HB5
      go_wp2_with (go_at_call 13; refine (num_is _ _).mono ?_; rintro e w' ⟨rfl, rfl⟩)
      refine (o_layBad (HO.out.later (below_then HB6.out (below_alloc _ _))) (t := 0) (B.lit_in _ [(N : Int)] 1 rfl) (by decide) (E := 51) (lay_outE (by omega)) (by decide)).mono ?_
      rintro e w7 ⟨rfl, -, hb7⟩
      have HB7 : Hid (Below wA.heap.size wA w7) := below_then (below_then HB6.out (below_alloc _ _)) hb7
      clear hb7 HB6
      go_wp2_with (go_at_call 13; refine (num_is _ _).mono ?_; rintro e w' ⟨rfl, rfl⟩)
      refine (o_layBad (HO.out.later (below_then HB7.out (below_alloc _ _))) (t := (W.length : Int) + 1) (B.lit_in _ [-1] 1 rfl) (by decide) (E := 51) (lay_outE (by omega)) (by decide)).mono ?_
      rintro e w8 ⟨rfl, -, hb8⟩
      have HO8 : Hid (Own w w8 Q 10 (crowdA N W) (fun _ => False)) := HO.out.later (below_then (below_then HB7.out (below_alloc _ _)) hb8)
      have HF8 : Hid (Fr w8 W.length (SW W) (fun _ => 0) (fun _ => false) pw pd (some ⟨w2.heap.size, 0, none⟩)) := HF.out.later (below_then (below_then HB7.out (below_alloc _ _)) hb8)
      clear hb8 HB7 HO HF
      go_wp2_with (go_at_call 13; refine (num_is _ _).mono ?_; rintro e w' ⟨rfl, rfl⟩)
      obtain ⟨W4, hW4⟩ : ∃ x, x = w8 := ⟨_, rfl⟩
      subst hW4
      go_loopw [15] (fun i wr => ∃ x : Nat, (x ≤ mo ∨ x = 1) ∧ 1 ≤ x ∧ x ≤ 20 ∧ i = .int .i64 x ∧ Hid (Below W4.heap.size W4 wr)) (fun i _ => 20 - (intOf i).toNat)
      case atStart => exact ⟨1, .inr rfl, Nat.le_refl _, by decide, rfl, Below.refl _ _⟩
      case round =>
        obtain ⟨x, hx1, hx2, hx3, rfl, HBr⟩ := hrel
        by_cases hlt2 : x < mo ∧ x < 20
        · have j1 : (x : Int) < (mo : Int) := by omega
          have j2 : (x : Int) < 20 := by omega
          obtain ⟨bo, oo, rfl, hcs⟩ := HZ.out.1.cells (by omega)
          have HZI : Hid (∀ w', Below wr.heap.size wr w' → B.IIn w' (some ⟨bo, oo, none⟩) mo zs) := fun w' hb => HZ.out.1.later (HO8.out.later (below_then HBr.out hb)).below
          have HC : Hid (∀ w', Below wr.heap.size wr w' → w'.cell? ⟨bo, oo + x, none⟩ = some (.int .i64 (zs.getD x 0)) ∧ w'.cell? ⟨bo, oo + (x - 1), none⟩ = some (.int .i64 (zs.getD (x - 1) 0))) := fun w' hb => by
            have hbw := (HO8.out.later (below_then HBr.out hb)).below
            exact ⟨(hbw.cell (p := ⟨bo, oo + x, none⟩) (World.block_lt_of_cell? w _ (hcs x hlt2.1))).trans (hcs x hlt2.1), (hbw.cell (p := ⟨bo, oo + (x - 1), none⟩) (World.block_lt_of_cell? w _ (hcs (x - 1) (by omega)))).trans (hcs (x - 1) (by omega))⟩
          have HE53 : Hid (zs.getD x 0 ≤ zs.getD (x - 1) 0 → layE (crowdA N W) ((W.length : Int) + 1) zs = 53) := fun h => lay_fallE _ _ hx2 (by have := HZ.out.1.len; omega) h
          have HO : Hid (Own w wr Q 10 (crowdA N W) (fun _ => False)) := HO8.out.later HBr.out
          have j3 : wrap64 ((x : Int) - 1) = ((x - 1 : Nat) : Int) := by unfold wrap64; omega
          have j4 : ((x - 1 : Nat) : Int) < (mo : Int) := by omega
          have j5 : IntKind.i64.wrap ((x : Int) - 1) = ((x - 1 : Nat) : Int) := by rw [IntKind.wrap_i64]; omega
          have j6 : IntKind.u64.wrap ((W.length : Int) + 1) = (W.length : Int) + 1 := by rw [IntKind.wrap_u64]; omega
          have j7 : 0 ≤ ((x - 1 : Nat) : Int) := by omega
          clear hcs
          generalize zs.getD x 0 = y at *
          generalize zs.getD (x - 1) 0 = z at *
          generalize hxx : x - 1 = x1 at *
          by_cases hyz : y ≤ z
          · have HE53 : Hid (layE (crowdA N W) ((W.length : Int) + 1) zs = 53) := HE53.out hyz
            have hdy := decide_eq_true hyz
            go_wp2_with fail
            refine wp_region_noPanic ?_
            refine wp_region_held_drew (S := fun w' => Below wr.heap.size wr w') (by kernel_rfl) (below_drawn 1) (fun hHeld => ?_)
            generalize wr.drew = wd at *
            refine wpAnyH_take (i := 0) (v := ?va1) (by simp; rfl) (by kernel_rfl) (by kernel_rfl) (by kernel_rfl) (fun _ _ _ h => h) (Or.inl ⟨by rfl, ?ya1⟩) hHeld ?ra1
            case ya1 => intro w hSw; clear hSw; go_simp; with_reducible rfl
            simp only [Act.put, List.setIfInBounds_toArray, List.set_cons_zero, List.set_cons_succ]
            refine wpAnyH_take (i := 1) (v := ?va2) (by simp; rfl) (by kernel_rfl) (by kernel_rfl) (by kernel_rfl) (fun _ _ _ h => h) (Or.inl ⟨by rfl, ?ya2⟩) hHeld ?ra2
            case ya2 => intro w hSw; clear hSw; go_simp; with_reducible rfl
            simp only [Act.put, List.setIfInBounds_toArray, List.set_cons_zero, List.set_cons_succ]
            refine wpAnyH_take (i := 2) (v := ?va3) (by simp; rfl) (by kernel_rfl) (by kernel_rfl) (by kernel_rfl) (fun _ _ _ h => h) (Or.inl ⟨by rfl, ?ya3⟩) hHeld ?ra3
            case ya3 => intro w hSw; clear hSw; go_simp; with_reducible rfl
            simp only [Act.put, List.setIfInBounds_toArray, List.set_cons_zero, List.set_cons_succ]
            refine wpAnyH_take (i := 3) (v := ?va4) (by simp; rfl) (by kernel_rfl) (by kernel_rfl) (by kernel_rfl) (fun _ _ _ h => h) (Or.inl ⟨by rfl, ?ya4⟩) hHeld ?ra4
            case ya4 => intro w hSw; have z := (HC.out w hSw).1; clear hSw; go_simp; with_reducible rfl
            simp only [Act.put, List.setIfInBounds_toArray, List.set_cons_zero, List.set_cons_succ]
            refine wpAnyH_take (i := 4) (v := ?va5) (by simp; rfl) (by kernel_rfl) (by kernel_rfl) (by kernel_rfl) (fun _ _ _ h => h) (Or.inl ⟨by rfl, ?ya5⟩) hHeld ?ra5
            case ya5 => intro w hSw; clear hSw; go_simp; with_reducible rfl
            simp only [Act.put, List.setIfInBounds_toArray, List.set_cons_zero, List.set_cons_succ]
            refine wpAnyH_take (i := 5) (v := ?va6) (by simp; rfl) (by kernel_rfl) (by kernel_rfl) (by kernel_rfl) (fun _ _ _ h => h) (Or.inl ⟨by rfl, ?ya6⟩) hHeld ?ra6
            case ya6 => intro w hSw; clear hSw; go_simp; with_reducible rfl
            simp only [Act.put, List.setIfInBounds_toArray, List.set_cons_zero, List.set_cons_succ]
            refine wpAnyH_take (i := 6) (v := ?va7) (by simp; rfl) (by kernel_rfl) (by kernel_rfl) (by kernel_rfl) (fun _ _ _ h => h) (Or.inl ⟨by rfl, ?ya7⟩) hHeld ?ra7
            case ya7 => intro w hSw; clear hSw; go_simp; with_reducible rfl
            simp only [Act.put, List.setIfInBounds_toArray, List.set_cons_zero, List.set_cons_succ]
            refine wpAnyH_take (i := 7) (v := ?va8) (by simp; rfl) (by kernel_rfl) (by kernel_rfl) (by kernel_rfl) (fun _ _ _ h => h) (Or.inl ⟨by rfl, ?ya8⟩) hHeld ?ra8
            case ya8 => intro w hSw; clear hSw; go_simp; with_reducible rfl
            simp only [Act.put, List.setIfInBounds_toArray, List.set_cons_zero, List.set_cons_succ]
            refine wpAnyH_take (i := 8) (v := ?va9) (by simp; rfl) (by kernel_rfl) (by kernel_rfl) (by kernel_rfl) (fun _ _ _ h => h) (Or.inl ⟨by rfl, ?ya9⟩) hHeld ?ra9
            case ya9 => intro w hSw; have z := (HC.out w hSw).2; clear hSw; go_simp; with_reducible rfl
            simp only [Act.put, List.setIfInBounds_toArray, List.set_cons_zero, List.set_cons_succ]
            refine wpAnyH_take (i := 9) (v := ?va10) (by simp; rfl) (by kernel_rfl) (by kernel_rfl) (by kernel_rfl) (fun _ _ _ h => h) (Or.inl ⟨by rfl, ?ya10⟩) hHeld ?ra10
            case ya10 => intro w hSw; clear hSw; go_simp; with_reducible rfl
            simp only [Act.put, List.setIfInBounds_toArray, List.set_cons_zero, List.set_cons_succ]
            refine wpAnyH_take (i := 10) (v := ?va11) (by simp; rfl) (by kernel_rfl) (by kernel_rfl) (by kernel_rfl) (fun _ _ _ h => h) (Or.inl ⟨by rfl, ?ya11⟩) hHeld ?ra11
            case ya11 => intro w hSw; clear hSw; go_simp; with_reducible rfl
            simp only [Act.put, List.setIfInBounds_toArray, List.set_cons_zero, List.set_cons_succ]
            refine wpAnyH_take (i := 11) (v := ?va12) (by simp; rfl) (by kernel_rfl) (by kernel_rfl) (by kernel_rfl) (fun _ _ _ h => h) (Or.inl ⟨by rfl, ?ya12⟩) hHeld ?ra12
            case ya12 => intro w hSw; clear hSw; go_simp; with_reducible rfl
            simp only [Act.put, List.setIfInBounds_toArray, List.set_cons_zero, List.set_cons_succ]
            refine wpAnyH_take (i := 12) (v := ?va13) (by simp; rfl) (by kernel_rfl) (by kernel_rfl) (by kernel_rfl) (fun _ _ _ h => h) (Or.inl ⟨by rfl, ?ya13⟩) hHeld ?ra13
            case ya13 => intro w hSw; clear hSw; go_simp; with_reducible rfl
            simp only [Act.put, List.setIfInBounds_toArray, List.set_cons_zero, List.set_cons_succ]
            refine wpAnyH_take (i := 13) (v := ?va14) (by simp; rfl) (by kernel_rfl) (by kernel_rfl) (by kernel_rfl) (fun _ _ _ h => h) (Or.inl ⟨by rfl, ?ya14⟩) hHeld ?ra14
            case ya14 => intro w hSw; clear hSw; go_simp; with_reducible rfl
            simp only [Act.put, List.setIfInBounds_toArray, List.set_cons_zero, List.set_cons_succ]
            refine wpAnyH_take (i := 15) (v := ?va15) (by simp; rfl) (by kernel_rfl) (by kernel_rfl) (by kernel_rfl) (fun _ _ _ h => h) (Or.inl ⟨by rfl, ?ya15⟩) hHeld ?ra15
            case ya15 => intro w hSw; clear hSw; go_simp; with_reducible rfl
            simp only [Act.put, List.setIfInBounds_toArray, List.set_cons_zero, List.set_cons_succ]
            refine wpAnyH_ready (rs := [14]) (by kernel_rfl) (by simp) ?_
            refine AllReadyH.cons (by simp; rfl) (fun Kc hKc => ?_) AllReadyH.nil
            have HB1 : Hid (Below wr.heap.size wr (wd.alloc (.cells #[] 3))) := below_then hHeld (below_alloc _ _)
            have HBd : Hid (Below wr.heap.size wr wd) := hHeld
            go_simp
            refine hKc.out _ _ HB1.out (fun hHeld => ?_)
            clear hKc Kc
            refine wpAnyH_ready (rs := [16]) (by kernel_rfl) (by simp) ?_
            refine AllReadyH.cons (by simp; rfl) (fun Kc hKc => ?_) AllReadyH.nil
            have Hn1 : (B.I64 zs).length = mo := by simpa using HZ.out.1.len
            have Hn2 : ([] : List Value).length + mo ≤ maxLen := by simp; omega
            have Hn3 : (([] : List Value).length + mo) * 8 ≤ 140737488355328 := by simp; omega
            refine step_app (P := Try.prog) (w := wd.alloc (.cells #[] 3)) ?hw (.tmp 117) (.tmp 118) 37 ?ho 3 i0 (.int .i64 0) 8 Try.underlying37 hi hz0 hz1 hz2 rfl wd (below_alloc _ _) (.slice (some ⟨wd.heap.size, 0, none⟩) 0 0) [] ?hs (empty_own wd) ⟨bo, oo, none⟩ mo co (B.I64 zs) ?hx Hn1 ((HZI.out _ HB1.out).news) (B.ones_i64 zs) Hn2 Hn3 ?hk
            case hw => rfl
            case ho => rfl
            case hs => rfl
            case hx => rfl
            clear Hn1 Hn2 Hn3
            intro p3 c3 w3 o3 b3 _
            have o3' : w3.ownsRow wd.heap.size 3 1 (.slice p3 zs.length c3) zs.length (B.I64 zs) := (by simpa [B.I64] using o3)
            have H3 : Hid (w3.ownsRow wd.heap.size 3 1 (.slice p3 zs.length c3) zs.length (B.I64 zs) ∧ Below wr.heap.size wr w3) := ⟨o3', below_then HBd.out b3⟩
            have hL : (([] : List Value) ++ B.I64 zs).length = zs.length := by simp
            rw [hL]
            clear o3 o3' b3 hL
            refine hKc.out _ _ H3.out.2 (fun hHeld => ?_)
            clear hKc Kc
            refine wpAnyH_ready (rs := [17]) (by kernel_rfl) (by simp) ?_
            refine AllReadyH.cons (by simp; rfl) (fun Kc hKc => ?_) AllReadyH.nil
            go_simp
            refine (o_layBad (HO.out.later H3.out.2) (t := (W.length : Int) + 1) (u_in H3.out.1) (by have := HZ.out.1.len; omega) (E := 53) HE53.out (by decide)).mono ?_
            rintro e w4 ⟨rfl, -, hb4⟩
            have HB4 : Hid (Below wr.heap.size wr w4) := below_then H3.out.2 hb4
            clear hb4
            refine hKc.out _ _ HB4.out (fun hHeld => ?_)
            clear hKc Kc
            refine wpAnyH_ready (rs := [18]) (by kernel_rfl) (by simp) ?_
            refine AllReadyH.cons (by simp; rfl) (fun Kc hKc => ?_) AllReadyH.nil
            go_simp
            refine (num_is _ _).mono ?_
            rintro e w9 ⟨rfl, rfl⟩
            refine hKc.out _ _ hHeld (fun hHeld => ?_)
            clear hKc Kc
            refine wpAnyH_take (i := 19) (v := ?va16) (by simp; rfl) (by kernel_rfl) (by kernel_rfl) (by kernel_rfl) (fun _ _ _ h => h) (Or.inl ⟨by rfl, ?ya16⟩) hHeld ?ra16
            case ya16 => intro w hSw; clear hSw; go_simp; with_reducible rfl
            simp only [Act.put, List.setIfInBounds_toArray, List.set_cons_zero, List.set_cons_succ]
            refine wpAnyH_take (i := 20) (v := ?va17) (by simp; rfl) (by kernel_rfl) (by kernel_rfl) (by kernel_rfl) (fun _ _ _ h => h) (Or.inl ⟨by rfl, ?ya17⟩) hHeld ?ra17
            case ya17 => intro w hSw; clear hSw; go_simp; with_reducible rfl
            simp only [Act.put, List.setIfInBounds_toArray, List.set_cons_zero, List.set_cons_succ]
            refine wpAnyH_done (by kernel_rfl) (NoPanic.normal ?_) _
            have HBZ : Hid (Below W4.heap.size W4 w4) := below_then HBr.out hHeld
            clear hHeld HC HBr
            go_wp2
            go_roundw
            case rel => exact ⟨x + 1, .inl (by omega), by omega, by omega, by go_num, HBZ.out⟩
            case measure => simp [intOf]; omega
          · have hdy := decide_eq_false hyz
            clear HE53 HO HZI
            go_wp2_with fail
            refine wp_region_noPanic ?_
            refine wp_region_held_drew (S := fun w' => Below wr.heap.size wr w') (by kernel_rfl) (below_drawn 1) (fun hHeld => ?_)
            generalize wr.drew = wd at *
            refine wpAnyH_take (i := 0) (v := ?va18) (by simp; rfl) (by kernel_rfl) (by kernel_rfl) (by kernel_rfl) (fun _ _ _ h => h) (Or.inl ⟨by rfl, ?ya18⟩) hHeld ?ra18
            case ya18 => intro w hSw; clear hSw; go_simp; with_reducible rfl
            simp only [Act.put, List.setIfInBounds_toArray, List.set_cons_zero, List.set_cons_succ]
            refine wpAnyH_take (i := 1) (v := ?va19) (by simp; rfl) (by kernel_rfl) (by kernel_rfl) (by kernel_rfl) (fun _ _ _ h => h) (Or.inl ⟨by rfl, ?ya19⟩) hHeld ?ra19
            case ya19 => intro w hSw; clear hSw; go_simp; with_reducible rfl
            simp only [Act.put, List.setIfInBounds_toArray, List.set_cons_zero, List.set_cons_succ]
            refine wpAnyH_take (i := 2) (v := ?va20) (by simp; rfl) (by kernel_rfl) (by kernel_rfl) (by kernel_rfl) (fun _ _ _ h => h) (Or.inl ⟨by rfl, ?ya20⟩) hHeld ?ra20
            case ya20 => intro w hSw; clear hSw; go_simp; with_reducible rfl
            simp only [Act.put, List.setIfInBounds_toArray, List.set_cons_zero, List.set_cons_succ]
            refine wpAnyH_take (i := 3) (v := ?va21) (by simp; rfl) (by kernel_rfl) (by kernel_rfl) (by kernel_rfl) (fun _ _ _ h => h) (Or.inl ⟨by rfl, ?ya21⟩) hHeld ?ra21
            case ya21 => intro w hSw; have z := (HC.out w hSw).1; clear hSw; go_simp; with_reducible rfl
            simp only [Act.put, List.setIfInBounds_toArray, List.set_cons_zero, List.set_cons_succ]
            refine wpAnyH_take (i := 4) (v := ?va22) (by simp; rfl) (by kernel_rfl) (by kernel_rfl) (by kernel_rfl) (fun _ _ _ h => h) (Or.inl ⟨by rfl, ?ya22⟩) hHeld ?ra22
            case ya22 => intro w hSw; clear hSw; go_simp; with_reducible rfl
            simp only [Act.put, List.setIfInBounds_toArray, List.set_cons_zero, List.set_cons_succ]
            refine wpAnyH_take (i := 5) (v := ?va23) (by simp; rfl) (by kernel_rfl) (by kernel_rfl) (by kernel_rfl) (fun _ _ _ h => h) (Or.inl ⟨by rfl, ?ya23⟩) hHeld ?ra23
            case ya23 => intro w hSw; clear hSw; go_simp; with_reducible rfl
            simp only [Act.put, List.setIfInBounds_toArray, List.set_cons_zero, List.set_cons_succ]
            refine wpAnyH_take (i := 6) (v := ?va24) (by simp; rfl) (by kernel_rfl) (by kernel_rfl) (by kernel_rfl) (fun _ _ _ h => h) (Or.inl ⟨by rfl, ?ya24⟩) hHeld ?ra24
            case ya24 => intro w hSw; clear hSw; go_simp; with_reducible rfl
            simp only [Act.put, List.setIfInBounds_toArray, List.set_cons_zero, List.set_cons_succ]
            refine wpAnyH_take (i := 7) (v := ?va25) (by simp; rfl) (by kernel_rfl) (by kernel_rfl) (by kernel_rfl) (fun _ _ _ h => h) (Or.inl ⟨by rfl, ?ya25⟩) hHeld ?ra25
            case ya25 => intro w hSw; clear hSw; go_simp; with_reducible rfl
            simp only [Act.put, List.setIfInBounds_toArray, List.set_cons_zero, List.set_cons_succ]
            refine wpAnyH_take (i := 8) (v := ?va26) (by simp; rfl) (by kernel_rfl) (by kernel_rfl) (by kernel_rfl) (fun _ _ _ h => h) (Or.inl ⟨by rfl, ?ya26⟩) hHeld ?ra26
            case ya26 => intro w hSw; have z := (HC.out w hSw).2; clear hSw; go_simp; with_reducible rfl
            simp only [Act.put, List.setIfInBounds_toArray, List.set_cons_zero, List.set_cons_succ]
            refine wpAnyH_take (i := 9) (v := ?va27) (by simp; rfl) (by kernel_rfl) (by kernel_rfl) (by kernel_rfl) (fun _ _ _ h => h) (Or.inl ⟨by rfl, ?ya27⟩) hHeld ?ra27
            case ya27 => intro w hSw; clear hSw; go_simp; with_reducible rfl
            simp only [Act.put, List.setIfInBounds_toArray, List.set_cons_zero, List.set_cons_succ]
            refine wpAnyH_take (i := 10) (v := ?va28) (by simp; rfl) (by kernel_rfl) (by kernel_rfl) (by kernel_rfl) (fun _ _ _ h => h) (Or.inl ⟨by rfl, ?ya28⟩) hHeld ?ra28
            case ya28 => intro w hSw; clear hSw; go_simp; with_reducible rfl
            simp only [Act.put, List.setIfInBounds_toArray, List.set_cons_zero, List.set_cons_succ]
            refine wpAnyH_take (i := 11) (v := undef) (by simp; rfl) (by kernel_rfl) (by kernel_rfl) (by kernel_rfl) (fun _ _ _ h => h) (Or.inr ⟨by rfl, rfl⟩) hHeld ?_
            simp only [Act.put, List.setIfInBounds_toArray, List.set_cons_zero, List.set_cons_succ]
            refine wpAnyH_take (i := 12) (v := undef) (by simp; rfl) (by kernel_rfl) (by kernel_rfl) (by kernel_rfl) (fun _ _ _ h => h) (Or.inr ⟨by rfl, rfl⟩) hHeld ?_
            simp only [Act.put, List.setIfInBounds_toArray, List.set_cons_zero, List.set_cons_succ]
            refine wpAnyH_take (i := 13) (v := undef) (by simp; rfl) (by kernel_rfl) (by kernel_rfl) (by kernel_rfl) (fun _ _ _ h => h) (Or.inr ⟨by rfl, rfl⟩) hHeld ?_
            simp only [Act.put, List.setIfInBounds_toArray, List.set_cons_zero, List.set_cons_succ]
            refine wpAnyH_take (i := 14) (v := undef) (by simp; rfl) (by kernel_rfl) (by kernel_rfl) (by kernel_rfl) (fun _ _ _ h => h) (Or.inr ⟨by rfl, rfl⟩) hHeld ?_
            simp only [Act.put, List.setIfInBounds_toArray, List.set_cons_zero, List.set_cons_succ]
            refine wpAnyH_take (i := 15) (v := undef) (by simp; rfl) (by kernel_rfl) (by kernel_rfl) (by kernel_rfl) (fun _ _ _ h => h) (Or.inr ⟨by rfl, rfl⟩) hHeld ?_
            simp only [Act.put, List.setIfInBounds_toArray, List.set_cons_zero, List.set_cons_succ]
            refine wpAnyH_take (i := 16) (v := undef) (by simp; rfl) (by kernel_rfl) (by kernel_rfl) (by kernel_rfl) (fun _ _ _ h => h) (Or.inr ⟨by rfl, rfl⟩) hHeld ?_
            simp only [Act.put, List.setIfInBounds_toArray, List.set_cons_zero, List.set_cons_succ]
            refine wpAnyH_take (i := 17) (v := undef) (by simp; rfl) (by kernel_rfl) (by kernel_rfl) (by kernel_rfl) (fun _ _ _ h => h) (Or.inr ⟨by rfl, rfl⟩) hHeld ?_
            simp only [Act.put, List.setIfInBounds_toArray, List.set_cons_zero, List.set_cons_succ]
            refine wpAnyH_take (i := 18) (v := undef) (by simp; rfl) (by kernel_rfl) (by kernel_rfl) (by kernel_rfl) (fun _ _ _ h => h) (Or.inr ⟨by rfl, rfl⟩) hHeld ?_
            simp only [Act.put, List.setIfInBounds_toArray, List.set_cons_zero, List.set_cons_succ]
            refine wpAnyH_take (i := 19) (v := undef) (by simp; rfl) (by kernel_rfl) (by kernel_rfl) (by kernel_rfl) (fun _ _ _ h => h) (Or.inr ⟨by rfl, rfl⟩) hHeld ?_
            simp only [Act.put, List.setIfInBounds_toArray, List.set_cons_zero, List.set_cons_succ]
            refine wpAnyH_take (i := 20) (v := ?va29) (by simp; rfl) (by kernel_rfl) (by kernel_rfl) (by kernel_rfl) (fun _ _ _ h => h) (Or.inl ⟨by rfl, ?ya29⟩) hHeld ?ra29
            case ya29 => intro w hSw; clear hSw; go_simp; with_reducible rfl
            simp only [Act.put, List.setIfInBounds_toArray, List.set_cons_zero, List.set_cons_succ]
            refine wpAnyH_done (by kernel_rfl) (NoPanic.normal ?_) _
            have HBZ : Hid (Below W4.heap.size W4 wd) := below_then HBr.out hHeld
            clear hHeld HC HBr
            go_wp2
            go_roundw
            case rel => exact ⟨x + 1, .inl (by omega), by omega, by omega, by go_num, HBZ.out⟩
            case measure => simp [intOf]; omega
        · have HOr : Hid (Own w wr Q 10 (crowdA N W) (fun _ => False)) := HO8.out.later HBr.out
          have HFr : Hid (Fr wr W.length (SW W) (fun _ => 0) (fun _ => false) pw pd (some ⟨w2.heap.size, 0, none⟩)) := HF8.out.later HBr.out
          have hl5 : 0 ≤ late % 5 ∧ late % 5 < 5 := ⟨Int.emod_nonneg _ (by omega), Int.emod_lt_of_pos _ (by omega)⟩
          have HIN : Hid (isIn (entF W.length (SW W) (fun _ => 0) (fun _ => false)) ((W.length : Int) + 1 + late % 5) = false) := out_top (.inl (by omega))
          have HIN0 : Hid (isIn (entF W.length (SW W) (fun _ => 0) (fun _ => false)) 0 = false) := out_top (.inr (by omega))
          clear HO8 HF8 HBr
          by_cases e1 : x < mo
          · have j1 : (x : Int) < (mo : Int) := by omega
            have j2 : ¬ (x : Int) < 20 := by omega
            go_wp2_with (go_at_call 13; refine (num_is _ _).mono ?_; rintro e w' ⟨rfl, rfl⟩)
            refine (o_takeOut HOr.out (by decide) (u64_small (by omega) (by omega)) HIN.out).mono ?_
            rintro e u1 ⟨rfl, o1, b1⟩
            have H1 : Hid (Own w u1 Q 10 (crowdA N W) (fun _ => False) ∧ Below wr.heap.size wr u1) := ⟨o1, b1⟩
            clear o1 b1
            go_wp2_with (go_at_call 13; refine (num_is _ _).mono ?_; rintro e w' ⟨rfl, rfl⟩)
            refine (o_dropOut H1.out.1 (u64_small (by omega) (by omega)) HIN.out).mono ?_
            rintro e u2 ⟨rfl, o1, b1⟩
            have H2 : Hid (Own w u2 Q 10 (crowdA N W) (fun _ => False) ∧ Below wr.heap.size wr u2) := ⟨o1, below_then H1.out.2 b1⟩
            clear o1 b1 H1
            go_wp2_with (go_at_call 13; refine (num_is _ _).mono ?_; rintro e w' ⟨rfl, rfl⟩)
            refine (o_takeOut H2.out.1 (by decide) (u64_small (by omega) (by omega)) HIN0.out).mono ?_
            rintro e u3 ⟨rfl, o1, b1⟩
            have H3 : Hid (Own w u3 Q 10 (crowdA N W) (fun _ => False) ∧ Below wr.heap.size wr u3) := ⟨o1, below_then H2.out.2 b1⟩
            clear o1 b1 H2
            go_wp2_with (go_at_call 13; refine (num_is _ _).mono ?_; rintro e w' ⟨rfl, rfl⟩)
            refine (fair_try H3.out.1 (by decide) hW HSL.out (HFr.out.later H3.out.2)).mono ?_
            rintro e u4 ⟨rfl, b1⟩
            have H4 : Hid (Own w u4 Q 10 (crowdA N W) (fun _ => False)) := H3.out.1.later b1
            clear b1 H3
            go_wp2_with (go_at_call 13; refine (num_is _ _).mono ?_; rintro e w' ⟨rfl, rfl⟩)
            refine (o_lay (H4.out.later (below_alloc _ _)) (by decide) (u64_small (by omega) (by omega)) (B.lit_in _ [0] 1 rfl) (by decide) (fun e => by cases e) (by decide) (lit3 _ _) (E := 0) (lay0_ok hN.1) rfl).mono ?_
            rintro e u5 ⟨rfl, o1, -⟩
            have H5 : Hid (Below w.heap.size w u5) := o1.below
            clear o1 H4
            go_wp2_with (go_at_call 13; refine (num_is _ _).mono ?_; rintro e w' ⟨rfl, rfl⟩)
            go_ret
            exact ⟨rfl, H5.out⟩
          · have j1 : ¬ (x : Int) < (mo : Int) := by omega
            go_wp2_with (go_at_call 13; refine (num_is _ _).mono ?_; rintro e w' ⟨rfl, rfl⟩)
            refine (o_takeOut HOr.out (by decide) (u64_small (by omega) (by omega)) HIN.out).mono ?_
            rintro e u1 ⟨rfl, o1, b1⟩
            have H1 : Hid (Own w u1 Q 10 (crowdA N W) (fun _ => False) ∧ Below wr.heap.size wr u1) := ⟨o1, b1⟩
            clear o1 b1
            go_wp2_with (go_at_call 13; refine (num_is _ _).mono ?_; rintro e w' ⟨rfl, rfl⟩)
            refine (o_dropOut H1.out.1 (u64_small (by omega) (by omega)) HIN.out).mono ?_
            rintro e u2 ⟨rfl, o1, b1⟩
            have H2 : Hid (Own w u2 Q 10 (crowdA N W) (fun _ => False) ∧ Below wr.heap.size wr u2) := ⟨o1, below_then H1.out.2 b1⟩
            clear o1 b1 H1
            go_wp2_with (go_at_call 13; refine (num_is _ _).mono ?_; rintro e w' ⟨rfl, rfl⟩)
            refine (o_takeOut H2.out.1 (by decide) (u64_small (by omega) (by omega)) HIN0.out).mono ?_
            rintro e u3 ⟨rfl, o1, b1⟩
            have H3 : Hid (Own w u3 Q 10 (crowdA N W) (fun _ => False) ∧ Below wr.heap.size wr u3) := ⟨o1, below_then H2.out.2 b1⟩
            clear o1 b1 H2
            go_wp2_with (go_at_call 13; refine (num_is _ _).mono ?_; rintro e w' ⟨rfl, rfl⟩)
            refine (fair_try H3.out.1 (by decide) hW HSL.out (HFr.out.later H3.out.2)).mono ?_
            rintro e u4 ⟨rfl, b1⟩
            have H4 : Hid (Own w u4 Q 10 (crowdA N W) (fun _ => False)) := H3.out.1.later b1
            clear b1 H3
            go_wp2_with (go_at_call 13; refine (num_is _ _).mono ?_; rintro e w' ⟨rfl, rfl⟩)
            refine (o_lay (H4.out.later (below_alloc _ _)) (by decide) (u64_small (by omega) (by omega)) (B.lit_in _ [0] 1 rfl) (by decide) (fun e => by cases e) (by decide) (lit3 _ _) (E := 0) (lay0_ok hN.1) rfl).mono ?_
            rintro e u5 ⟨rfl, o1, -⟩
            have H5 : Hid (Below w.heap.size w u5) := o1.below
            clear o1 H4
            go_wp2_with (go_at_call 13; refine (num_is _ _).mono ?_; rintro e w' ⟨rfl, rfl⟩)
            go_ret
            exact ⟨rfl, H5.out⟩
end Go.Proofs.Ytkffmglcllhbmaa
