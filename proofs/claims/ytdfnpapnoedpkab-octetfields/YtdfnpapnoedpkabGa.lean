/-
  Contracts of the statement's own helpers on sizes: roomySizes, heldSizes.
-/
import Derived.Test.YtdfnpapnoedpkabEe
namespace Go.Proofs.Ytdfnpapnoedpkab
open Go.RowKit

abbrev I64 (xs : List Int) : List Value := xs.map (Value.int .i64)
theorem ones_i64 (xs : List Int) : ∀ v ∈ I64 xs, v.oneCell' = true := by
  intro v hv
  obtain ⟨x, _, rfl⟩ := List.mem_map.1 hv
  rfl

theorem IIn.news {w : World} {k : IntKind} {a : Addr} {n : Nat} {ss : List Int} (h : IIn w k (some a) n ss) : ∀ j u, (ss.map (Value.int k))[j]? = some u → w.cell? (a.add j) = some u := by
  intro j u hj
  have hjl : j < ss.length := by have := (List.getElem?_eq_some_iff.1 hj).1; simpa using this
  obtain ⟨b, o, e, hc⟩ := h.cells (by have := h.len; omega)
  simp only [Option.some.injEq] at e
  subst e
  rw [Go.WideShapes.add_plain, hc j hjl]
  rw [List.getElem?_map, List.getElem?_eq_getElem hjl] at hj
  exact hj

/-- 'append' of a list that may be nil onto one that the call owns -/
theorem wpList_append_any {P : Program} (w : World) {ops : Array Oper} {rest : List Oper} {o : Oper} {a : Act} {Q : Exit → Act → World → Prop} (hgd : o.guard = none) (s x : Operand) (t : TypeId)
    (ho : o.op = .call { callee := .builtin .append, args := #[s, x], argTypes := #[t, t] })
    (base : Nat) (e : TypeId) (i : TypeInfo) (z : Value) (bytes : Nat) (ht : P.underlying t = some (.slice e)) (hi : P.info? e = some i) (hz : i.zero = some z)
    (hsize : i.size = 1) (hby : i.bytes = bytes) (hzs : z.cells.size = 1)
    (v : Value) (n : Nat) (xs : List Value) (hs : a.eval s = v) (hown : w.ownsRow base e 1 v n xs)
    (p : Option Addr) (m c : Nat) (news : List Value) (hx : a.eval x = .slice p m c) (hp : p = none → c = 0) (hmc : m ≤ c) (hl : news.length = m) (hnews : ∀ ad, p = some ad → ∀ j u, news[j]? = some u → w.cell? (ad.add j) = some u) (h1 : ∀ u ∈ news, u.oneCell' = true)
    (h63 : n + m ≤ maxLen) (hbytes : (n + m) * bytes ≤ 140737488355328) (hbase : base ≤ w.heap.size)
    (h : ∀ v' w', w'.ownsRow base e 1 v' (n + m) (xs ++ news) → w.grownBy w' v.ownBlock → wpList P ops Q rest (a.put o.dst v') w') : wpList P ops Q (o :: rest) a w := by
  cases p with
  | some ad => exact wpList_append_own w hgd s x t ho base e i z 1 bytes ht hi hz hsize hby hzs (by omega) v n xs hs hown ad m c news hx (by omega) (hnews ad rfl) h1 h63 hbytes hbase fun v' w' a b _ => h v' w' a b
  | none =>
    obtain rfl := hp rfl
    obtain rfl : m = 0 := by omega
    obtain rfl : news = [] := List.eq_nil_of_length_eq_zero hl
    refine wpList_append_own_none hgd s x t ho base e i 1 ht hi v n xs hs hown hx ?_
    exact h v w (by simpa using hown) (World.grownBy.refl _ _)

set_option maxHeartbeats 1000000 in
theorem roomySizes_any (p : Option Addr) (m d : Nat) (ss : List Int) (w : World) (h : IIn w .i64 p m ss) (hp : p = none → d = 0) (hmd : m ≤ d) (hbig : m + 80 ≤ 17592186044416) :
    Calls Try.prog 7 #[.slice p m d] w fun e w' => ∃ g cap, e = .returned (.slice (some ⟨g, 0, none⟩) m cap) ∧ w'.ownsRow w.heap.size 3 1 (.slice (some ⟨g, 0, none⟩) (m + 2) cap) (m + 2) (I64 (ss ++ [77, 78])) ∧ m + 2 ≤ cap ∧ Below w.heap.size w w' := by
  obtain ⟨i0, hi, hz0, hz1, hz2⟩ := info_parts info3
  have HL : Hid ((I64 ss).length = m) := by show _ = _; rw [List.length_map, h.len]
  have HN : Hid (∀ ad, p = some ad → ∀ j u, (I64 ss)[j]? = some u → (w.alloc (.cells #[] 3)).cell? (ad.add j) = some u) := fun ad e => by subst e; exact (h.later (below_alloc w _)).news
  have HM : Hid ((w.alloc (.cells #[] 3)).ownsRow w.heap.size 3 1 (.slice (some ⟨w.heap.size, 0, none⟩) 0 0) 0 []) := World.ownsRow_made w #[] 0 (Nat.le_refl _) (Nat.zero_le _) rfl
  clear h
  go_enter Try.func7, Try.ntmps7
  go_wp2_with (at_builtin; refine wpList_append_any _ rfl _ _ 23 rfl w.heap.size 3 i0 (.int .i64 0) 8 Try.underlying23 hi hz0 hz1 hz2 rfl _ 0 [] rfl HM.out p m d (I64 ss) rfl hp hmd HL.out HN.out (ones_i64 ss) (by unfold maxLen; omega) (by omega) (by simp) ?_)
  intro v w1 hown hgrow
  have hO : w1.ownsRow w.heap.size 3 1 v m (I64 ss) := by simpa using hown
  have HO : Hid (w1.ownsRow w.heap.size 3 1 v m (I64 ss)) := hO
  have HB : Hid (Below w.heap.size w w1) := ((Below.refl _ w).alloc (Nat.le_refl _) _).grown hgrow (by simp) (by intro k hk; simp [Value.ownBlock] at hk; omega)
  clear hO hown hgrow HN HM hp
  have HN : Hid (∀ j u, (I64 [77, 78])[j]? = some u → (w1.alloc (.cells #[.int .i64 77, .int .i64 78] 3)).cell? ((⟨w1.heap.size, 0, none⟩ : Addr).add j) = some u) := (lit_in64 w1 .i64 3 [77, 78] 2 rfl).news
  go_wp2_with (at_builtin; refine wpList_append_lies _ rfl (.tmp 5) (.tmp 6) 23 rfl w.heap.size 3 i0 (.int .i64 0) 1 8 Try.underlying23 hi hz0 hz1 hz2 rfl (by omega) v m (I64 ss) rfl (HO.out.alloc _) ⟨w1.heap.size, 0, none⟩ 2 2 (I64 [77, 78]) rfl rfl HN.out (ones_i64 _) (by omega) (by unfold maxLen; omega) (by omega) (by have := HB.out.size; simp; omega) _ rfl ?_)
  intro g cap w2 hown2 hgrow2 hat hlt
  have hcap : m + 2 ≤ cap := by
    rcases hown2.2 with ⟨h1, _⟩ | ⟨g', cap', cur, h1, _, _, h2, _⟩
    · cases h1
    · simp only [Value.slice.injEq] at h1
      omega
  have HO2 : Hid (w2.ownsRow w.heap.size 3 1 (.slice (some ⟨g, 0, none⟩) (m + 2) cap) (m + 2) (I64 (ss ++ [77, 78]))) := by
    have e : I64 (ss ++ [77, 78]) = I64 ss ++ I64 [77, 78] := by simp [I64]
    rw [e]
    exact hown2
  have HB2 : Hid (Below w.heap.size w w2) := (HB.out.alloc HB.out.size _).grown hgrow2 (by have := HB.out.size; simp; omega) (fun k hk => (HO.out.lt k hk).1)
  clear hown2 hgrow2 hat hlt HO HB
  have hc1 : (m : Int) ≤ (cap : Int) := by omega
  have hc0 : ¬ cap = 0 := by omega
  go_wp2
  go_ret
  exact ⟨g, cap, rfl, HO2.out, hcap, HB2.out⟩

/-- sizes with marked room behind them, in a block of their own from B on -/
structure RoomS (w : World) (B g n cap : Nat) (ss : List Int) : Prop where
  own : w.ownsRow B 3 1 (.slice (some ⟨g, 0, none⟩) (n + 2) cap) (n + 2) (I64 (ss ++ [77, 78]))
  len : ss.length = n
  cap2 : n + 2 ≤ cap

theorem RoomS.later {w w' : World} {B g n cap : Nat} {ss : List Int} (h : RoomS w B g n cap ss) (hb : Below w.heap.size w w') : RoomS w' B g n cap ss := ⟨own_later h.own hb, h.len, h.cap2⟩
theorem RoomS.at {w : World} {B g n cap : Nat} {ss : List Int} (h : RoomS w B g n cap ss) : B ≤ g ∧ g < w.heap.size := h.own.lt g rfl
theorem RoomS.cell {w : World} {B g n cap : Nat} {ss : List Int} (h : RoomS w B g n cap ss) (i : Nat) (hi : i < n + 2) : w.cell? ⟨g, i, none⟩ = (I64 (ss ++ [77, 78]))[i]? := h.own.cellAt i (by omega)
theorem RoomS.low {w : World} {B g n cap : Nat} {ss : List Int} (h : RoomS w B g n cap ss) : ∀ i (hi : i < ss.length), w.cell? ⟨g, i, none⟩ = some (.int .i64 ss[i]) := by
  intro i hi
  rw [h.cell i (by have := h.len; omega)]
  simp [I64, List.getElem?_append_left, hi]
theorem RoomS.read {w : World} {B g n cap : Nat} {ss : List Int} (h : RoomS w B g n cap ss) : IIn w .i64 (some ⟨g, 0, none⟩) n ss :=
  ⟨h.len, fun _ => ⟨g, 0, rfl, fun i hi => by rw [Nat.zero_add]; exact h.low i hi⟩⟩
theorem RoomS.m77 {w : World} {B g n cap : Nat} {ss : List Int} (h : RoomS w B g n cap ss) : w.cell? ⟨g, n, none⟩ = some (.int .i64 77) := by
  rw [h.cell n (by omega), ← h.len]
  simp [I64]
theorem RoomS.m78 {w : World} {B g n cap : Nat} {ss : List Int} (h : RoomS w B g n cap ss) : w.cell? ⟨g, n + 1, none⟩ = some (.int .i64 78) := by
  rw [h.cell (n + 1) (by omega), ← h.len]
  simp [I64]

theorem roomySizes_x (p : Option Addr) (m d : Nat) (ss : List Int) (w : World) (h : IIn w .i64 p m ss) (hp : p = none → d = 0) (hmd : m ≤ d) (hbig : m + 80 ≤ 17592186044416) :
    Calls Try.prog 7 #[.slice p m d] w fun e w' => ∃ g cap, e = .returned (.slice (some ⟨g, 0, none⟩) m cap) ∧ RoomS w' w.heap.size g m cap ss ∧ Below w.heap.size w w' := by
  refine (roomySizes_any p m d ss w h hp hmd hbig).mono ?_
  rintro e w' ⟨g, cap, rfl, ho, hc, hb⟩
  exact ⟨g, cap, rfl, ⟨ho, h.len, hc⟩, hb⟩

set_option maxHeartbeats 2000000 in
theorem heldSizes_pos (g m cap d b o : Nat) (ss : List Int) (w : World) (hl : ss.length = m) (hin : ∀ i (h : i < ss.length), w.cell? ⟨g, i, none⟩ = some (.int .i64 ss[i])) (h77 : w.cell? ⟨g, m, none⟩ = some (.int .i64 77)) (h78 : w.cell? ⟨g, m + 1, none⟩ = some (.int .i64 78))
    (hcap : m + 2 ≤ cap) (hbig : m + 80 ≤ 17592186044416) (hw : ∀ i (h : i < ss.length), w.cell? ⟨b, o + i, none⟩ = some (.int .i64 ss[i])) (h0 : 0 < m) :
    Calls Try.prog 11 #[.slice (some ⟨g, 0, none⟩) m cap, .slice (some ⟨b, o, none⟩) m d] w fun e w' => e = .returned (.bool true) ∧ ∃ nq, w' = w.drewN nq := by
  have hc1 : (m : Int) + 2 ≤ (cap : Int) := by omega
  have hc0 : ¬ cap = 0 := by omega
  have HL : Hid (ss.length = m) := hl
  have HI : Hid (∀ i (h : i < ss.length), w.cell? ⟨g, i, none⟩ = some (.int .i64 ss[i])) := hin
  have HW : Hid (∀ i (h : i < ss.length), w.cell? ⟨b, o + i, none⟩ = some (.int .i64 ss[i])) := hw
  have H77 : Hid (w.cell? ⟨g, m, none⟩ = some (.int .i64 77)) := h77
  have H78 : Hid (w.cell? ⟨g, m + 1, none⟩ = some (.int .i64 78)) := h78
  clear hl hin hw h77 h78
  go_enter Try.func11, Try.ntmps11
  go_wp2
  go_loopw [6] (fun i wr => ∃ k : Nat, k ≤ m ∧ i = .int .i64 k ∧ ∃ nq, wr = w.drewN nq) (fun i _ => m - (intOf i).toNat)
  case atStart => exact ⟨0, Nat.zero_le _, rfl, 0, rfl⟩
  case round =>
    obtain ⟨k, hk, rfl, nq, hwr⟩ := hrel
    subst hwr
    by_cases hlt : k < m
    · have hkx : k < ss.length := by rw [HL.out]; exact hlt
      have h1 := HI.out k hkx
      have h2 := HW.out k hkx
      have i1 : (k : Int) < (m : Int) := by omega
      have i2 : (k : Int) < (m : Int) + 2 := by omega
      generalize ss[k] = x at *
      go_wp2
      go_quiet (fail)
      go_wp2
      go_roundw
      case rel => exact ⟨k + 1, by omega, by go_num, _, rfl⟩
      case measure => simp [intOf]; omega
    · obtain rfl : m = k := by omega
      have e77 : (w.drewN nq).cell? ⟨g, m, none⟩ = some (.int .i64 77) := H77.out
      have e78 : (w.drewN nq).cell? ⟨g, m + 1, none⟩ = some (.int .i64 78) := H78.out
      go_wp2
      go_ret
      exact ⟨rfl, _, rfl⟩

set_option maxHeartbeats 2000000 in
theorem heldSizes_zero (g cap d : Nat) (q : Option Addr) (w : World) (h77 : w.cell? ⟨g, 0, none⟩ = some (.int .i64 77)) (h78 : w.cell? ⟨g, 1, none⟩ = some (.int .i64 78)) (hcap : 2 ≤ cap) :
    Calls Try.prog 11 #[.slice (some ⟨g, 0, none⟩) 0 cap, .slice q 0 d] w fun e w' => e = .returned (.bool true) ∧ ∃ nq, w' = w.drewN nq := by
  have hc1 : (2 : Int) ≤ (cap : Int) := by omega
  have hc0 : ¬ cap = 0 := by omega
  go_enter Try.func11, Try.ntmps11
  go_wp2
  refine wp_loop_rounds 1 ?_
  rw [rounds_succ]
  go_wp2
  go_ret
  exact ⟨rfl, 0, rfl⟩

theorem heldSizes_x (B g m cap d : Nat) (q : Option Addr) (ss : List Int) (w : World) (hr : RoomS w B g m cap ss) (hbig : m + 80 ≤ 17592186044416) (hw : IIn w .i64 q m ss) :
    Calls Try.prog 11 #[.slice (some ⟨g, 0, none⟩) m cap, .slice q m d] w fun e w' => e = .returned (.bool true) ∧ Below w.heap.size w w' := by
  by_cases h0 : 0 < m
  · obtain ⟨b, o, rfl, hc⟩ := hw.cells h0
    refine (heldSizes_pos g m cap d b o ss w hr.len hr.low hr.m77 hr.m78 hr.cap2 hbig hc h0).mono ?_
    rintro e w' ⟨rfl, nq, rfl⟩
    exact ⟨rfl, below_drawn nq⟩
  · obtain rfl : m = 0 := by omega
    refine (heldSizes_zero g cap d q w hr.m77 hr.m78 hr.cap2).mono ?_
    rintro e w' ⟨rfl, nq, rfl⟩
    exact ⟨rfl, below_drawn nq⟩

end Go.Proofs.Ytdfnpapnoedpkab
