/-
  Layer 15: the document's index, Tickets.
-/
import Derived.Test.YtkgjmejpbklabaaHb
import Derived.Test.YtkgjmejpbklabaaGs
import Derived.Deep.CutBlock
namespace Go.Proofs.Ytkgjmejpbklabaa
open Go.RowKit

set_option maxHeartbeats 2000000 in
set_option maxRecDepth 100000 in
theorem index_at {w : World} {p : Option Addr} {n c J : Nat} {xs : List Int} {x : Int} (hU : UIn w p n xs) (hn : n ≤ 10000) (hup : xs.Pairwise (· < ·)) (hJ : xs[J]? = some x) :
    Calls Try.prog 18 #[.slice p n c, .int .u64 x] w fun e w' => e = .returned (.int .i64 (J : Int)) ∧ w' = w := by
  have hJn : J < n := by rw [← hU.len]; exact (List.getElem?_eq_some_iff.1 hJ).1
  obtain ⟨b, o, rfl, hcs⟩ := hU.cells (by omega)
  have HC : Hid (∀ j, j < n → w.cell? ⟨b, o + j, none⟩ = some (.int .u64 (xs.getD j 0)) ∧ (xs.getD j 0 = x ↔ j = J)) := fun j hj => by
    refine ⟨hcs j hj, ?_⟩
    have h1 : xs[j]? = some (xs.getD j 0) := by
      have := hU.len
      rw [List.getElem?_eq_getElem (by omega)]
      simp [List.getD, List.getElem?_eq_getElem (show j < xs.length by omega)]
    constructor
    · intro e; rw [e] at h1; exact up_at hup h1 hJ
    · rintro rfl; rw [hJ] at h1; exact (Option.some.inj h1).symm
  clear hcs hU hup hJ
  go_enter Try.func18, Try.ntmps18
  go_wp2_with fail
  go_loopw [5] (fun v W => ∃ j : Nat, v = .int .i64 (j : Int) ∧ j ≤ J ∧ Hid (W = w)) (fun v _ => n - (intV v).toNat)
  case atStart => exact ⟨0, rfl, by omega, rfl⟩
  case round =>
    obtain ⟨j, rfl, hj, HW⟩ := hrel
    obtain rfl := HW.out
    clear HW
    obtain ⟨hc, hi⟩ := HC.out j (by omega)
    by_cases e : j = J
    · subst e
      rw [hi.2 rfl] at hc
      clear hi
      go_wp2_with fail
      go_ret
      exact ⟨rfl, rfl⟩
    · have hne : ¬ xs.getD j 0 = x := fun h => e (hi.1 h)
      clear hi
      generalize xs.getD j 0 = y at *
      go_wp2_with fail
      go_roundw
      case rel => exact ⟨j + 1, rfl, by omega, trivial⟩
      case measure => simp [intV]; omega
/-- one more at place j -/
def ins (l : List Int) (j : Nat) (x : Int) : List Int := l.take j ++ x :: l.drop j
theorem ins_len (l : List Int) (j : Nat) (x : Int) (h : j ≤ l.length) : (ins l j x).length = l.length + 1 := by simp [ins]; omega
theorem ins_end (l : List Int) (x : Int) : ins l l.length x = l ++ [x] := by simp [ins]
theorem ins_set {l : List Int} {j : Nat} {x : Int} (h : j ≤ l.length) (y : Int) : (ins l j x).set j y = ins l j y := by
  unfold ins
  rw [List.set_append_right _ _ (by simp; omega)]
  simp [Nat.min_eq_left h]
theorem ins_before {l : List Int} {j : Nat} {x : Int} (h : j + 1 ≤ l.length) : (ins l (j + 1) x)[j]? = some (l.getD j 0) := by
  unfold ins
  rw [List.getElem?_append_left (by simp; omega), List.getElem?_take, if_pos (by omega), List.getElem?_eq_getElem (by omega)]
  simp [List.getD, List.getElem?_eq_getElem (show j < l.length by omega)]
theorem ins_down {l : List Int} {j : Nat} (h : j + 1 ≤ l.length) : ins l (j + 1) (l.getD j 0) = ins l j (l.getD j 0) := by
  have hj : j < l.length := by omega
  have e : l.getD j 0 = l[j] := by simp [List.getD, List.getElem?_eq_getElem hj]
  unfold ins
  rw [e, List.take_succ_eq_append_getElem hj, ← List.getElem_cons_drop hj, List.append_assoc]
  rfl
theorem ins_at {l : List Int} {j : Nat} {x : Int} (h : j ≤ l.length) : (ins l j x)[j]? = some x := by
  unfold ins
  rw [List.getElem?_append_right (by simp; omega)]
  simp [Nat.min_eq_left h]
theorem ins_mem {l : List Int} {j : Nat} {x y : Int} : y ∈ ins l j x ↔ y = x ∨ y ∈ l := by
  unfold ins
  rw [List.mem_append, List.mem_cons]
  constructor
  · rintro (h | h | h)
    · exact .inr (List.mem_of_mem_take h)
    · exact .inl h
    · exact .inr (List.mem_of_mem_drop h)
  · rintro (h | h)
    · exact .inr (.inl h)
    · rw [← List.take_append_drop j l] at h
      rcases List.mem_append.1 h with h | h
      · exact .inl h
      · exact .inr (.inr h)
theorem ins_up {l : List Int} {j : Nat} {x : Int} (h : l.Pairwise (· < ·)) (h1 : ∀ i, i < j → l.getD i 0 < x) (h2 : ∀ y ∈ l.drop j, x < y) : (ins l j x).Pairwise (· < ·) := by
  unfold ins
  rw [← List.take_append_drop j l] at h
  rw [List.pairwise_append] at h ⊢
  refine ⟨h.1, List.pairwise_cons.2 ⟨h2, h.2.1⟩, fun a ha b hb => ?_⟩
  rcases List.mem_cons.1 hb with rfl | hb
  · obtain ⟨i, hi, e⟩ := List.getElem_of_mem ha
    rw [List.length_take] at hi
    have := h1 i (by omega)
    rw [List.getElem_take] at e
    rw [List.getD, List.getElem?_eq_getElem (by omega)] at this
    simp at this; omega
  · exact h.2.2 a ha b hb
theorem up_rest {l : List Int} {j : Nat} {x : Int} (h : l.Pairwise (· < ·)) (h1 : j < l.length → x < l.getD j 0) : ∀ y ∈ l.drop j, x < y := by
  intro y hy
  obtain ⟨i, hi, e⟩ := List.getElem_of_mem hy
  rw [List.length_drop] at hi
  rw [List.getElem_drop] at e
  have h3 := h1 (by omega)
  have hj : l.getD j 0 = l[j] := by simp [List.getD, List.getElem?_eq_getElem (show j < l.length by omega)]
  rw [hj] at h3
  by_cases hi0 : i = 0
  · subst hi0
    simp at e; omega
  · have := (List.pairwise_iff_getElem.1 h) j (j + i) (by omega) (by omega) (by omega)
    omega
theorem ends_get {es : List Eg} {n q : Nat} (hl : es.length = n) (hq : q < n) : (ends (egs es)).getD (2 * q) 0 = (es.getD q noEg).f ∧ (ends (egs es)).getD (2 * q + 1) 0 = (es.getD q noEg).t := by
  subst hl
  induction es generalizing q with
  | nil => simp at hq
  | cons e es ih =>
    have e0 : ends (egs (e :: es)) = e.f :: e.t :: ends (egs es) := rfl
    rw [e0]
    cases q with
    | zero => simp [List.getD]
    | succ q =>
      have := ih (q := q) (by simpa using hq)
      have e1 : 2 * (q + 1) = 2 * q + 1 + 1 := by omega
      rw [e1]
      simpa [List.getD] using this
theorem ends_take {es : List Eg} {i : Nat} {n : Nat} (hl : es.length = n) (hi : i < 2 * n) : (ends (egs es)).take (i + 1) = (ends (egs es)).take i ++ [(ends (egs es)).getD i 0] := by
  have : i < (ends (egs es)).length := by rw [ends_length]; simp [egs]; omega
  rw [List.take_add_one, List.getElem?_eq_getElem this]
  simp [List.getD, List.getElem?_eq_getElem this]
set_option maxHeartbeats 2000000 in
set_option maxRecDepth 100000 in
theorem rtickets_at {w : World} {p : Option Addr} {n c : Nat} {es : List Eg} (hE : EIn w p n es) (hz : n ≤ 4500) :
    Calls Try.prog 16 #[.slice p n c] w fun e w' => ∃ (r : Option Addr) (cr : Nat) (ts : List Int), e = .returned (.slice r ts.length cr) ∧ w'.ownsRow w.heap.size 25 1 (.slice r ts.length cr) ts.length (U64 ts) ∧ RowKit.Below w.heap.size w w' ∧ ts.Pairwise (· < ·) ∧ (∀ x, x ∈ ts ↔ ∃ e ∈ egs es, x = e.1 ∨ x = e.2) ∧ ts.length ≤ 2 * n := by
  have HE : Hid (∀ W, RowKit.Below w.heap.size w W → EIn W p n es) := fun W hW => hE.later hW
  have HL : Hid (es.length = n) := hE.len
  clear hE
  go_enter Try.func16, Try.ntmps16
  go_wp2_with fail
  go_loopw [3, 4] (fun v3 v W => ∃ (r : Option Addr) (cr i : Nat) (out : List Int), v3 = .slice r out.length cr ∧ v = .int .i64 (i : Int) ∧ i ≤ 2 * n ∧ out.length ≤ i ∧ Hid (RowKit.Below w.heap.size w W) ∧ Hid (W.ownsRow w.heap.size 25 1 (.slice r out.length cr) out.length (U64 out)) ∧ Hid (out.Pairwise (· < ·) ∧ ∀ x, x ∈ out ↔ x ∈ (ends (egs es)).take i)) (fun v3 v _ => 2 * n - (intV v).toNat)
  case atStart => exact ⟨none, 0, 0, [], rfl, rfl, by omega, by simp, RowKit.Below.refl _ _, World.ownsRow_nil _ _ _ _, by simp, by simp⟩
  case round =>
    obtain ⟨r, cr, i, out, rfl, rfl, hi, hoi, HB, HO, HX⟩ := hrel
    by_cases hin : i < 2 * n
    · have HTA : Hid ((ends (egs es)).take (i + 1) = (ends (egs es)).take i ++ [(ends (egs es)).getD i 0]) := ends_take HL.out hin
      obtain ⟨eb, eo, rfl, hcs⟩ := (HE.out wr HB.out).cells (by omega)
      obtain ⟨h1, h2, h3, h4⟩ := hcs (i / 2) (by omega)
      have hg := ends_get HL.out (q := i / 2) (by omega)
      clear hcs
      obtain ⟨tt, htt⟩ : ∃ tt, (ends (egs es)).getD i 0 = tt := ⟨_, rfl⟩
      rw [htt] at HTA
      have hlt2 : (i : Int) < 2 * (n : Int) := by omega
      go_upto_if 23 with fail
      go_cut [5] from 24 to 29 (fun v W => v = .int .u64 tt ∧ Hid (W = wr))
      case first =>
        by_cases hpar : i % 2 = 1
        · have he : (es.getD (i / 2) noEg).t = tt := by rw [← hg.2, ← htt]; congr 1; omega
          rw [he] at h2
          have hb : ((i : Int) % 2 == 1) = true := by rw [beq_iff_eq]; omega
          clear he hg htt h1 h3 h4
          generalize es.getD (i / 2) noEg = ed at *
          go_wp2_with fail
          go_meet
          case rel => exact ⟨rfl, rfl⟩
        · have he : (es.getD (i / 2) noEg).f = tt := by rw [← hg.1, ← htt]; congr 1; omega
          have hb : ((i : Int) % 2 == 1) = false := by rw [beq_eq_false_iff_ne]; omega
          go_wp2_with fail
          go_meet
          case rel => exact ⟨by rw [← he]; simp [List.getD], rfl⟩
      case rest =>
        obtain ⟨rfl, HW⟩ := hcut
        obtain rfl := HW.out
        clear HW h1 h2 h3 h4 hg htt
        have HUO : Hid (UIn wc r out.length out) := uin_of_own HO.out
        go_upto_block 2 with fail
        go_cut [6] from 30 to 43 (fun v W => ∃ k : Nat, v = .int .i64 (k : Int) ∧ k ≤ out.length ∧ Hid (W = wc) ∧ Hid ((∀ j, j < k → out.getD j 0 < tt) ∧ (k < out.length → tt ≤ out.getD k 0)))
        case first =>
          go_wp2_with fail
          go_loopw [6] (fun v W => ∃ k : Nat, v = .int .i64 (k : Int) ∧ k ≤ out.length ∧ Hid (W = wc) ∧ Hid (∀ j, j < k → out.getD j 0 < tt)) (fun v _ => out.length - (intV v).toNat)
          case atStart => exact ⟨0, rfl, by omega, rfl, fun j hj => by omega⟩
          case round =>
            obtain ⟨k, rfl, hk, HW, HLT⟩ := hrel
            obtain rfl := HW.out
            clear HW
            by_cases hkl : k < out.length
            · obtain ⟨ob, oo, rfl, hc⟩ := HUO.out.cells (by omega)
              have hck := hc k hkl
              clear hc
              by_cases hlt : out.getD k 0 < tt
              · have HLT2 : Hid (∀ j, j < k + 1 → out.getD j 0 < tt) := fun j hj => by
                  by_cases e : j = k
                  · rw [e]; exact hlt
                  · exact HLT.out j (by omega)
                generalize out.getD k 0 = y at *
                have hd : decide (y < tt) = true := decide_eq_true hlt
                go_wp2_with fail
                go_roundw
                case rel => exact ⟨k + 1, rfl, by omega, (by first | exact trivial | rfl), HLT2⟩
                case measure => simp [intV]; omega
              · have HGE : Hid (k < out.length → tt ≤ out.getD k 0) := fun _ => by omega
                obtain ⟨y, ey⟩ : ∃ y, out.getD k 0 = y := ⟨_, rfl⟩
                rw [ey] at hck hlt
                clear ey
                have hd : decide (y < tt) = false := decide_eq_false hlt
                go_wp2_with fail
                go_meet
                case rel => exact ⟨k, rfl, by omega, (by first | exact trivial | rfl), HLT.out, HGE.out⟩
            · have HGE : Hid (k < out.length → tt ≤ out.getD k 0) := fun h => by omega
              go_wp2_with fail
              go_meet
              case rel => exact ⟨k, rfl, by omega, (by first | exact trivial | rfl), HLT.out, HGE.out⟩
        case rest =>
          obtain ⟨k, rfl, hk, HW, HKX⟩ := hcut
          obtain rfl := HW.out
          clear HW
          by_cases hke : k < out.length ∧ out.getD k 0 = tt
          · obtain ⟨ob, oo, rfl, hc⟩ := HUO.out.cells (by omega)
            have hck := hc k hke.1
            rw [hke.2] at hck
            have hkl := hke.1
            have HX2 : Hid (out.Pairwise (· < ·) ∧ ∀ x, x ∈ out ↔ x ∈ (ends (egs es)).take (i + 1)) := ⟨HX.out.1, fun x => by
              rw [HTA.out, List.mem_append, HX.out.2, List.mem_singleton]
              constructor
              · exact .inl
              · rintro (h | rfl)
                · exact h
                · rw [← HX.out.2, ← hke.2, List.getD, List.getElem?_eq_getElem hkl]
                  exact List.getElem_mem _⟩
            clear hc hke
            go_wp2_with fail
            go_roundw
            case rel => exact ⟨some ⟨ob, oo, none⟩, cr, i + 1, out, rfl, rfl, by omega, by omega, HB, HO, HX2⟩
            case measure => simp [intV]; omega
          · have HNE : Hid (k < out.length → ¬ out.getD k 0 = tt) := fun h e => hke ⟨h, e⟩
            clear hke
            have HUP : Hid ((ins out k tt).Pairwise (· < ·) ∧ ∀ x, x ∈ ins out k tt ↔ x ∈ (ends (egs es)).take (i + 1)) := by
              refine ⟨ins_up HX.out.1 HKX.out.1 (up_rest HX.out.1 fun h => ?_), fun x => ?_⟩
              · have := HKX.out.2 h
                have := HNE.out h
                omega
              · rw [ins_mem, HTA.out, List.mem_append, HX.out.2, List.mem_singleton]
                constructor
                · rintro (h | h)
                  · exact .inr h
                  · exact .inl h
                · rintro (h | h)
                  · exact .inr h
                  · exact .inl h
            have HSZ : Hid (w.heap.size ≤ wc.heap.size) := HB.out.size
            go_upto_region 11 with fail
            go_cut [55] from 44 to 55 (fun v W => v = .bool false ∧ Hid (W = wc))
            case first =>
              by_cases hkl : k < out.length
              · obtain ⟨ob, oo, rfl, hc⟩ := HUO.out.cells (by omega)
                have hck := hc k hkl
                have hne := HNE.out hkl
                clear hc
                obtain ⟨y, ey⟩ : ∃ y, out.getD k 0 = y := ⟨_, rfl⟩
                rw [ey] at hck hne
                clear ey
                have hb : (y == tt) = false := by rw [beq_eq_false_iff_ne]; exact hne
                go_wp2_with fail
                go_meet
                case rel => exact ⟨rfl, (by first | exact trivial | rfl)⟩
              · go_wp2_with fail
                go_meet
                case rel => exact ⟨rfl, (by first | exact trivial | rfl)⟩
            case rest =>
              obtain ⟨rfl, HW⟩ := hcut
              obtain rfl := HW.out
              clear HW HKX HNE
              go_wp2_with (at_builtin; refine O.wpList_one (w := wc) rfl (.tmp 56) (.tmp 57) O.elU rfl rfl HO.out _ rfl (by simp) rfl (by omega) HSZ.out ?_; intro p5 c5 w5 ho hk5 hv; have HO5 : Hid (w5.ownsRow w.heap.size 25 1 (.slice p5 (out.length + 1) c5) (out.length + 1) (U64 out ++ [.int .u64 0])) := ho; have HB5 : Hid (RowKit.Below w.heap.size w w5) := hk5.into HB.out (fun b hb e => by have := (HO.out.lt b e).1; omega) (Nat.le_refl _); clear ho hk5 hv)
              obtain ⟨g5, c5', e5, -⟩ := O.own_some HO5.out (by omega)
              cases e5
              have HO6 : Hid (w5.ownsRow w.heap.size 25 1 (.slice (some ⟨g5, 0, none⟩) (out.length + 1) c5) (out.length + 1) (U64 (ins out out.length 0))) := by
                have := HO5.out
                show World.ownsRow _ _ _ _ _ _ _
                rw [ins_end, U64, List.map_append]
                exact this
              clear HO5 HB HO HUO
              have hol : out.length ≤ 9000 := by omega
              go_loopw [7] (fun v W => ∃ (j : Nat) (y : Int), v = .int .i64 (j : Int) ∧ k ≤ j ∧ j ≤ out.length ∧ Hid (RowKit.Below w.heap.size w W) ∧ Hid (W.ownsRow w.heap.size 25 1 (.slice (some ⟨g5, 0, none⟩) (out.length + 1) c5) (out.length + 1) (U64 (ins out j y)))) (fun v _ => (intV v).toNat)
              case atStart => exact ⟨out.length, 0, rfl, by omega, by omega, HB5, HO6⟩
              case round =>
                obtain ⟨j, y, rfl, hkj, hjl, HBr, HOr⟩ := hrel
                by_cases hjk : k < j
                · obtain ⟨s, rfl⟩ : ∃ s, j = s + 1 := ⟨j - 1, by omega⟩
                  have h1 : wr.cell? ⟨g5, s, none⟩ = some (.int .u64 (out.getD s 0)) := O.own_cell HOr.out (by rw [U64, List.getElem?_map, ins_before hjl]; rfl)
                  have h2 : wr.cell? ⟨g5, s + 1, none⟩ = some (.int .u64 y) := O.own_cell HOr.out (by rw [U64, List.getElem?_map, ins_at hjl]; rfl)
                  have h3 : wr.frozen? ⟨g5, s + 1, none⟩ = false := O.own_free HOr.out _
                  have HO7 : Hid ((wr.setCell ⟨g5, s + 1, none⟩ (.int .u64 (out.getD s 0))).ownsRow w.heap.size 25 1 (.slice (some ⟨g5, 0, none⟩) (out.length + 1) c5) (out.length + 1) (U64 (ins out s (out.getD s 0)))) := by
                    have := O.own_set HOr.out (g := g5) rfl (s + 1) (.int .u64 (out.getD s 0))
                    show World.ownsRow _ _ _ _ _ _ _
                    rw [← ins_down hjl, ← ins_set (x := y) hjl, U64, List.map_set]
                    exact this
                  have HB7 : Hid (RowKit.Below w.heap.size w (wr.setCell ⟨g5, s + 1, none⟩ (.int .u64 (out.getD s 0)))) := HBr.out.setCell (HOr.out.lt g5 rfl).1 _
                  generalize out.getD s 0 = z at *
                  rw [show ((s + 1 : Nat) : Int) = (s : Int) + 1 by omega]
                  go_wp2_with fail
                  go_roundw
                  case rel => exact ⟨s, z, by simp, by omega, by omega, HB7, HO7⟩
                  case measure => simp [intV]
                · obtain rfl : k = j := by omega
                  have h2 : wr.cell? ⟨g5, k, none⟩ = some (.int .u64 y) := O.own_cell HOr.out (by rw [U64, List.getElem?_map, ins_at hjl]; rfl)
                  have h3 : wr.frozen? ⟨g5, k, none⟩ = false := O.own_free HOr.out _
                  have HO7 : Hid ((wr.setCell ⟨g5, k, none⟩ (.int .u64 tt)).ownsRow w.heap.size 25 1 (.slice (some ⟨g5, 0, none⟩) (out.length + 1) c5) (out.length + 1) (U64 (ins out k tt))) := by
                    have := O.own_set HOr.out (g := g5) rfl k (.int .u64 tt)
                    show World.ownsRow _ _ _ _ _ _ _
                    rw [← ins_set (x := y) hjl, U64, List.map_set]
                    exact this
                  have HB7 : Hid (RowKit.Below w.heap.size w (wr.setCell ⟨g5, k, none⟩ (.int .u64 tt))) := HBr.out.setCell (HOr.out.lt g5 rfl).1 _
                  go_wp2_with fail
                  go_roundw
                  case rel =>
                    refine ⟨some ⟨g5, 0, none⟩, c5, i + 1, ins out k tt, by rw [ins_len _ _ _ hjl], rfl, by omega, by rw [ins_len _ _ _ hjl]; omega, HB7, ?_, HUP⟩
                    rw [ins_len _ _ _ hjl]; exact HO7
                  case measure => simp [intV]; omega
    · obtain rfl : i = 2 * n := by omega
      go_wp2_with fail
      go_ret
      refine ⟨r, cr, out, rfl, HO.out, HB.out, HX.out.1, fun x => ?_, hoi⟩
      rw [HX.out.2, List.take_of_length_le (by rw [ends_length, egs, List.length_map, HL.out]; omega), ends_mem]
end Go.Proofs.Ytkgjmejpbklabaa
