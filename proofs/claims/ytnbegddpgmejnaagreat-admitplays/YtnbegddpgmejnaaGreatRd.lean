/-
  Layer 13: the document's Begin.
-/
import Derived.Test.YtnbegddpgmejnaaGreatRb
import Derived.Test.YtnbegddpgmejnaaGreatRf
namespace Go.Proofs.YtnbegddpgmejnaaGreat
open Go.RowKit


section
variable {w w' : World} {G : Nat → Prop} {R : Nat} {vW vI : Value} {a : Ad} {ws is : List Who}

theorem formS_may {a : Ad} (ok : a.Ok) : B.mayS a.bl a.mr = true := (mayC_iff.1 ok.may).1
theorem own_base {base : Nat} {e : TypeId} {size : Nat} {v : Value} {n : Nat} {xs : List Value} (h : w.ownsRow base e size v n xs) {b2 : Nat} (hb : ∀ g, v.ownBlock = some g → b2 ≤ g) : w.ownsRow b2 e size v n xs := by
  refine ⟨h.1, ?_⟩
  rcases h.2 with h | ⟨g, cap, cur, e1, e2, r⟩
  · exact .inl h
  · exact .inr ⟨g, cap, cur, e1, hb g (by rw [e1]; rfl), r⟩
theorem build_who (w : World) (t : Int) (q : Option Addr) (n d : Nat) : (Instr.build 84 #[(0, .int .u64 t), (1, .slice q n d)]).run Tryz.prog w = .ok (.agg #[.int .u64 t, .slice q n d, .int .i64 0, .bool false]) w := by kernel_rfl
theorem FR.later {we : World} {base : Nat} {e : TypeId} {size : Nat} {v : Value} {n : Nat} {xs : List Value} (h : FR we w base e size v n xs) (hb : Below w.heap.size w w') : FR we w' base e size v n xs := ⟨own_later h.own hb, below_then h.below hb, h.new⟩
set_option maxHeartbeats 2000000 in
set_option maxRecDepth 100000 in
theorem rbegin_bad (h : RL w G R vW vI a ws is) (ok : a.Ok) {p : Option Addr} {m c : Nat} {xs : List Int} (hI : B.IIn w p m xs) (hm : m ≤ 1000) (hE : a.begE xs ≠ 0) :
    Calls Tryz.prog 62 #[qp R, .slice p m c] w fun e w' => e = .returned (.tuple #[.int .u64 0, nils, .int .i64 (a.begE xs)]) ∧ Below w.heap.size w w' := by
  have HI : Hid (B.IIn w.drew p m xs) := ⟨hI.len, hI.cells⟩
  have c0 : w.drew.cell? ⟨R, 0, none⟩ = some (.int .i64 a.bl) := h.c 0
  have c2 : w.drew.cell? ⟨R, 2, none⟩ = some (.int .i64 a.mr) := h.c 2
  have HS : Hid (B.mayS a.bl a.mr = true) := formS_may ok
  have hE' : ((B.formS xs a.bl a.mr).2 != 0) = true := by rw [bne_iff_ne]; exact hE
  have HE : Hid (a.begE xs = (B.formS xs a.bl a.mr).2) := rfl
  clear hI h ok hE
  go_enter Tryz.func62, Tryz.ntmps62
  go_wp2_with fail
  go_region_with (go_at_call 76; refine (B.rform_is p m c xs a.bl a.mr w.drew hm HI.out HS.out).mono ?_; rintro e w2 ⟨q, d, rfl, hmade⟩; have HB : Hid (Below w.heap.size w w2) := below_then (below_drew w) hmade.below; clear hmade)
  all_goals (
    generalize (B.formS xs a.bl a.mr).1.length = fl at *
    generalize (B.formS xs a.bl a.mr).2 = E at *
    go_wp2
    go_ret3
    exact ⟨by rw [HE.out]; rfl, HB.out⟩)
set_option maxHeartbeats 2000000 in
set_option maxRecDepth 100000 in
theorem rbegin_ok (h : RL w G R vW vI a ws is) (hR : ¬ G R) (ok : a.Ok) (hN : a.next ≤ 1000) {p : Option Addr} {m c : Nat} {xs f : List Int} (hI : B.IIn w p m xs) (hm : m ≤ 1000) (hf : B.formS xs a.bl a.mr = (f, 0)) :
    Calls Tryz.prog 62 #[qp R, .slice p m c] w fun e w' => ∃ q d, e = .returned (.tuple #[.int .u64 a.next, .slice q f.length d, .int .i64 0]) ∧ Frm w' (.slice q f.length d) f ∧ (∀ g, blk (.slice q f.length d) = some g → w.heap.size ≤ g) ∧ RAf w w' G R { a with next := a.next + 1, W := a.W ++ [(a.next, f)] } := by
  have HI : Hid (B.IIn w.drew p m xs) := ⟨hI.len, hI.cells⟩
  have c0 : w.drew.cell? ⟨R, 0, none⟩ = some (.int .i64 a.bl) := h.c 0
  have c2 : w.drew.cell? ⟨R, 2, none⟩ = some (.int .i64 a.mr) := h.c 2
  have HS : Hid (B.mayS a.bl a.mr = true) := formS_may ok
  have HF : Hid (B.formS xs a.bl a.mr = (f, 0)) := hf
  have H : Hid (RL w G R vW vI a ws is) := h
  have HR : Hid (¬ G R) := hR
  have hx0 : 1 ≤ a.next := ok.nums.2.2.2.2.2
  have hwl : ws.length ≤ 1000 := by have := h.wlen; have := ok.wlen; omega
  have hw : IntKind.u64.wrap (a.next + 1) = a.next + 1 := by rw [IntKind.wrap_u64]; omega
  have hmx : ¬ (4611686018427387904 : Int) < a.next := by omega
  clear hI h ok hR hf
  go_enter Tryz.func62, Tryz.ntmps62
  go_wp2_with fail
  go_region_with (go_at_call 76; refine (B.rform_f p m c xs f 0 a.bl a.mr HF.out w.drew hm HI.out HS.out).mono ?_; rintro e w2 ⟨q, d, rfl, hmade⟩; have HB : Hid (B.Made w.drew w2 q f.length d f) := hmade; clear hmade)
  all_goals (
    clear c0 c2 HI HS HF
    have hb2 : Hid (Below w.heap.size w w2) := below_then (below_drew w) HB.out.below
    have h2 : Hid (RL w2 G R vW vI a ws is) := H.out.later hb2.out
    have hfr : Hid (Frm w2 (.slice q f.length d) f ∧ ∀ g, blk (.slice q f.length d) = some g → w.heap.size ≤ g) := ⟨Frm.of_made HB.out, fun g hg => own_blk HB.out.own hg⟩
    have c5 : w2.cell? ⟨R, 5, none⟩ = some (.int .u64 a.next) := h2.out.c 5
    have f5 : w2.frozen? ⟨R, 5, none⟩ = false := h2.out.free 5
    have hst3 : Hid ((w2.setCell ⟨R, 5, none⟩ (.int .u64 (a.next + 1))).heap[R]? = some (.cells (rcells { a with next := a.next + 1 } vW vI) 71 (0, 0))) := by
      show _ = _
      rw [L.st_set 5 _ h2.out.st]; rfl
    have k3 : Hid (Kept (· = R) w (w2.setCell ⟨R, 5, none⟩ (.int .u64 (a.next + 1)))) := (Kept.of_below _ hb2.out).trans (Kept.setCell R 5 _) (fun _ _ e => e)
    have hr3 : Hid ((w2.setCell ⟨R, 5, none⟩ (.int .u64 (a.next + 1))).ownsRow 0 84 4 vW ws.length (hcells ws)) := (H.out.W.turn HR.out k3.out).row
    have hf3 : Hid (Frm (w2.setCell ⟨R, 5, none⟩ (.int .u64 (a.next + 1))) (.slice q f.length d) f) := hfr.out.1.keeps fun g hg => (Kept.setCell (w := w2) R 5 _).block g (hfr.out.1.lt hg) (fun e => by have := hfr.out.2 g hg; have := H.out.lt; omega)
    obtain ⟨w3, hw3⟩ : ∃ w3, w3 = w2.setCell ⟨R, 5, none⟩ (.int .u64 (a.next + 1)) := ⟨_, rfl⟩
    have HW3 : Hid (w3 = w2.setCell ⟨R, 5, none⟩ (.int .u64 (a.next + 1))) := hw3
    rw [← hw3] at hst3 k3 hr3 hf3
    clear hw3
    have d6 : w3.cell? ⟨R, 6, none⟩ = some vW := cell_of_row _ R 6 _ 71 (0, 0) hst3.out
    have hR3 : Hid (R < w3.heap.size) := (Array.getElem?_eq_some_iff.1 hst3.out).1
    have F0 : Hid (FR w3 (w3.alloc (.cells #[] 84)) 0 84 4 (.slice (some ⟨w3.heap.size, 0, none⟩) 0 0) 0 []) := FR.empty 84 4 (Below.refl _ _) (Nat.zero_le _)
    have e6 : (w3.alloc (.cells #[] 84)).cell? ⟨R, 6, none⟩ = some vW := ((below_alloc w3 _).cell (p := ⟨R, 6, none⟩) hR3.out).trans d6
    go_upto_region 8 with fail
    rw [← HW3.out]
    clear c5 f5
    go_wp2_with (at_builtin; (first
      | (refine wpList_own_any rfl (.tmp 45) (.tmp 49) elW rfl rfl F0.out.own rfl (own_later hr3.out F0.out.below) (ones_h ws) (by omega) (Nat.zero_le _) ?_; intro v1 w5 ho hk hv; have F1 : Hid (FR w3 w5 0 84 4 v1 ws.length (hcells ws)) := (by have h := F0.out.app ho hk hv; rw [Nat.zero_add, List.nil_append] at h; exact h); clear ho hk hv; obtain ⟨p1, c1, rfl⟩ := own_shape F1.out.own)
      | (refine wpList_own_any (n := ws.length) (m := 1) (base := 0) (base' := 0) rfl (.tmp 50) (.tmp 54) elW rfl rfl (F1.out.later (below_alloc w5 _)).own rfl (own_one (base := 0) (cs := [.int .u64 a.next, .slice q f.length d, .int .i64 0, .bool false]) w5 rfl (Nat.zero_le _)) (ones_h [⟨a.next, q, f.length, d, 0, false⟩]) (by omega) (Nat.zero_le _) ?_; intro v2 w6 ho hk hv; have F2 : Hid (FR w3 w6 0 84 4 v2 (ws.length + 1) (hcells ws ++ [.int .u64 a.next, .slice q f.length d, .int .i64 0, .bool false])) := (F1.out.later (below_alloc w5 _)).app ho hk hv; clear ho hk hv; obtain ⟨p2, c2, rfl⟩ := own_shape F2.out.own; have g6 : w6.cell? ⟨R, 6, none⟩ = some vW := (F2.out.below.cell (p := ⟨R, 6, none⟩) hR3.out).trans d6; have HS6 : Hid (w6.heap[R]? = some (.cells (rcells { a with next := a.next + 1 } vW vI) 71 (0, 0))) := (F2.out.below.block R hR3.out).trans hst3.out; have f6 : w6.frozen? ⟨R, 6, none⟩ = false := by simp [World.frozen?, HS6.out])))
    go_ret3
    have hk7 := Kept.setCell (w := w6) R 6 (.slice p2 (ws.length + 1) c2)
    have k7 : Kept (· = R) w (w6.setCell ⟨R, 6, none⟩ (.slice p2 (ws.length + 1) c2)) := (k3.out.trans (Kept.of_below (fun _ => False) F2.out.below) (fun _ _ e => e.elim)).trans hk7 (fun _ _ e => e)
    have hfr7 : Frm (w6.setCell ⟨R, 6, none⟩ (.slice p2 (ws.length + 1) c2)) (.slice q f.length d) f := (hf3.out.later F2.out.below).keeps fun g hg => hk7.block g ((hf3.out.later F2.out.below).lt hg) (fun e => by have := hfr.out.2 g hg; have := H.out.lt; omega)
    refine ⟨q, d, rfl, hfr7, hfr.out.2, ⟨.slice p2 (ws.length + 1) c2, vI, ws ++ [⟨a.next, q, f.length, d, 0, false⟩], is, ?_, RR.fresh ?_ ?_ ?_, H.out.I.turn HR.out k7⟩, k7⟩
    · rw [L.st_set 6 _ HS6.out]
      rfl
    · have := own_far F2.out.own hk7 fun g hg e => by have := F2.out.new g hg; have := hR3.out; omega
      rw [hcells_app, hcells_one, List.length_append]
      exact this
    · have e1 : wl (a.W ++ [(a.next, f)]) = wl a.W ++ [(a.next, f, 0)] := by simp [wl]
      show Mis _ _ (wl (a.W ++ [(a.next, f)])) _
      rw [e1]
      exact (H.out.W.mi.turn HR.out k7).app ⟨rfl, hfr7, fun g hg => .inr ⟨hfr.out.2 g hg, hfr7.lt hg⟩, rfl, by simp⟩
    · intro g hg
      have := F2.out.new g hg
      have := k3.out.size
      omega)
theorem rbegin_at (h : RL w G R vW vI a ws is) (hR : ¬ G R) (ok : a.Ok) (hN : a.next ≤ 1000) {p : Option Addr} {m c : Nat} {xs : List Int} (hI : B.IIn w p m xs) (hm : m ≤ 1000) :
    Calls Tryz.prog 62 #[qp R, .slice p m c] w fun e w' => ∃ q d, e = .returned (.tuple #[.int .u64 (a.begT xs), .slice q (a.begF xs).length d, .int .i64 (a.begE xs)]) ∧ Frm w' (.slice q (a.begF xs).length d) (a.begF xs) ∧ (∀ g, blk (.slice q (a.begF xs).length d) = some g → w.heap.size ≤ g) ∧ RAf w w' G R (a.begS xs) := by
  by_cases e : a.begE xs = 0
  · have e1 : a.begS xs = { a with next := a.next + 1, W := a.W ++ [(a.next, a.begF xs)] } := by simp only [Ad.begS, if_pos e]
    have e2 : a.begT xs = a.next := by simp only [Ad.begT, if_pos e]
    rw [e1, e2, e]
    exact rbegin_ok h hR ok hN hI hm (Prod.ext rfl e)
  · have e1 : a.begS xs = a := by simp only [Ad.begS, if_neg e]
    have e2 : a.begT xs = 0 := by simp only [Ad.begT, if_neg e]
    have e3 : a.begF xs = [] := (B.formS_errs xs a.bl a.mr).2 e
    rw [e1, e2, e3]
    refine (rbegin_bad h ok hI hm e).mono ?_
    rintro e' w' ⟨rfl, hb⟩
    exact ⟨none, 0, rfl, Frm.nil _, fun g hg => (by cases hg), RAf.same h hb⟩
end
end Go.Proofs.YtnbegddpgmejnaaGreat
