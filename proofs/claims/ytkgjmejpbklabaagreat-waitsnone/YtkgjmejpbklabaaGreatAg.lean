/-
  Layer 13: Begin.
-/
import Derived.Test.YtkgjmejpbklabaaGreatAf
namespace Go.Proofs.YtkgjmejpbklabaaGreat.M
open Go.RowKit
section
variable {w w' : World} {F : Ft} {n : Nat} {a : Ad}
theorem below_drew (w : World) : Below w.heap.size w w.drew := (Below.refl _ w).drew
set_option maxHeartbeats 2000000 in
set_option maxRecDepth 100000 in
theorem begin_nil (w : World) (v : Value) : Calls Tryz.prog 31 #[nilq, v] w fun e w' => e = .returned (.tuple #[.int .u64 0, nils, .int .i64 1]) ∧ w' = w := by
  go_enter Tryz.func31, Tryz.ntmps31
  go_wp2
  go_ret3
  exact ⟨rfl, rfl⟩
set_option maxHeartbeats 2000000 in
set_option maxRecDepth 100000 in
theorem begin_bad (h : PL w F n a) {p : Option Addr} {m c : Nat} {xs f : List Int} {E : Int} (hI : B.IIn w p m xs) (hm : m + 80 ≤ 17592186044416) (hf : B.formS xs a.bl a.mr = (f, E)) (hE : E ≠ 0) :
    Calls Tryz.prog 31 #[qp F.Q, .slice p m c] w fun e w' => e = .returned (.tuple #[.int .u64 0, nils, .int .i64 E]) ∧ Below w.heap.size w w' := by
  have HI : Hid (B.IIn w.drew p m xs) := ⟨hI.len, hI.cells⟩
  have HF : Hid (B.formS xs a.bl a.mr = (f, E)) := hf
  have hEb : (E != 0) = true := by simpa using hE
  have c0 : w.drew.cell? ⟨F.Q, 0, none⟩ = some (.int .i64 a.bl) := h.c 0
  have c2 : w.drew.cell? ⟨F.Q, 2, none⟩ = some (.int .i64 a.mr) := h.c 2
  clear hI hf h hE
  go_enter Tryz.func31, Tryz.ntmps31
  go_wp2_with fail
  go_region_with (go_at_call 46; refine (B.form_is p m c xs a.bl a.mr f E HF.out w.drew (by omega) HI.out).mono ?_; rintro e w2 ⟨q, d, rfl, hmade⟩; have HB : Hid (B.Made w.drew w2 q f.length d f) := hmade; clear hmade)
  all_goals (go_wp2; go_ret3; exact ⟨rfl, below_then (below_drew w) HB.out.below⟩)
theorem own_blk {w : World} {base : Nat} {e : TypeId} {size : Nat} {v : Value} {n : Nat} {xs : List Value} (h : w.ownsRow base e size v n xs) {g : Nat} (hg : blk v = some g) : base ≤ g := by
  rcases h.2 with ⟨rfl, _⟩ | ⟨g', cap, cur, rfl, h1, _⟩
  · cases hg
  · cases hg; exact h1
/-- what begins: the line with one more -/
theorem PL.begun {w2 w3 w4 w5 : World} {f : List Int} {q : Option Addr} {d : Nat} {v' : Value} {M : Int → Option Value} (h : PL w F n a) (N : Ne F) (hb2 : Below w.heap.size w w2) (hfr : Frm w2 (.slice q f.length d) f) (hq : ∀ g, blk (.slice q f.length d) = some g → w.heap.size ≤ g) (hM : VMp w2 F.mb n M ∧ (∀ t v, M t = some v → ∃ p n c, v = .slice p n c) ∧ ∀ x ∈ a.fl, ∃ v, M x.1 = some v ∧ Frm w2 v x.2 ∧ ∀ g, blk v = some g → F.G g)
    (hw3 : w3 = w2.setCell ⟨F.Q, 5, none⟩ (.int .u64 (a.next + 1))) (hQ : QAt 59 w4 F.q1 v' (wt a.W ++ [a.next]) a.next) (hk4 : Kept (fun b => b = F.q1 ∨ blk F.v1 = some b) w3 w4) (hv : blk v' = blk F.v1 ∨ ∃ g, blk v' = some g ∧ w.heap.size ≤ g)
    (hm5 : VMp w5 F.mb (n + 1) (fun u => if u = a.next then some (.slice q f.length d) else M u)) (hk5 : Kept (· = F.mb) w4 w5) (ok : ({ a with next := a.next + 1, W := a.W ++ [(a.next, f)] } : Ad).Ok) :
    PL w5 { F with v1 := v', G := fun b => F.G b ∨ w.heap.size ≤ b } (n + 1) { a with next := a.next + 1, W := a.W ++ [(a.next, f)] } ∧ Kept F.has w w5 ∧ Frm w5 (.slice q f.length d) f := by
  have h2 := h.later hb2
  have hk3 : Kept (· = F.Q) w2 w3 := by rw [hw3]; exact Kept.setCell F.Q 5 _
  have hlt : ∀ b, F.has b → b < w.heap.size := fun b hb => h.lt hb
  have hnew : ∀ g, w.heap.size ≤ g → ¬ F.has g := fun g hg hb => by have := hlt g hb; omega
  have hst3 : w3.heap[F.Q]? = some (.cells (lcells F { a with next := a.next + 1, W := a.W ++ [(a.next, f)] }) 62 (0, 0)) := by
    rw [hw3, L.st_set 5 _ h2.st]; rfl
  have hv1n : ∀ b, blk v' = some b → blk F.v1 = some b ∨ w.heap.size ≤ b := fun b hb => by
    rcases hv with e | ⟨g, e, hg⟩
    · rw [e] at hb; exact .inl hb
    · rw [e] at hb; cases hb; exact .inr hg
  have hv1x : ∀ b, blk v' = some b → b ≠ F.q2 ∧ b ≠ F.mb ∧ b ≠ F.lb ∧ b ≠ F.lm ∧ b ≠ F.Q ∧ ¬ blk F.v2 = some b := fun b hb => by
    rcases hv1n b hb with e | e
    · have := N.v1 b e; exact ⟨this.2.2.1, this.2.2.2.1, this.2.2.2.2.1, this.2.2.2.2.2, this.1, N.v12 b e⟩
    · have := hnew b e; simp only [Ft.has, not_or] at this; exact ⟨this.2.2.1, this.2.2.2.2.2.1, this.2.2.2.2.2.2.1, this.2.2.2.2.2.2.2, this.1, this.2.2.2.2.1⟩
  have kAll : Kept F.has w2 w5 := ((hk3.wider (T := F.has) (fun x _ e => .inl e)).trans hk4 (fun x _ e => by rcases e with e | e; exact .inr (.inl e); exact .inr (.inr (.inr (.inl e))))).trans hk5 (fun x _ e => .inr (.inr (.inr (.inr (.inr (.inl e))))))
  have s3 := hk3.size
  have s4 := hk4.size
  refine ⟨⟨?_, ?_, ?_, ?_, ?_, ok, h.q12, fun g hg => (hv1x g hg).2.2.2.2.2, h.mm⟩, (Kept.of_below _ hb2).trans kAll (fun _ _ e => e), hfr.far kAll (fun g _ hg => h2.noInts hg)⟩
  · exact (hk5.block _ (by have := h2.lt (.inl rfl); omega) N.Qm).trans ((hk4.block _ (by have := h2.lt (.inl rfl); omega) (by rintro (e | e); exact N.Qq1 e; exact (N.v1 _ e).1 rfl)).trans hst3)
  · show QAt _ _ _ _ (wt (a.W ++ [(a.next, f)])) (a.next + 1 - 1)
    have e1 : wt (a.W ++ [(a.next, f)]) = wt a.W ++ [a.next] := by simp [wt]
    have e2 : a.next + 1 - 1 = a.next := by omega
    rw [e1, e2]
    exact hQ.far hk5 N.q1m (fun g hg => (hv1x g hg).2.1)
  · exact ((h2.l2.far hk3 (Ne.symm N.Qq2) (fun g hg => (N.v2 g hg).1)).far hk4 (by rintro (e | e); exact N.q12 e.symm; exact (N.v1 _ e).2.2.1 rfl) (fun g hg => by rintro (e | e); exact (N.v2 g hg).2.1 e; exact N.v12 g e hg)).far hk5 N.q2m (fun g hg => (N.v2 g hg).2.2.2.1)
  · refine ⟨_, hm5, fun t v hv => ?_, fun x hx => ?_⟩
    · by_cases e : t = a.next
      · rw [if_pos e] at hv; cases hv; exact ⟨_, _, _, rfl⟩
      · rw [if_neg e] at hv; exact hM.2.1 t v hv
    · have hx' : x ∈ a.fl ∨ x = (a.next, f) := by
        simp only [Ad.fl, List.mem_append, List.mem_singleton] at hx ⊢
        rcases hx with (hx | hx) | hx
        · exact .inl (.inl hx)
        · exact .inr hx
        · exact .inl (.inr hx)
      rcases hx' with hx' | rfl
      · have hne : x.1 ≠ a.next := by
          simp only [Ad.fl, List.mem_append] at hx'
          rcases hx' with hx' | hx'
          · have := h.ok.win x hx'; omega
          · obtain ⟨y, hy, rfl⟩ := List.mem_map.1 hx'
            have := h.ok.iin y hy
            have := h.ok.gotN
            show y.1 ≠ a.next
            omega
        obtain ⟨v, hv, hf, hG⟩ := hM.2.2 x hx'
        exact ⟨v, by rw [if_neg hne]; exact hv, hf.far kAll (fun g _ hg => h2.noInts hg), fun g hg => .inl (hG g hg)⟩
      · exact ⟨_, if_pos rfl, hfr.far kAll (fun g _ hg => h2.noInts hg), fun g hg => .inr (hq g hg)⟩
  · refine ((h2.rm.kept (hk3.block _ h2.rm.lt (Ne.symm N.Ql)) (hk3.block _ h2.rm.mp.lt (Ne.symm N.Qn))).kept (hk4.block _ (by have := h2.rm.lt; omega) (by rintro (e | e); exact N.q1l e.symm; exact (N.v1 _ e).2.2.2.2.1 rfl)) (hk4.block _ (by have := h2.rm.mp.lt; omega) (by rintro (e | e); exact N.q1n e.symm; exact (N.v1 _ e).2.2.2.2.2 rfl))).kept (hk5.block _ (by have := h2.rm.lt; omega) (Ne.symm N.ml)) (hk5.block _ (by have := h2.rm.mp.lt; omega) (Ne.symm N.mn)) |>.mono (Nat.le_succ _)
theorem u64_small {t : Int} (h0 : 0 ≤ t) (h1 : t ≤ 1000) : L.U64 t := by
  have e1 : IntKind.u64.min = 0 := by decide
  have e2 : IntKind.u64.max = 18446744073709551615 := by decide
  simp only [L.U64, Lit.wf, e1, e2, Bool.and_eq_true, decide_eq_true_eq]
  omega
set_option maxHeartbeats 2000000 in
set_option maxRecDepth 100000 in
theorem begin_ok (h : PL w F n a) (hn : n < 10000) (hN : a.next ≤ 1000) {p : Option Addr} {m c : Nat} {xs f : List Int} (hI : B.IIn w p m xs) (hm : m + 80 ≤ 17592186044416) (hf : B.formS xs a.bl a.mr = (f, 0)) (hfl : f.length ≤ 16) (ok : ({ a with next := a.next + 1, W := a.W ++ [(a.next, f)] } : Ad).Ok) :
    Calls Tryz.prog 31 #[qp F.Q, .slice p m c] w fun e w' => ∃ q d v', e = .returned (.tuple #[.int .u64 a.next, .slice q f.length d, .int .i64 0]) ∧ w'.ownsRow w.heap.size 3 1 (.slice q f.length d) f.length (B.I64 f) ∧ PL w' { F with v1 := v', G := fun b => F.G b ∨ w.heap.size ≤ b } (n + 1) { a with next := a.next + 1, W := a.W ++ [(a.next, f)] } ∧ (blk v' = blk F.v1 ∨ ∃ g, blk v' = some g ∧ w.heap.size ≤ g) ∧ Kept F.has w w' := by
  have HI : Hid (B.IIn w.drew p m xs) := ⟨hI.len, hI.cells⟩
  have HF : Hid (B.formS xs a.bl a.mr = (f, 0)) := hf
  have c0 : w.drew.cell? ⟨F.Q, 0, none⟩ = some (.int .i64 a.bl) := h.c 0
  have c2 : w.drew.cell? ⟨F.Q, 2, none⟩ = some (.int .i64 a.mr) := h.c 2
  have H : Hid (PL w F n a) := h
  have N : Hid (Ne F) := h.ne
  have HO : Hid (({ a with next := a.next + 1, W := a.W ++ [(a.next, f)] } : Ad).Ok) := ok
  have hx0 : 1 ≤ a.next := by have := h.ok.gotN; have := h.ok.got0; omega
  have hwl : (wt a.W).length ≤ 1000 := by have := h.ok.wlen; simp only [wt, List.length_map]; omega
  have hw : IntKind.u64.wrap (a.next + 1) = a.next + 1 := by rw [IntKind.wrap_u64]; omega
  clear hI hf h ok
  go_enter Tryz.func31, Tryz.ntmps31
  go_wp2_with fail
  go_region_with (go_at_call 46; refine (B.form_is p m c xs a.bl a.mr f 0 HF.out w.drew (by omega) HI.out).mono ?_; rintro e w2 ⟨q, d, rfl, hmade⟩; have HB : Hid (B.Made w.drew w2 q f.length d f) := hmade; clear hmade)
  all_goals (
    have hb2 : Hid (Below w.heap.size w w2) := below_then (below_drew w) HB.out.below
    have hP2 : Hid (PL w2 F n a) := H.out.later hb2.out
    have hfr : Hid (Frm w2 (.slice q f.length d) f) := Frm.of_made HB.out
    have c5 : w2.cell? ⟨F.Q, 5, none⟩ = some (.int .u64 a.next) := hP2.out.c 5
    have f5 : w2.frozen? ⟨F.Q, 5, none⟩ = false := hP2.out.free 5
    have hst3 : Hid ((w2.setCell ⟨F.Q, 5, none⟩ (.int .u64 (a.next + 1))).heap[F.Q]? = some (.cells (lcells F { a with next := a.next + 1, W := a.W ++ [(a.next, f)] }) 62 (0, 0))) := by
      show _ = _
      rw [L.st_set 5 _ hP2.out.st]; rfl
    have hQ3 : Hid (QAt 59 (w2.setCell ⟨F.Q, 5, none⟩ (.int .u64 (a.next + 1))) F.q1 F.v1 (wt a.W) (a.next - 1)) := hP2.out.l1.far (Kept.setCell F.Q 5 _) (Ne.symm N.out.Qq1) (fun g hg => (N.out.v1 g hg).1)
    have d6 : (w2.setCell ⟨F.Q, 5, none⟩ (.int .u64 (a.next + 1))).cell? ⟨F.Q, 6, none⟩ = some (qp F.q1) := cell_of_row _ F.Q 6 _ 62 (0, 0) hst3.out
    go_wp2_with fail
    clear c5 f5 d6
    obtain ⟨w3, hw3⟩ : ∃ x, w2.setCell ⟨F.Q, 5, none⟩ (.int .u64 (a.next + 1)) = x := ⟨_, rfl⟩
    have HW3 : Hid (w3 = w2.setCell ⟨F.Q, 5, none⟩ (.int .u64 (a.next + 1))) := hw3.symm
    rw [hw3] at hst3 hQ3 ⊢
    clear hw3
    refine (put_high hQ3.out a.next (by omega) (by omega)).mono ?_
    rintro e w4 ⟨rfl, v', h1, h2, h3⟩
    have HP4 : Hid (QAt 59 w4 F.q1 v' (wt a.W ++ [a.next]) a.next ∧ Kept (fun b => b = F.q1 ∨ blk F.v1 = some b) w3 w4 ∧ (blk v' = blk F.v1 ∨ ∃ g, blk v' = some g ∧ w3.heap.size ≤ g)) := ⟨h1, h2, h3⟩
    clear h1 h2 h3
    obtain ⟨M, hm1, hm2, hm3⟩ := hP2.out.fm
    have HM : Hid (VMp w2 F.mb n M ∧ (∀ t v, M t = some v → ∃ p n c, v = .slice p n c) ∧ ∀ x ∈ a.fl, ∃ v, M x.1 = some v ∧ Frm w2 v x.2 ∧ ∀ g, blk v = some g → F.G g) := ⟨hm1, hm2, hm3⟩
    have hk3 : Hid (Kept (· = F.Q) w2 w3) := by rw [HW3.out]; exact Kept.setCell F.Q 5 _
    have hQlt : Hid (F.Q < w3.heap.size) := (Array.getElem?_eq_some_iff.1 hst3.out).1
    have hm4 : VMp w4 F.mb n M := (hm1.kept (hk3.out.block _ hm1.lt (Ne.symm N.out.Qm))).kept (HP4.out.2.1.block _ (by have := hk3.out.size; have := hm1.lt; omega) (by rintro (e | e); exact N.out.q1m e.symm; exact (N.out.v1 _ e).2.2.2.1 rfl))
    have d8 : w4.cell? ⟨F.Q, 8, none⟩ = some (.map (some F.mb)) := (World.cell?_of_block (w := w3) (a := ⟨F.Q, 8, none⟩) (HP4.out.2.1.block _ hQlt.out (by rintro (e | e); exact N.out.Qq1 e; exact (N.out.v1 _ e).1 rfl))).trans (cell_of_row _ F.Q 8 _ 62 (0, 0) hst3.out)
    obtain ⟨w5, hrun, hm5, hk5⟩ := hm4.run_put hn (u64_small (by omega) hN) (.slice q f.length d)
    have H5 : Hid (VMp w5 F.mb (n + 1) (fun u => if u = a.next then some (.slice q f.length d) else M u) ∧ Kept (· = F.mb) w4 w5) := ⟨hm5, hk5⟩
    clear hm1 hm2 hm3 hm4 hm5 hk5
    have HV : Hid (blk v' = blk F.v1 ∨ ∃ g, blk v' = some g ∧ w.heap.size ≤ g) := by
      rcases HP4.out.2.2 with e | ⟨g, e, hg⟩
      · exact .inl e
      · exact .inr ⟨g, e, by have := hb2.out.size; have := hk3.out.size; omega⟩
    have HPL : Hid (PL w5 { F with v1 := v', G := fun b => F.G b ∨ w.heap.size ≤ b } (n + 1) { a with next := a.next + 1, W := a.W ++ [(a.next, f)] } ∧ Kept F.has w w5 ∧ Frm w5 (.slice q f.length d) f) := by
      refine H.out.begun N.out hb2.out hfr.out (fun g hg => ?_) HM.out HW3.out HP4.out.1 HP4.out.2.1 HV.out H5.out.1 H5.out.2 HO.out
      exact own_blk HB.out.own hg
    clear hst3 hQ3 hQlt HP4 HM H5 HW3 hk3 hP2 hfr
    go_wp2_with fail
    refine (cloneI_at HPL.out.2.2 (by omega)).mono ?_
    rintro e w6 ⟨q', d', rfl, hm6⟩
    have H6 : Hid (B.Made w5 w6 q' f.length d' f) := hm6
    clear hm6
    go_wp2
    go_ret3
    have s5 := HPL.out.2.1.size
    refine ⟨q', d', v', rfl, B.own_mono H6.out.own s5, HPL.out.1.later H6.out.below, HV.out, HPL.out.2.1.trans (Kept.of_below (fun _ => False) H6.out.below) (fun _ _ e => e.elim)⟩)
theorem form_len (xs : List Int) (b m : Int) : (B.formS xs b m).1.length ≤ 16 := B.formS_len xs b m
/-- Begin -/
theorem begin_at (h : PL w F n a) (hn : n < 10000) (hN : a.next ≤ 1000) {p : Option Addr} {m c : Nat} {xs : List Int} (hI : B.IIn w p m xs) (hm : m + 80 ≤ 17592186044416) :
    Calls Tryz.prog 31 #[qp F.Q, .slice p m c] w fun e w' => ∃ q d v', e = .returned (.tuple #[.int .u64 (a.begT xs), .slice q (a.begF xs).length d, .int .i64 (a.begE xs)]) ∧ w'.ownsRow w.heap.size 3 1 (.slice q (a.begF xs).length d) (a.begF xs).length (B.I64 (a.begF xs)) ∧ PL w' { F with v1 := v', G := fun b => F.G b ∨ w.heap.size ≤ b } (n + 1) (a.begS xs) ∧ (blk v' = blk F.v1 ∨ ∃ g, blk v' = some g ∧ w.heap.size ≤ g) ∧ Kept F.has w w' := by
  by_cases e : a.begE xs = 0
  · have e1 : a.begS xs = { a with next := a.next + 1, W := a.W ++ [(a.next, a.begF xs)] } := by simp only [Ad.begS, if_pos e]
    have e2 : a.begT xs = a.next := by simp only [Ad.begT, if_pos e]
    have hok := h.ok.beg xs
    rw [e1] at hok
    rw [e1, e2, e]
    exact begin_ok h hn hN hI hm (Prod.ext rfl e) (form_len _ _ _) hok
  · have e1 : a.begS xs = a := by simp only [Ad.begS, if_neg e]
    have e2 : a.begT xs = 0 := by simp only [Ad.begT, if_neg e]
    have e3 : a.begF xs = [] := (B.formS_errs xs a.bl a.mr).2 e
    rw [e1, e2, e3]
    refine (begin_bad h hI hm (f := a.begF xs) (E := a.begE xs) rfl e).mono ?_
    rintro e' w' ⟨rfl, hb⟩
    refine ⟨none, 0, F.v1, rfl, World.ownsRow_nil _ _ _ _, ?_, .inl rfl, Kept.of_below _ hb⟩
    have h2 := (h.later hb).mono (Nat.le_succ n)
    obtain ⟨m', h3, h4, h5⟩ := h2.fm
    exact ⟨h2.st, h2.l1, h2.l2, ⟨m', h3, h4, fun x hx => by obtain ⟨v, a1, a2, a3⟩ := h5 x hx; exact ⟨v, a1, a2, fun g hg => .inl (a3 g hg)⟩⟩, h2.rm, h2.ok, h2.q12, h2.v12, h2.mm⟩
end
end Go.Proofs.YtkgjmejpbklabaaGreat.M
