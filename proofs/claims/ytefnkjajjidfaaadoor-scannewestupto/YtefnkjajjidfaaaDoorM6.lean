/-
  Layer 10: the document's with, in plain words; images appended and cut. Layer 10: the document's with, walked. Layer 10: the document's Newest. Layer 10: transactions whose images have one cell more behind them; images written over, appended one by one, by zeros. Layer 10: ScanNewest: what stands while the first answer is written over and grown. Layer 10: ScanNewest, walked.
-/
import Derived.Test.YtefnkjajjidfaaaDoorM4
import Derived.BigQuiet
import Derived.Deep.RegionHeld3
import Derived.Test.YtefnkjajjidfaaaDoorM1
import Derived.Lib.AppendZerosOnto
namespace Go.Proofs.YtefnkjajjidfaaaDoor
open Go.RowKit


/-- where an image would stand in a list that rises -/
def atW : List Im → Int → Nat
  | [], _ => 0
  | y :: l, b => if y.b < b then atW l b + 1 else 0
theorem atW_le : ∀ (l : List Im) (b : Int), atW l b ≤ l.length
  | [], _ => Nat.le_refl _
  | y :: l, b => by
    have := atW_le l b
    show (if _ then _ else _) ≤ _
    split <;> simp <;> omega
theorem atW_lt : ∀ (l : List Im) (b : Int) (j : Nat) (y : Im), j < atW l b → l[j]? = some y → y.b < b
  | [], b, j, y, h, _ => absurd h (Nat.not_lt_zero j)
  | z :: l, b, j, y, h, hy => by
    by_cases c : z.b < b
    · have h' : j < atW l b + 1 := by have := h; rw [show atW (z :: l) b = atW l b + 1 from if_pos c] at this; exact this
      cases j with
      | zero => cases hy; exact c
      | succ j => exact atW_lt l b j y (by omega) hy
    · rw [show atW (z :: l) b = 0 from if_neg c] at h; omega
theorem atW_no : ∀ (l : List Im) (b : Int) (y : Im), l[atW l b]? = some y → ¬ y.b < b
  | [], b, y, h => by cases h
  | z :: l, b, y, h => by
    by_cases c : z.b < b
    · rw [show atW (z :: l) b = atW l b + 1 from if_pos c] at h; exact atW_no l b y h
    · rw [show atW (z :: l) b = 0 from if_neg c] at h; cases h; exact c
theorem withS_old : ∀ (l : List Im) (x y : Im), l[atW l x.b]? = some y → y.b = x.b → withS l x = l
  | [], x, y, h, _ => by cases h
  | z :: l, x, y, h, e => by
    by_cases c : z.b < x.b
    · rw [show atW (z :: l) x.b = atW l x.b + 1 from if_pos c] at h
      rw [withS_lt l c, withS_old l x y h e]
    · rw [show atW (z :: l) x.b = 0 from if_neg c] at h; cases h; exact withS_eq l e
theorem withS_new : ∀ (l : List Im) (x : Im), (∀ y, l[atW l x.b]? = some y → y.b ≠ x.b) → withS l x = (([] ++ l.take (atW l x.b)) ++ [x]) ++ l.drop (atW l x.b)
  | [], x, _ => rfl
  | z :: l, x, h => by
    by_cases c : z.b < x.b
    · have e : atW (z :: l) x.b = atW l x.b + 1 := if_pos c
      have ih := withS_new l x (fun y hy => h y (by rw [e]; exact hy))
      rw [withS_lt l c, e, ih]; simp
    · have e : atW (z :: l) x.b = 0 := if_neg c
      have := h z (by rw [e]; rfl)
      rw [withS_gt l (by omega), e]; simp
theorem MIn.grown {w w' : World} {g n : Nat} {l : List Im} {row : Option Nat} (h : MIn w (some ⟨g, 0, none⟩) n l) (hg : w.grownBy w' row) (hne : row ≠ some g) : MIn w' (some ⟨g, 0, none⟩) n l := by
  refine ⟨h.len, h.wf, fun h0 => ?_⟩
  obtain ⟨b, o, e, hr⟩ := h.cells h0
  cases e
  exact ⟨g, 0, rfl, range_block hr (hg.block g (range_lt hr (by rw [IC_len h.wf, h.len]; omega)) fun e' => hne e'.symm)⟩
/-- from the place k on -/
def dropA (q : Option Addr) (k c : Nat) : Option Addr := if c = k then q else q.map (·.add (k * 33))
theorem MIn.drop {w : World} {q : Option Addr} {n : Nat} {l : List Im} (h : MIn w q n l) {k c : Nat} (hk : k ≤ n) (hc : n ≤ c) : MIn w (dropA q k c) (n - k) (l.drop k) := by
  refine ⟨by rw [List.length_drop, h.len], fun x hx => h.wf x (List.mem_of_mem_drop hx), fun h0 => ?_⟩
  obtain ⟨b, o, e, hr⟩ := h.cells (by omega)
  subst e
  refine ⟨b, o + k * 33, by unfold dropA; rw [if_neg (by omega), Option.map_some, Addr.add_mid], fun j v hv => ?_⟩
  have e2 : IC l = IC (l.take k) ++ IC (l.drop k) := by rw [← IC_append, List.take_append_drop]
  have el : (IC (l.take k)).length = k * 33 := by rw [IC_len fun x hx => h.wf x (List.mem_of_mem_take hx), List.length_take, h.len, Nat.min_eq_left hk]
  have := hr (k * 33 + j) v (by rw [e2, List.getElem?_append_right (by omega), el, Nat.add_sub_cancel_left]; exact hv)
  rw [Nat.add_assoc]; exact this
theorem run_to (w : World) (q : Option Addr) (n c k : Nat) (hk : k ≤ c) : (Instr.sliceAt 26 (.slice q n c) none (some (.int .i64 (k : Int))) none).run Tryd.prog w = .ok (.slice q k c) w := by
  obtain ⟨i0, hi, hz0, hz1, hz2⟩ := info_parts infoI
  have he : Program.elem Tryd.prog 26 = 32 := by kernel_rfl
  have hu : Tryd.prog.underlying 26 = some (.slice (Program.elem Tryd.prog 26)) := by rw [he]; exact Tryd.underlying26
  rw [run_sliceAt_slice w 26 _ _ _ _ hu, run_slice_h w 26 q n c hu .i64 (k : Int) (by omega) (by omega)]
  have e : (sizeOf (Program.elem Tryd.prog 26)).run Tryd.prog w = .ok 33 w := by
    rw [he]
    simp [sizeOf, typeInfo, hi, hz1]
  rw [e]
  simp only [Result.andThen_ok, sliced, Int.toNat_natCast, Nat.zero_mul, Nat.sub_zero]
  cases q with
  | none => simp
  | some a => simp [Addr.add]
theorem run_from (w : World) (q : Option Addr) (n c k : Nat) (hk : k ≤ n) : (Instr.sliceAt 26 (.slice q n c) (some (.int .i64 (k : Int))) none none).run Tryd.prog w = .ok (.slice (dropA q k c) (n - k) (c - k)) w := by
  obtain ⟨i0, hi, hz0, hz1, hz2⟩ := info_parts infoI
  have he : Program.elem Tryd.prog 26 = 32 := by kernel_rfl
  have hu : Tryd.prog.underlying 26 = some (.slice (Program.elem Tryd.prog 26)) := by rw [he]; exact Tryd.underlying26
  rw [run_sliceAt_slice w 26 _ _ _ _ hu, run_slice_l w 26 q n c hu .i64 (k : Int) (by omega) (by omega)]
  have e : (sizeOf (Program.elem Tryd.prog 26)).run Tryd.prog w = .ok 33 w := by
    rw [he]
    simp [sizeOf, typeInfo, hi, hz1]
  rw [e]
  simp only [Result.andThen_ok, sliced, Int.toNat_natCast]
  rfl
theorem yields_slice_is {P : Program} {ops : Array Oper} {S : World → Prop} {o : Oper} {a : Act} (hw : Region.wanted o (yielded ops a.tmps) = true) (ty : TypeId) {x : Operand} {lo hi mx : Option Operand} (ho : o.op = .slice ty x lo hi mx) {vx v : Value} {vl vh vm : Option Value} (hx : a.eval x = vx) (hl : lo.map a.eval = vl) (hh : hi.map a.eval = vh) (hm : mx.map a.eval = vm) (hrun : ∀ w, (Instr.sliceAt ty vx vl vh vm).run P w = .ok v w) : YieldsIf P ops S o v a :=
  .inl ⟨hw, fun w _ => by unfold execOp; simp only [ho, hx, hl, hh, hm, Sem.run_bind, hrun w, Result.andThen_ok, Sem.run_pure]⟩
/-- images appended onto a row of ours -/
theorem app_ims {W : World} {B : Nat} {v : Value} {l0 l : List Im} {q : Option Addr} {m c : Nat} (h0 : IOwn W B v l0) (hw0 : ImsWf l0) (h : MIn W q m l) (hm : l0.length + m ≤ 3000000) (hB : B ≤ W.heap.size) : ∃ q' c' W', (Builtin.append_ #[26, 26] 26 #[v, .slice q m c]).run Tryd.prog W = .ok (.slice q' (l0 ++ l).length c') W' ∧ IOwn W' B (.slice q' (l0 ++ l).length c') (l0 ++ l) ∧ W.grownBy W' v.ownBlock ∧ ((Value.slice q' (l0 ++ l).length c').ownBlock = v.ownBlock ∨ (Value.slice q' (l0 ++ l).length c').ownBlock = some W.heap.size) := by
  obtain ⟨i0, hi0, hz0, hz1, hz2⟩ := info_parts infoI
  have h65 : (4000000 : Nat) ≤ maxLen := by decide
  have hwf : ImsWf (l0 ++ l) := fun x hx => (List.mem_append.1 hx).elim (hw0 x) (h.wf x)
  have go : ∀ (ad : Addr), q = some ad → ∃ q' c' W', (Builtin.append_ #[26, 26] 26 #[v, .slice q m c]).run Tryd.prog W = .ok (.slice q' (l0 ++ l).length c') W' ∧ IOwn W' B (.slice q' (l0 ++ l).length c') (l0 ++ l) ∧ W.grownBy W' v.ownBlock ∧ ((Value.slice q' (l0 ++ l).length c').ownBlock = v.ownBlock ∨ (Value.slice q' (l0 ++ l).length c').ownBlock = some W.heap.size) := by
    rintro ad rfl
    obtain ⟨v', W', hrun, hown', hgrow, -, hat⟩ := run_append_own_at (P := Tryd.prog) W B 26 26 32 i0 _ 33 40 Tryd.underlying26 hi0 hz0 hz1 hz2 rfl (by decide) v l0.length (IC l0) h0 ad m c (IC l) (by rw [IC_len h.wf, h.len]) (fun j u hu => by
      by_cases hp : 0 < m
      · obtain ⟨b', o', e, hr⟩ := h.cells hp
        cases e
        rw [Addr.add_mid]
        exact hr j u hu
      · have : l = [] := List.length_eq_zero_iff.1 (by rw [h.len]; omega)
        rw [this] at hu; simp [IC] at hu) (IC_ones l) (by omega) (by omega) hB
    have hown2 : IOwn W' B v' (l0 ++ l) := by
      rw [IOwn, List.length_append, h.len, IC_append]; exact hown'
    obtain ⟨q', c', rfl, -, -, -⟩ := IOwn.in hown2 hwf
    exact ⟨q', c', W', hrun, hown2, hgrow, hat⟩
  by_cases hp : 0 < m
  · obtain ⟨b, o, e, -⟩ := h.cells hp
    exact go _ e
  · have m0 : m = 0 := by omega
    have e0 : l = [] := List.length_eq_zero_iff.1 (by rw [h.len, m0])
    cases q with
    | none =>
      subst m0; subst e0
      have hr : (Builtin.append_ #[26, 26] 26 #[v, .slice none 0 c]).run Tryd.prog W = .ok v W := by
        rcases h0.2 with ⟨rfl, _⟩ | ⟨g, cap, cur, rfl, _, _, hnc, _⟩
        · simp [Builtin.append_, run_underlying Tryd.underlying26, sizeOf, typeInfo, hi0, Builtin.lenOf, Builtin.firstCells]
        · simp [Builtin.append_, run_underlying Tryd.underlying26, sizeOf, typeInfo, hi0, Builtin.lenOf, Builtin.firstCells, hnc, storeCells]
      obtain ⟨q', c', rfl, -, -, -⟩ := IOwn.in h0 hw0
      rw [List.append_nil]
      exact ⟨q', c', W, hr, h0, ⟨rfl, rfl, rfl, Nat.le_refl _, fun _ _ _ => rfl⟩, .inl rfl⟩
    | some ad => exact go ad rfl

/-- the same, the length a letter -/
theorem app_imsL {W : World} {B : Nat} {v : Value} {l0 l : List Im} {q : Option Addr} {m c : Nat} (h0 : IOwn W B v l0) (hw0 : ImsWf l0) (h : MIn W q m l) (hm : l0.length + m ≤ 3000000) (hB : B ≤ W.heap.size) : ∃ q' m' c' W', (Builtin.append_ #[26, 26] 26 #[v, .slice q m c]).run Tryd.prog W = .ok (.slice q' m' c') W' ∧ IOwn W' B (.slice q' m' c') (l0 ++ l) ∧ W.grownBy W' v.ownBlock ∧ ((Value.slice q' m' c').ownBlock = v.ownBlock ∨ (Value.slice q' m' c').ownBlock = some W.heap.size) := by
  obtain ⟨q', c', W', h1, h2, h3, h4⟩ := app_ims (c := c) h0 hw0 h hm hB
  exact ⟨q', _, c', W', h1, h2, h3, h4⟩
end Go.Proofs.YtefnkjajjidfaaaDoor
namespace Go.Proofs.YtefnkjajjidfaaaDoor
open Go.RowKit

theorem lat_c0 {t : TypeId} {w : World} {g : Nat} {x : Im} (h : LAt t w g (icells x)) : w.cell? ⟨g, 0, none⟩ = some (.int .i64 x.b) := LAt.cell h 0
set_option maxHeartbeats 4000000 in
set_option maxRecDepth 100000 in
theorem with_any (q : Option Addr) (n c : Nat) (l : List Im) (x : Im) (w : World) (h : MIn w q n l) (hnc : n ≤ c) (hx : x.Wf) (hn : n ≤ 2500000) :
    Calls Tryd.prog 29 #[.slice q n c, .agg (icells x).toArray] w fun e w' => ∃ p d, e = .returned (.slice p (withS l x).length d) ∧ MIn w' p (withS l x).length (withS l x) ∧ (withS l x).length ≤ d ∧ Below w.heap.size w w' := by
  obtain ⟨wa, hwa⟩ : ∃ y, y = w.alloc (.cells (icells x).toArray 32) := ⟨_, rfl⟩
  have ewa := hwa.symm
  have B0 : Hid (Below w.heap.size w wa) := by rw [hwa]; exact below_alloc w _
  have LX0 : Hid (LAt 32 wa w.heap.size (icells x)) := by rw [hwa]; exact LAt.new 32 w _
  have HM : Hid (MIn wa q n l) := h.later B0.out
  have HXW : Hid x.Wf := hx
  have HNC : Hid (n ≤ c) := hnc
  have HWW : Hid (ImsWf (withS l x)) := withS_wf h.wf hx
  have hll := h.len
  have hal : atW l x.b ≤ n := by have := atW_le l x.b; omega
  clear hwa h hx
  go_enter Tryd.func29, Tryd.ntmps29
  go_wp2_with fail
  clear ewa
  go_loopw [5] (fun i wr => ∃ k : Nat, k ≤ atW l x.b ∧ i = .int .i64 k ∧ Hid (Below wa.heap.size wa wr)) (fun i _ => n - (intOf i).toNat)
  case atStart => exact ⟨0, Nat.zero_le _, rfl, Below.refl _ _⟩
  case round =>
    obtain ⟨k, hk, rfl, Br⟩ := hrel
    obtain ⟨wv, hwv⟩ : ∃ wv, wv = wr := ⟨_, rfl⟩
    subst hwv
    have M3 : Hid (MIn wv q n l) := HM.out.later Br.out
    have LX : Hid (LAt 32 wv w.heap.size (icells x)) := LAt.later LX0.out Br.out
    by_cases hlt : k < n
    · obtain ⟨y, hy⟩ : ∃ y, l[k]? = some y := ⟨_, List.getElem?_eq_getElem (by omega)⟩
      obtain ⟨b, o, rfl, -⟩ := M3.out.cells (by omega)
      have i1 : (k : Int) < (n : Int) := by omega
      have i0 : (0 : Int) ≤ (k : Int) := by omega
      by_cases hd0 : y.b < x.b
      · have hd : decide (y.b < x.b) = true := by simp [hd0]
        have hk1 : k + 1 ≤ atW l x.b := by
          rcases Nat.lt_or_eq_of_le hk with h | h
          · exact h
          · subst h; exact absurd hd0 (atW_no l x.b y hy)
        clear hd0
        go_wp2_with fail
        refine wp_region_noPanic ?_
        refine wp_region_held_drew (S := fun w' => Below wv.heap.size wv w') (by kernel_rfl) (below_drawn 1) (fun hHeld => ?_)
        have DD : Hid (Below wv.heap.size wv wv.drew) := hHeld
        generalize wv.drew = wd at *
        refine wpAnyH_take (i := 0) (v := ?va1) (by simp; rfl) (by kernel_rfl) (by kernel_rfl) (by kernel_rfl) (fun _ _ _ h => h) (Or.inl ⟨by rfl, ?ya1⟩) hHeld ?ra1
        case ya1 => intro w hSw; clear hSw; go_simp; with_reducible rfl
        simp only [Act.put, List.setIfInBounds_toArray, List.set_cons_zero, List.set_cons_succ]
        refine wpAnyH_take (i := 1) (v := ?va2) (by simp; rfl) (by kernel_rfl) (by kernel_rfl) (by kernel_rfl) (fun _ _ _ h => h) (Or.inl ⟨by rfl, ?ya2⟩) hHeld ?ra2
        case ya2 => intro w hSw; clear hSw; go_simp; with_reducible rfl
        simp only [Act.put, List.setIfInBounds_toArray, List.set_cons_zero, List.set_cons_succ]
        refine wpAnyH_take (i := 2) (v := ?va3) (by simp; rfl) (by kernel_rfl) (by kernel_rfl) (by kernel_rfl) (fun _ _ _ h => h) (Or.inl ⟨by rfl, ?ya3⟩) hHeld ?ra3
        case ya3 => intro w hSw; clear hSw; go_simp; with_reducible rfl
        simp only [Act.put, List.setIfInBounds_toArray, List.set_cons_zero, List.set_cons_succ]
        refine wpAnyH_take (i := 3) (v := ?va4) (by simp; rfl) (by kernel_rfl) (by kernel_rfl) (by kernel_rfl) (fun _ _ _ h => h) (Or.inl ⟨by rfl, ?ya4⟩) hHeld ?ra4
        case ya4 => intro w hSw; clear hSw; go_simp; with_reducible rfl
        simp only [Act.put, List.setIfInBounds_toArray, List.set_cons_zero, List.set_cons_succ]
        refine wpAnyH_take (i := 4) (v := ?va5) (by simp; rfl) (by kernel_rfl) (by kernel_rfl) (by kernel_rfl) (fun _ _ _ h => h) (Or.inl ⟨by rfl, ?ya5⟩) hHeld ?ra5
        case ya5 => intro w hSw; clear hSw; go_simp; with_reducible rfl
        simp only [Act.put, List.setIfInBounds_toArray, List.set_cons_zero, List.set_cons_succ]
        refine wpAnyH_take (i := 5) (v := ?va6) (by simp; rfl) (by kernel_rfl) (by kernel_rfl) (by kernel_rfl) (fun _ _ _ h => h) (Or.inl ⟨by rfl, ?ya6⟩) hHeld ?ra6
        case ya6 => intro w hSw; clear hSw; go_simp; with_reducible rfl
        simp only [Act.put, List.setIfInBounds_toArray, List.set_cons_zero, List.set_cons_succ]
        refine wpAnyH_take (i := 6) (v := ?va7) (by simp; rfl) (by kernel_rfl) (by kernel_rfl) (by kernel_rfl) (fun _ _ _ h => h) (Or.inl ⟨by rfl, ?ya7⟩) hHeld ?ra7
        case ya7 => intro w hSw; clear hSw; go_simp; with_reducible rfl
        simp only [Act.put, List.setIfInBounds_toArray, List.set_cons_zero, List.set_cons_succ]
        refine wpAnyH_take (i := 7) (v := ?va8) (by simp; rfl) (by kernel_rfl) (by kernel_rfl) (by kernel_rfl) (fun _ _ _ h => h) (Or.inl ⟨by rfl, ?ya8⟩) hHeld ?ra8
        case ya8 => intro w hSw; clear hSw; go_simp; with_reducible rfl
        simp only [Act.put, List.setIfInBounds_toArray, List.set_cons_zero, List.set_cons_succ]
        refine wpAnyH_take (i := 8) (v := ?va9) (by simp; rfl) (by kernel_rfl) (by kernel_rfl) (by kernel_rfl) (fun _ _ _ h => h) (Or.inl ⟨by rfl, ?ya9⟩) hHeld ?ra9
        case ya9 => intro w hSw; clear hSw; go_simp; with_reducible rfl
        simp only [Act.put, List.setIfInBounds_toArray, List.set_cons_zero, List.set_cons_succ]
        refine wpAnyH_take (i := 9) (v := ?va10) (by simp; rfl) (by kernel_rfl) (by kernel_rfl) (by kernel_rfl) (fun _ _ _ h => h) (Or.inl ⟨by rfl, ?ya10⟩) hHeld ?ra10
        case ya10 => intro w hSw; have z := (M3.out.later hSw).c0 hy; clear hSw; go_simp; with_reducible rfl
        simp only [Act.put, List.setIfInBounds_toArray, List.set_cons_zero, List.set_cons_succ]
        refine wpAnyH_take (i := 10) (v := ?va11) (by simp; rfl) (by kernel_rfl) (by kernel_rfl) (by kernel_rfl) (fun _ _ _ h => h) (Or.inl ⟨by rfl, ?ya11⟩) hHeld ?ra11
        case ya11 => intro w hSw; clear hSw; go_simp; with_reducible rfl
        simp only [Act.put, List.setIfInBounds_toArray, List.set_cons_zero, List.set_cons_succ]
        refine wpAnyH_take (i := 11) (v := ?va12) (by simp; rfl) (by kernel_rfl) (by kernel_rfl) (by kernel_rfl) (fun _ _ _ h => h) (Or.inl ⟨by rfl, ?ya12⟩) hHeld ?ra12
        case ya12 => intro w hSw; have z := lat_c0 (LAt.later LX.out hSw); clear hSw; go_simp; with_reducible rfl
        simp only [Act.put, List.setIfInBounds_toArray, List.set_cons_zero, List.set_cons_succ]
        refine wpAnyH_take (i := 12) (v := ?va13) (by simp; rfl) (by kernel_rfl) (by kernel_rfl) (by kernel_rfl) (fun _ _ _ h => h) (Or.inl ⟨by rfl, ?ya13⟩) hHeld ?ra13
        case ya13 => intro w hSw; clear hSw; go_simp; with_reducible rfl
        simp only [Act.put, List.setIfInBounds_toArray, List.set_cons_zero, List.set_cons_succ]
        refine wpAnyH_take (i := 13) (v := ?va14) (by simp; rfl) (by kernel_rfl) (by kernel_rfl) (by kernel_rfl) (fun _ _ _ h => h) (Or.inl ⟨by rfl, ?ya14⟩) hHeld ?ra14
        case ya14 => intro w hSw; clear hSw; go_simp; with_reducible rfl
        simp only [Act.put, List.setIfInBounds_toArray, List.set_cons_zero, List.set_cons_succ]
        clear hHeld
        refine wpAnyH_done (by kernel_rfl) (NoPanic.normal ?_) _
        have B3 : Hid (Below wa.heap.size wa wd) := below_then Br.out DD.out
        clear DD Br hd
        go_wp2_with fail
        go_roundw
        case rel => exact ⟨k + 1, hk1, by go_num, B3.out⟩
        case measure => simp [intOf]; omega
      · have hd : decide (y.b < x.b) = false := by simp [hd0]
        have hka : atW l x.b = k := by
          rcases Nat.lt_or_eq_of_le hk with h | h
          · exact absurd (atW_lt l x.b k y h hy) hd0
          · exact h.symm
        go_wp2_with fail
        refine wp_region_noPanic ?_
        refine wp_region_held_drew (S := fun w' => Below wv.heap.size wv w') (by kernel_rfl) (below_drawn 1) (fun hHeld => ?_)
        have DD : Hid (Below wv.heap.size wv wv.drew) := hHeld
        generalize wv.drew = wd at *
        refine wpAnyH_take (i := 0) (v := ?va15) (by simp; rfl) (by kernel_rfl) (by kernel_rfl) (by kernel_rfl) (fun _ _ _ h => h) (Or.inl ⟨by rfl, ?ya15⟩) hHeld ?ra15
        case ya15 => intro w hSw; clear hSw; go_simp; with_reducible rfl
        simp only [Act.put, List.setIfInBounds_toArray, List.set_cons_zero, List.set_cons_succ]
        refine wpAnyH_take (i := 1) (v := ?va16) (by simp; rfl) (by kernel_rfl) (by kernel_rfl) (by kernel_rfl) (fun _ _ _ h => h) (Or.inl ⟨by rfl, ?ya16⟩) hHeld ?ra16
        case ya16 => intro w hSw; clear hSw; go_simp; with_reducible rfl
        simp only [Act.put, List.setIfInBounds_toArray, List.set_cons_zero, List.set_cons_succ]
        refine wpAnyH_take (i := 2) (v := ?va17) (by simp; rfl) (by kernel_rfl) (by kernel_rfl) (by kernel_rfl) (fun _ _ _ h => h) (Or.inl ⟨by rfl, ?ya17⟩) hHeld ?ra17
        case ya17 => intro w hSw; clear hSw; go_simp; with_reducible rfl
        simp only [Act.put, List.setIfInBounds_toArray, List.set_cons_zero, List.set_cons_succ]
        refine wpAnyH_take (i := 3) (v := ?va18) (by simp; rfl) (by kernel_rfl) (by kernel_rfl) (by kernel_rfl) (fun _ _ _ h => h) (Or.inl ⟨by rfl, ?ya18⟩) hHeld ?ra18
        case ya18 => intro w hSw; clear hSw; go_simp; with_reducible rfl
        simp only [Act.put, List.setIfInBounds_toArray, List.set_cons_zero, List.set_cons_succ]
        refine wpAnyH_take (i := 4) (v := ?va19) (by simp; rfl) (by kernel_rfl) (by kernel_rfl) (by kernel_rfl) (fun _ _ _ h => h) (Or.inl ⟨by rfl, ?ya19⟩) hHeld ?ra19
        case ya19 => intro w hSw; clear hSw; go_simp; with_reducible rfl
        simp only [Act.put, List.setIfInBounds_toArray, List.set_cons_zero, List.set_cons_succ]
        refine wpAnyH_take (i := 5) (v := ?va20) (by simp; rfl) (by kernel_rfl) (by kernel_rfl) (by kernel_rfl) (fun _ _ _ h => h) (Or.inl ⟨by rfl, ?ya20⟩) hHeld ?ra20
        case ya20 => intro w hSw; clear hSw; go_simp; with_reducible rfl
        simp only [Act.put, List.setIfInBounds_toArray, List.set_cons_zero, List.set_cons_succ]
        refine wpAnyH_take (i := 6) (v := ?va21) (by simp; rfl) (by kernel_rfl) (by kernel_rfl) (by kernel_rfl) (fun _ _ _ h => h) (Or.inl ⟨by rfl, ?ya21⟩) hHeld ?ra21
        case ya21 => intro w hSw; clear hSw; go_simp; with_reducible rfl
        simp only [Act.put, List.setIfInBounds_toArray, List.set_cons_zero, List.set_cons_succ]
        refine wpAnyH_take (i := 7) (v := ?va22) (by simp; rfl) (by kernel_rfl) (by kernel_rfl) (by kernel_rfl) (fun _ _ _ h => h) (Or.inl ⟨by rfl, ?ya22⟩) hHeld ?ra22
        case ya22 => intro w hSw; clear hSw; go_simp; with_reducible rfl
        simp only [Act.put, List.setIfInBounds_toArray, List.set_cons_zero, List.set_cons_succ]
        refine wpAnyH_take (i := 8) (v := ?va23) (by simp; rfl) (by kernel_rfl) (by kernel_rfl) (by kernel_rfl) (fun _ _ _ h => h) (Or.inl ⟨by rfl, ?ya23⟩) hHeld ?ra23
        case ya23 => intro w hSw; clear hSw; go_simp; with_reducible rfl
        simp only [Act.put, List.setIfInBounds_toArray, List.set_cons_zero, List.set_cons_succ]
        refine wpAnyH_take (i := 9) (v := ?va24) (by simp; rfl) (by kernel_rfl) (by kernel_rfl) (by kernel_rfl) (fun _ _ _ h => h) (Or.inl ⟨by rfl, ?ya24⟩) hHeld ?ra24
        case ya24 => intro w hSw; have z := (M3.out.later hSw).c0 hy; clear hSw; go_simp; with_reducible rfl
        simp only [Act.put, List.setIfInBounds_toArray, List.set_cons_zero, List.set_cons_succ]
        refine wpAnyH_take (i := 10) (v := ?va25) (by simp; rfl) (by kernel_rfl) (by kernel_rfl) (by kernel_rfl) (fun _ _ _ h => h) (Or.inl ⟨by rfl, ?ya25⟩) hHeld ?ra25
        case ya25 => intro w hSw; clear hSw; go_simp; with_reducible rfl
        simp only [Act.put, List.setIfInBounds_toArray, List.set_cons_zero, List.set_cons_succ]
        refine wpAnyH_take (i := 11) (v := ?va26) (by simp; rfl) (by kernel_rfl) (by kernel_rfl) (by kernel_rfl) (fun _ _ _ h => h) (Or.inl ⟨by rfl, ?ya26⟩) hHeld ?ra26
        case ya26 => intro w hSw; have z := lat_c0 (LAt.later LX.out hSw); clear hSw; go_simp; with_reducible rfl
        simp only [Act.put, List.setIfInBounds_toArray, List.set_cons_zero, List.set_cons_succ]
        refine wpAnyH_take (i := 12) (v := ?va27) (by simp; rfl) (by kernel_rfl) (by kernel_rfl) (by kernel_rfl) (fun _ _ _ h => h) (Or.inl ⟨by rfl, ?ya27⟩) hHeld ?ra27
        case ya27 => intro w hSw; clear hSw; go_simp; with_reducible rfl
        simp only [Act.put, List.setIfInBounds_toArray, List.set_cons_zero, List.set_cons_succ]
        refine wpAnyH_take (i := 13) (v := ?va28) (by simp; rfl) (by kernel_rfl) (by kernel_rfl) (by kernel_rfl) (fun _ _ _ h => h) (Or.inl ⟨by rfl, ?ya28⟩) hHeld ?ra28
        case ya28 => intro w hSw; clear hSw; go_simp; with_reducible rfl
        simp only [Act.put, List.setIfInBounds_toArray, List.set_cons_zero, List.set_cons_succ]
        clear hHeld
        refine wpAnyH_done (by kernel_rfl) (NoPanic.normal ?_) _
        have BV : Hid (Below wa.heap.size wa wd) := below_then Br.out DD.out
        have M4 : Hid (MIn wd (some ⟨b, o, none⟩) n l) := M3.out.later DD.out
        have L4 : Hid (LAt 32 wd w.heap.size (icells x)) := LAt.later LX.out DD.out
        obtain ⟨wt, hwt⟩ : ∃ wt, wt = wd := ⟨_, rfl⟩
        subst hwt
        clear DD Br hd M3 LX
        go_wp2_with fail
        by_cases he : y.b = x.b
        · have hq : (y.b == x.b) = true := by simp [he]
          refine wp_region_noPanic ?_
          refine wp_region_held_drew (S := fun w' => Below wt.heap.size wt w') (by kernel_rfl) (below_drawn 1) (fun hHeld => ?_)
          have D4 : Hid (Below wt.heap.size wt wt.drew) := hHeld
          generalize wt.drew = wd at *
          refine wpAnyH_take (i := 0) (v := ?va29) (by simp; rfl) (by kernel_rfl) (by kernel_rfl) (by kernel_rfl) (fun _ _ _ h => h) (Or.inl ⟨by rfl, ?ya29⟩) hHeld ?ra29
          case ya29 => intro w hSw; clear hSw; go_simp; with_reducible rfl
          simp only [Act.put, List.setIfInBounds_toArray, List.set_cons_zero, List.set_cons_succ]
          refine wpAnyH_take (i := 1) (v := ?va30) (by simp; rfl) (by kernel_rfl) (by kernel_rfl) (by kernel_rfl) (fun _ _ _ h => h) (Or.inl ⟨by rfl, ?ya30⟩) hHeld ?ra30
          case ya30 => intro w hSw; clear hSw; go_simp; with_reducible rfl
          simp only [Act.put, List.setIfInBounds_toArray, List.set_cons_zero, List.set_cons_succ]
          refine wpAnyH_take (i := 2) (v := ?va31) (by simp; rfl) (by kernel_rfl) (by kernel_rfl) (by kernel_rfl) (fun _ _ _ h => h) (Or.inl ⟨by rfl, ?ya31⟩) hHeld ?ra31
          case ya31 => intro w hSw; clear hSw; go_simp; with_reducible rfl
          simp only [Act.put, List.setIfInBounds_toArray, List.set_cons_zero, List.set_cons_succ]
          refine wpAnyH_take (i := 3) (v := ?va32) (by simp; rfl) (by kernel_rfl) (by kernel_rfl) (by kernel_rfl) (fun _ _ _ h => h) (Or.inl ⟨by rfl, ?ya32⟩) hHeld ?ra32
          case ya32 => intro w hSw; clear hSw; go_simp; with_reducible rfl
          simp only [Act.put, List.setIfInBounds_toArray, List.set_cons_zero, List.set_cons_succ]
          refine wpAnyH_take (i := 4) (v := ?va33) (by simp; rfl) (by kernel_rfl) (by kernel_rfl) (by kernel_rfl) (fun _ _ _ h => h) (Or.inl ⟨by rfl, ?ya33⟩) hHeld ?ra33
          case ya33 => intro w hSw; clear hSw; go_simp; with_reducible rfl
          simp only [Act.put, List.setIfInBounds_toArray, List.set_cons_zero, List.set_cons_succ]
          refine wpAnyH_take (i := 5) (v := ?va34) (by simp; rfl) (by kernel_rfl) (by kernel_rfl) (by kernel_rfl) (fun _ _ _ h => h) (Or.inl ⟨by rfl, ?ya34⟩) hHeld ?ra34
          case ya34 => intro w hSw; clear hSw; go_simp; with_reducible rfl
          simp only [Act.put, List.setIfInBounds_toArray, List.set_cons_zero, List.set_cons_succ]
          refine wpAnyH_take (i := 6) (v := ?va35) (by simp; rfl) (by kernel_rfl) (by kernel_rfl) (by kernel_rfl) (fun _ _ _ h => h) (Or.inl ⟨by rfl, ?ya35⟩) hHeld ?ra35
          case ya35 => intro w hSw; clear hSw; go_simp; with_reducible rfl
          simp only [Act.put, List.setIfInBounds_toArray, List.set_cons_zero, List.set_cons_succ]
          refine wpAnyH_take (i := 7) (v := ?va36) (by simp; rfl) (by kernel_rfl) (by kernel_rfl) (by kernel_rfl) (fun _ _ _ h => h) (Or.inl ⟨by rfl, ?ya36⟩) hHeld ?ra36
          case ya36 => intro w hSw; clear hSw; go_simp; with_reducible rfl
          simp only [Act.put, List.setIfInBounds_toArray, List.set_cons_zero, List.set_cons_succ]
          refine wpAnyH_take (i := 8) (v := ?va37) (by simp; rfl) (by kernel_rfl) (by kernel_rfl) (by kernel_rfl) (fun _ _ _ h => h) (Or.inl ⟨by rfl, ?ya37⟩) hHeld ?ra37
          case ya37 => intro w hSw; clear hSw; go_simp; with_reducible rfl
          simp only [Act.put, List.setIfInBounds_toArray, List.set_cons_zero, List.set_cons_succ]
          refine wpAnyH_take (i := 9) (v := ?va38) (by simp; rfl) (by kernel_rfl) (by kernel_rfl) (by kernel_rfl) (fun _ _ _ h => h) (Or.inl ⟨by rfl, ?ya38⟩) hHeld ?ra38
          case ya38 => intro w hSw; have z := (M4.out.later hSw).c0 hy; clear hSw; go_simp; with_reducible rfl
          simp only [Act.put, List.setIfInBounds_toArray, List.set_cons_zero, List.set_cons_succ]
          refine wpAnyH_take (i := 10) (v := ?va39) (by simp; rfl) (by kernel_rfl) (by kernel_rfl) (by kernel_rfl) (fun _ _ _ h => h) (Or.inl ⟨by rfl, ?ya39⟩) hHeld ?ra39
          case ya39 => intro w hSw; clear hSw; go_simp; with_reducible rfl
          simp only [Act.put, List.setIfInBounds_toArray, List.set_cons_zero, List.set_cons_succ]
          refine wpAnyH_take (i := 11) (v := ?va40) (by simp; rfl) (by kernel_rfl) (by kernel_rfl) (by kernel_rfl) (fun _ _ _ h => h) (Or.inl ⟨by rfl, ?ya40⟩) hHeld ?ra40
          case ya40 => intro w hSw; have z := lat_c0 (LAt.later L4.out hSw); clear hSw; go_simp; with_reducible rfl
          simp only [Act.put, List.setIfInBounds_toArray, List.set_cons_zero, List.set_cons_succ]
          refine wpAnyH_take (i := 12) (v := ?va41) (by simp; rfl) (by kernel_rfl) (by kernel_rfl) (by kernel_rfl) (fun _ _ _ h => h) (Or.inl ⟨by rfl, ?ya41⟩) hHeld ?ra41
          case ya41 => intro w hSw; clear hSw; go_simp; with_reducible rfl
          simp only [Act.put, List.setIfInBounds_toArray, List.set_cons_zero, List.set_cons_succ]
          refine wpAnyH_take (i := 13) (v := ?va42) (by simp; rfl) (by kernel_rfl) (by kernel_rfl) (by kernel_rfl) (fun _ _ _ h => h) (Or.inl ⟨by rfl, ?ya42⟩) hHeld ?ra42
          case ya42 => intro w hSw; clear hSw; go_simp; with_reducible rfl
          simp only [Act.put, List.setIfInBounds_toArray, List.set_cons_zero, List.set_cons_succ]
          clear hHeld
          refine wpAnyH_done (by kernel_rfl) (NoPanic.normal ?_) _
          have FF : Hid (Below w.heap.size w wd) := below_then (below_then B0.out BV.out) D4.out
          have M7 : Hid (MIn wd (some ⟨b, o, none⟩) n l) := M4.out.later D4.out
          have HE : Hid (withS l x = l) := withS_old l x y (by rw [hka]; exact hy) he
          clear hq D4
          go_wp2_with fail
          go_ret
          rw [HE.out, hll]
          exact ⟨_, c, rfl, M7.out, HNC.out, FF.out⟩
        · have hq : (y.b == x.b) = false := by simp [he]
          have HWn : Hid (withS l x = (([] ++ l.take k) ++ [x]) ++ l.drop k) := by
            have := withS_new l x (fun z hz => by rw [hka, hy] at hz; cases hz; exact he)
            rw [hka] at this; exact this
          refine wp_region_noPanic ?_
          refine wp_region_held_drew (S := fun w' => Below wt.heap.size wt w') (by kernel_rfl) (below_drawn 1) (fun hHeld => ?_)
          have D4 : Hid (Below wt.heap.size wt wt.drew) := hHeld
          generalize wt.drew = wd at *
          refine wpAnyH_take (i := 0) (v := ?va43) (by simp; rfl) (by kernel_rfl) (by kernel_rfl) (by kernel_rfl) (fun _ _ _ h => h) (Or.inl ⟨by rfl, ?ya43⟩) hHeld ?ra43
          case ya43 => intro w hSw; clear hSw; go_simp; with_reducible rfl
          simp only [Act.put, List.setIfInBounds_toArray, List.set_cons_zero, List.set_cons_succ]
          refine wpAnyH_take (i := 1) (v := ?va44) (by simp; rfl) (by kernel_rfl) (by kernel_rfl) (by kernel_rfl) (fun _ _ _ h => h) (Or.inl ⟨by rfl, ?ya44⟩) hHeld ?ra44
          case ya44 => intro w hSw; clear hSw; go_simp; with_reducible rfl
          simp only [Act.put, List.setIfInBounds_toArray, List.set_cons_zero, List.set_cons_succ]
          refine wpAnyH_take (i := 2) (v := ?va45) (by simp; rfl) (by kernel_rfl) (by kernel_rfl) (by kernel_rfl) (fun _ _ _ h => h) (Or.inl ⟨by rfl, ?ya45⟩) hHeld ?ra45
          case ya45 => intro w hSw; clear hSw; go_simp; with_reducible rfl
          simp only [Act.put, List.setIfInBounds_toArray, List.set_cons_zero, List.set_cons_succ]
          refine wpAnyH_take (i := 3) (v := ?va46) (by simp; rfl) (by kernel_rfl) (by kernel_rfl) (by kernel_rfl) (fun _ _ _ h => h) (Or.inl ⟨by rfl, ?ya46⟩) hHeld ?ra46
          case ya46 => intro w hSw; clear hSw; go_simp; with_reducible rfl
          simp only [Act.put, List.setIfInBounds_toArray, List.set_cons_zero, List.set_cons_succ]
          refine wpAnyH_take (i := 4) (v := ?va47) (by simp; rfl) (by kernel_rfl) (by kernel_rfl) (by kernel_rfl) (fun _ _ _ h => h) (Or.inl ⟨by rfl, ?ya47⟩) hHeld ?ra47
          case ya47 => intro w hSw; clear hSw; go_simp; with_reducible rfl
          simp only [Act.put, List.setIfInBounds_toArray, List.set_cons_zero, List.set_cons_succ]
          refine wpAnyH_take (i := 5) (v := ?va48) (by simp; rfl) (by kernel_rfl) (by kernel_rfl) (by kernel_rfl) (fun _ _ _ h => h) (Or.inl ⟨by rfl, ?ya48⟩) hHeld ?ra48
          case ya48 => intro w hSw; clear hSw; go_simp; with_reducible rfl
          simp only [Act.put, List.setIfInBounds_toArray, List.set_cons_zero, List.set_cons_succ]
          refine wpAnyH_take (i := 6) (v := ?va49) (by simp; rfl) (by kernel_rfl) (by kernel_rfl) (by kernel_rfl) (fun _ _ _ h => h) (Or.inl ⟨by rfl, ?ya49⟩) hHeld ?ra49
          case ya49 => intro w hSw; clear hSw; go_simp; with_reducible rfl
          simp only [Act.put, List.setIfInBounds_toArray, List.set_cons_zero, List.set_cons_succ]
          refine wpAnyH_take (i := 7) (v := ?va50) (by simp; rfl) (by kernel_rfl) (by kernel_rfl) (by kernel_rfl) (fun _ _ _ h => h) (Or.inl ⟨by rfl, ?ya50⟩) hHeld ?ra50
          case ya50 => intro w hSw; clear hSw; go_simp; with_reducible rfl
          simp only [Act.put, List.setIfInBounds_toArray, List.set_cons_zero, List.set_cons_succ]
          refine wpAnyH_take (i := 8) (v := ?va51) (by simp; rfl) (by kernel_rfl) (by kernel_rfl) (by kernel_rfl) (fun _ _ _ h => h) (Or.inl ⟨by rfl, ?ya51⟩) hHeld ?ra51
          case ya51 => intro w hSw; clear hSw; go_simp; with_reducible rfl
          simp only [Act.put, List.setIfInBounds_toArray, List.set_cons_zero, List.set_cons_succ]
          refine wpAnyH_take (i := 9) (v := ?va52) (by simp; rfl) (by kernel_rfl) (by kernel_rfl) (by kernel_rfl) (fun _ _ _ h => h) (Or.inl ⟨by rfl, ?ya52⟩) hHeld ?ra52
          case ya52 => intro w hSw; have z := (M4.out.later hSw).c0 hy; clear hSw; go_simp; with_reducible rfl
          simp only [Act.put, List.setIfInBounds_toArray, List.set_cons_zero, List.set_cons_succ]
          refine wpAnyH_take (i := 10) (v := ?va53) (by simp; rfl) (by kernel_rfl) (by kernel_rfl) (by kernel_rfl) (fun _ _ _ h => h) (Or.inl ⟨by rfl, ?ya53⟩) hHeld ?ra53
          case ya53 => intro w hSw; clear hSw; go_simp; with_reducible rfl
          simp only [Act.put, List.setIfInBounds_toArray, List.set_cons_zero, List.set_cons_succ]
          refine wpAnyH_take (i := 11) (v := ?va54) (by simp; rfl) (by kernel_rfl) (by kernel_rfl) (by kernel_rfl) (fun _ _ _ h => h) (Or.inl ⟨by rfl, ?ya54⟩) hHeld ?ra54
          case ya54 => intro w hSw; have z := lat_c0 (LAt.later L4.out hSw); clear hSw; go_simp; with_reducible rfl
          simp only [Act.put, List.setIfInBounds_toArray, List.set_cons_zero, List.set_cons_succ]
          refine wpAnyH_take (i := 12) (v := ?va55) (by simp; rfl) (by kernel_rfl) (by kernel_rfl) (by kernel_rfl) (fun _ _ _ h => h) (Or.inl ⟨by rfl, ?ya55⟩) hHeld ?ra55
          case ya55 => intro w hSw; clear hSw; go_simp; with_reducible rfl
          simp only [Act.put, List.setIfInBounds_toArray, List.set_cons_zero, List.set_cons_succ]
          refine wpAnyH_take (i := 13) (v := ?va56) (by simp; rfl) (by kernel_rfl) (by kernel_rfl) (by kernel_rfl) (fun _ _ _ h => h) (Or.inl ⟨by rfl, ?ya56⟩) hHeld ?ra56
          case ya56 => intro w hSw; clear hSw; go_simp; with_reducible rfl
          simp only [Act.put, List.setIfInBounds_toArray, List.set_cons_zero, List.set_cons_succ]
          clear hHeld
          refine wpAnyH_done (by kernel_rfl) (NoPanic.normal ?_) _
          have BU : Hid (Below wa.heap.size wa wd) := below_then BV.out D4.out
          have M6 : Hid (MIn wd (some ⟨b, o, none⟩) n l) := M4.out.later D4.out
          have LX6 : Hid (LAt 32 wd w.heap.size (icells x)) := LAt.later L4.out D4.out
          obtain ⟨wu, hwu⟩ : ∃ wu, wu = wd := ⟨_, rfl⟩
          subst hwu
          have HW1 : Hid (ImsWf ([] ++ l.take k)) := (M6.out.take k (by omega)).wf
          have HW2 : Hid (ImsWf (([] ++ l.take k) ++ [x])) := fun z hz => (List.mem_append.1 hz).elim (HW1.out z) (fun hz => by rw [List.mem_singleton.1 hz]; exact HXW.out)
          obtain ⟨q, hq0⟩ : ∃ q, q = some (⟨b, o, none⟩ : Addr) := ⟨_, rfl⟩
          rw [← hq0] at M6
          rw [← hq0]
          clear hq D4 M4 L4 BV hq0 HM
          go_wp2_with fail
          have G9 : Hid (Below wu.heap.size wu wu.drew) := below_drawn 1
          refine wp_region_noPanic ?_
          refine wp_region_held_drew (S := fun w' => Below wu.heap.size wu w') (by kernel_rfl) (below_drawn 1) (fun hHeld => ?_)
          generalize wu.drew = wd at *
          refine wpAnyH_take (i := 1) (v := ?vai69) (by simp; rfl) (by kernel_rfl) (by kernel_rfl) (by kernel_rfl) (fun _ _ _ h => h) (Or.inl ⟨by rfl, ?yai69⟩) hHeld ?rai69
          case yai69 => intro w hSw; clear hSw; go_simp; with_reducible rfl
          simp only [Act.put, List.setIfInBounds_toArray, List.set_cons_zero, List.set_cons_succ]
          refine wpAnyH_take (i := 2) (v := ?vai70) (by simp; rfl) (by kernel_rfl) (by kernel_rfl) (by kernel_rfl) (fun _ _ _ h => h) (Or.inl ⟨by rfl, ?yai70⟩) hHeld ?rai70
          case yai70 => intro w hSw; clear hSw; go_simp; with_reducible rfl
          simp only [Act.put, List.setIfInBounds_toArray, List.set_cons_zero, List.set_cons_succ]
          refine wpAnyH_take (i := 3) (v := _) (by simp; rfl) (by kernel_rfl) (by kernel_rfl) (by kernel_rfl) (fun _ _ _ h => h) (yields_slice_is (vx := .slice q n c) (vl := none) (vh := some (.int .i64 (k : Int))) (vm := none) (by rfl) 26 rfl rfl rfl rfl rfl (fun w => run_to w q n c k (by omega))) hHeld ?_
          simp only [Act.put, List.setIfInBounds_toArray, List.set_cons_zero, List.set_cons_succ]
          refine wpAnyH_take (i := 5) (v := _) (by simp; rfl) (by kernel_rfl) (by kernel_rfl) (by kernel_rfl) (fun _ _ _ h => h) (yieldsIf_load_mid (by rfl) 32 (.tmp 3) rfl w.heap.size 0 rfl (icells x) _ (fun _ h => LAt.range (LAt.later LX6.out h)) Tryd.underlying32 rfl (by rw [sizeI, icells_len HXW.out.len])) hHeld ?_
          simp only [Act.put, List.setIfInBounds_toArray, List.set_cons_zero, List.set_cons_succ]
          refine wpAnyH_take (i := 8) (v := ?vai71) (by simp; rfl) (by kernel_rfl) (by kernel_rfl) (by kernel_rfl) (fun _ _ _ h => h) (Or.inl ⟨by rfl, ?yai71⟩) hHeld ?rai71
          case yai71 => intro w hSw; clear hSw; go_simp; with_reducible rfl
          simp only [Act.put, List.setIfInBounds_toArray, List.set_cons_zero, List.set_cons_succ]
          refine wpAnyH_take (i := 9) (v := ?vai72) (by simp; rfl) (by kernel_rfl) (by kernel_rfl) (by kernel_rfl) (fun _ _ _ h => h) (Or.inl ⟨by rfl, ?yai72⟩) hHeld ?rai72
          case yai72 => intro w hSw; clear hSw; go_simp; with_reducible rfl
          simp only [Act.put, List.setIfInBounds_toArray, List.set_cons_zero, List.set_cons_succ]
          refine wpAnyH_take (i := 10) (v := _) (by simp; rfl) (by kernel_rfl) (by kernel_rfl) (by kernel_rfl) (fun _ _ _ h => h) (yields_slice_is (vx := .slice q n c) (vl := some (.int .i64 (k : Int))) (vh := none) (vm := none) (by rfl) 26 rfl rfl rfl rfl rfl (fun w => run_from w q n c k (by omega))) hHeld ?_
          simp only [Act.put, List.setIfInBounds_toArray, List.set_cons_zero, List.set_cons_succ]
          refine wpAnyH_ready (rs := [0, 6]) (by kernel_rfl) (by simp) ?_
          refine AllReadyH.cons (by simp; rfl) (fun Kc hKc => ?_) (AllReadyH.cons (by simp; rfl) (fun Kc hKc => ?_) AllReadyH.nil)
          · refine sq_slice0 (by rfl) 26 rfl (build_im0 wd) ?_
            obtain ⟨x0, hx0⟩ : ∃ x0, x0 = wd.alloc (.cells #[] 32) := ⟨_, rfl⟩
            obtain ⟨ge, hge⟩ : ∃ ge, ge = wd.heap.size := ⟨_, rfl⟩
            have b0 : Below wd.heap.size wd x0 := by rw [hx0]; exact below_alloc wd _
            have G0 : Hid (Below wu.heap.size wu x0) := below_then G9.out b0
            have R0 : Hid (IOwn x0 wu.heap.size (.slice (some ⟨ge, 0, none⟩) 0 0) []) := by rw [hx0, hge]; exact World.ownsRow_made wd #[] 0 G9.out.size (Nat.zero_le _) rfl
            rw [← hx0, ← hge]
            refine hKc.out _ _ G0.out (fun hHeld => ?_)
            clear hx0 hge b0
            clear hKc Kc
            simp only [Act.put, List.setIfInBounds_toArray, List.set_cons_zero, List.set_cons_succ]
            refine wpAnyH_ready (rs := [4, 6]) (by kernel_rfl) (by simp) ?_
            refine AllReadyH.cons (by simp; rfl) (fun Kc hKc => ?_) (AllReadyH.cons (by simp; rfl) (fun Kc hKc => ?_) AllReadyH.nil)
            · obtain ⟨q1, m1, c1, y1, hr1, ho1, hg1, -⟩ := app_imsL (c := c) R0.out ImsWf.nil ((M6.out.take k (by omega)).later G0.out) (by simp; omega) G0.out.size
              refine sq_append (u1 := (.slice (some ⟨ge, 0, none⟩) 0 0)) (u2 := .slice q k c) (by rfl) rfl rfl rfl rfl hr1 ?_
              have R1 : Hid (IOwn y1 wu.heap.size (.slice q1 m1 c1) ([] ++ l.take k)) := ho1
              have G1 : Hid (Below wu.heap.size wu y1) := G0.out.grown hg1 G0.out.size (fun j ej => (R0.out.lt j ej).1)
              refine hKc.out _ _ G1.out (fun hHeld => ?_)
              clear hr1 ho1 hg1
              clear hKc Kc
              simp only [Act.put, List.setIfInBounds_toArray, List.set_cons_zero, List.set_cons_succ]
              refine wpAnyH_ready (rs := [6]) (by kernel_rfl) (by simp) ?_
              refine AllReadyH.cons (by simp; rfl) (fun Kc hKc => ?_) AllReadyH.nil
              refine sq_slice (u := .agg (icells x).toArray) (by rfl) 26 rfl rfl (build_im y1 x HXW.out.len) ?_
              obtain ⟨x6, hx6⟩ : ∃ x6, x6 = y1.alloc (.cells (icells x).toArray 32) := ⟨_, rfl⟩
              obtain ⟨gi, hgi⟩ : ∃ gi, gi = y1.heap.size := ⟨_, rfl⟩
              have b6 : Below y1.heap.size y1 x6 := by rw [hx6]; exact below_alloc y1 _
              have G6 : Hid (Below wu.heap.size wu x6) := below_then G1.out b6
              have m6 : MIn x6 (some ⟨gi, 0, none⟩) 1 [x] := ⟨rfl, fun y hy => by rw [List.mem_singleton.1 hy]; exact HXW.out, fun _ => ⟨gi, 0, rfl, by rw [hx6, hgi, show IC [x] = icells x by simp [IC]]; exact LAt.range (LAt.new 32 y1 (icells x))⟩⟩
              have R6 : Hid (IOwn x6 wu.heap.size (.slice q1 m1 c1) (([] ++ l.take k))) := R1.out.later b6
              have I6 : Hid (MIn x6 (some ⟨gi, 0, none⟩) 1 [x]) := m6
              rw [← hx6, ← hgi]
              refine hKc.out _ _ G6.out (fun hHeld => ?_)
              clear hx6 hgi b6 m6
              clear hKc Kc
              simp only [Act.put, List.setIfInBounds_toArray, List.set_cons_zero, List.set_cons_succ]
              refine wpAnyH_ready (rs := [7]) (by kernel_rfl) (by simp) ?_
              refine AllReadyH.cons (by simp; rfl) (fun Kc hKc => ?_) AllReadyH.nil
              obtain ⟨q2, m2, c2, y2, hr2, ho2, hg2, -⟩ := app_imsL (c := 1) R6.out HW1.out I6.out (by simp; omega) G6.out.size
              refine sq_append (u1 := (.slice q1 m1 c1)) (u2 := .slice (some ⟨gi, 0, none⟩) 1 1) (by rfl) rfl rfl rfl rfl hr2 ?_
              have R2 : Hid (IOwn y2 wu.heap.size (.slice q2 m2 c2) (([] ++ l.take k) ++ [x])) := ho2
              have G2 : Hid (Below wu.heap.size wu y2) := G6.out.grown hg2 G6.out.size (fun j ej => (R6.out.lt j ej).1)
              refine hKc.out _ _ G2.out (fun hHeld => ?_)
              clear hr2 ho2 hg2
              clear hKc Kc
              simp only [Act.put, List.setIfInBounds_toArray, List.set_cons_zero, List.set_cons_succ]
              refine wpAnyH_ready (rs := [11]) (by kernel_rfl) (by simp) ?_
              refine AllReadyH.cons (by simp; rfl) (fun Kc hKc => ?_) AllReadyH.nil
              obtain ⟨q3, m3, c3, y3, hr3, ho3, hg3, -⟩ := app_imsL (c := (c - k)) R2.out HW2.out ((M6.out.drop (k := k) (c := c) (by omega) HNC.out).later G2.out) (by simp; omega) G2.out.size
              refine sq_append (u1 := (.slice q2 m2 c2)) (u2 := .slice (dropA q k c) (n - k) (c - k)) (by rfl) rfl rfl rfl rfl hr3 ?_
              have R3 : Hid (IOwn y3 wu.heap.size (.slice q3 m3 c3) ((([] ++ l.take k) ++ [x]) ++ l.drop k)) := ho3
              have G3 : Hid (Below wu.heap.size wu y3) := G2.out.grown hg3 G2.out.size (fun j ej => (R2.out.lt j ej).1)
              refine hKc.out _ _ G3.out (fun hHeld => ?_)
              clear hr3 ho3 hg3
              clear hKc Kc
              simp only [Act.put, List.setIfInBounds_toArray, List.set_cons_zero, List.set_cons_succ]
              refine wpAnyH_take (i := 12) (v := ?vai73) (by simp; rfl) (by kernel_rfl) (by kernel_rfl) (by kernel_rfl) (fun _ _ _ h => h) (Or.inl ⟨by rfl, ?yai73⟩) hHeld ?rai73
              case yai73 => intro w hSw; clear hSw; go_simp; with_reducible rfl
              simp only [Act.put, List.setIfInBounds_toArray, List.set_cons_zero, List.set_cons_succ]
              clear hHeld
              refine wpAnyH_done (by kernel_rfl) (NoPanic.normal ?_) _
              have FF : Hid (Below w.heap.size w y3) := below_then (below_then B0.out BU.out) G3.out
              have RF : Hid (_) := R3.out
              clear G3 R3
              go_wp2_with fail
              go_ret
              obtain ⟨a1, a2, a3, a4, a5, -⟩ := IOwn.in RF.out (by rw [← HWn.out]; exact HWW.out)
              rw [← HWn.out] at a3 a4 a5
              cases a3
              exact ⟨_, _, rfl, a4, a5, FF.out⟩
            · refine sq_slice (u := .agg (icells x).toArray) (by rfl) 26 rfl rfl (build_im x0 x HXW.out.len) ?_
              obtain ⟨x6, hx6⟩ : ∃ x6, x6 = x0.alloc (.cells (icells x).toArray 32) := ⟨_, rfl⟩
              obtain ⟨gi, hgi⟩ : ∃ gi, gi = x0.heap.size := ⟨_, rfl⟩
              have b6 : Below x0.heap.size x0 x6 := by rw [hx6]; exact below_alloc x0 _
              have G6 : Hid (Below wu.heap.size wu x6) := below_then G0.out b6
              have m6 : MIn x6 (some ⟨gi, 0, none⟩) 1 [x] := ⟨rfl, fun y hy => by rw [List.mem_singleton.1 hy]; exact HXW.out, fun _ => ⟨gi, 0, rfl, by rw [hx6, hgi, show IC [x] = icells x by simp [IC]]; exact LAt.range (LAt.new 32 x0 (icells x))⟩⟩
              have R6 : Hid (IOwn x6 wu.heap.size (.slice (some ⟨ge, 0, none⟩) 0 0) ([])) := R0.out.later b6
              have I6 : Hid (MIn x6 (some ⟨gi, 0, none⟩) 1 [x] ∧ ge ≠ gi) := ⟨m6, by have := (R0.out.lt ge rfl).2; omega⟩
              rw [← hx6, ← hgi]
              refine hKc.out _ _ G6.out (fun hHeld => ?_)
              clear hx6 hgi b6 m6
              clear hKc Kc
              simp only [Act.put, List.setIfInBounds_toArray, List.set_cons_zero, List.set_cons_succ]
              refine wpAnyH_ready (rs := [4]) (by kernel_rfl) (by simp) ?_
              refine AllReadyH.cons (by simp; rfl) (fun Kc hKc => ?_) AllReadyH.nil
              obtain ⟨q1, m1, c1, y1, hr1, ho1, hg1, -⟩ := app_imsL (c := c) R6.out ImsWf.nil ((M6.out.take k (by omega)).later G6.out) (by simp; omega) G6.out.size
              refine sq_append (u1 := (.slice (some ⟨ge, 0, none⟩) 0 0)) (u2 := .slice q k c) (by rfl) rfl rfl rfl rfl hr1 ?_
              have R1 : Hid (IOwn y1 wu.heap.size (.slice q1 m1 c1) ([] ++ l.take k)) := ho1
              have G1 : Hid (Below wu.heap.size wu y1) := G6.out.grown hg1 G6.out.size (fun j ej => (R6.out.lt j ej).1)
              have I1 : Hid (MIn y1 (some ⟨gi, 0, none⟩) 1 [x]) := I6.out.1.grown hg1 (fun e' => I6.out.2 (Option.some.inj e'))
              refine hKc.out _ _ G1.out (fun hHeld => ?_)
              clear hr1 ho1 hg1
              clear hKc Kc
              simp only [Act.put, List.setIfInBounds_toArray, List.set_cons_zero, List.set_cons_succ]
              refine wpAnyH_ready (rs := [7]) (by kernel_rfl) (by simp) ?_
              refine AllReadyH.cons (by simp; rfl) (fun Kc hKc => ?_) AllReadyH.nil
              obtain ⟨q2, m2, c2, y2, hr2, ho2, hg2, -⟩ := app_imsL (c := 1) R1.out HW1.out I1.out (by simp; omega) G1.out.size
              refine sq_append (u1 := (.slice q1 m1 c1)) (u2 := .slice (some ⟨gi, 0, none⟩) 1 1) (by rfl) rfl rfl rfl rfl hr2 ?_
              have R2 : Hid (IOwn y2 wu.heap.size (.slice q2 m2 c2) (([] ++ l.take k) ++ [x])) := ho2
              have G2 : Hid (Below wu.heap.size wu y2) := G1.out.grown hg2 G1.out.size (fun j ej => (R1.out.lt j ej).1)
              refine hKc.out _ _ G2.out (fun hHeld => ?_)
              clear hr2 ho2 hg2
              clear hKc Kc
              simp only [Act.put, List.setIfInBounds_toArray, List.set_cons_zero, List.set_cons_succ]
              refine wpAnyH_ready (rs := [11]) (by kernel_rfl) (by simp) ?_
              refine AllReadyH.cons (by simp; rfl) (fun Kc hKc => ?_) AllReadyH.nil
              obtain ⟨q3, m3, c3, y3, hr3, ho3, hg3, -⟩ := app_imsL (c := (c - k)) R2.out HW2.out ((M6.out.drop (k := k) (c := c) (by omega) HNC.out).later G2.out) (by simp; omega) G2.out.size
              refine sq_append (u1 := (.slice q2 m2 c2)) (u2 := .slice (dropA q k c) (n - k) (c - k)) (by rfl) rfl rfl rfl rfl hr3 ?_
              have R3 : Hid (IOwn y3 wu.heap.size (.slice q3 m3 c3) ((([] ++ l.take k) ++ [x]) ++ l.drop k)) := ho3
              have G3 : Hid (Below wu.heap.size wu y3) := G2.out.grown hg3 G2.out.size (fun j ej => (R2.out.lt j ej).1)
              refine hKc.out _ _ G3.out (fun hHeld => ?_)
              clear hr3 ho3 hg3
              clear hKc Kc
              simp only [Act.put, List.setIfInBounds_toArray, List.set_cons_zero, List.set_cons_succ]
              refine wpAnyH_take (i := 12) (v := ?vai74) (by simp; rfl) (by kernel_rfl) (by kernel_rfl) (by kernel_rfl) (fun _ _ _ h => h) (Or.inl ⟨by rfl, ?yai74⟩) hHeld ?rai74
              case yai74 => intro w hSw; clear hSw; go_simp; with_reducible rfl
              simp only [Act.put, List.setIfInBounds_toArray, List.set_cons_zero, List.set_cons_succ]
              clear hHeld
              refine wpAnyH_done (by kernel_rfl) (NoPanic.normal ?_) _
              have FF : Hid (Below w.heap.size w y3) := below_then (below_then B0.out BU.out) G3.out
              have RF : Hid (_) := R3.out
              clear G3 R3
              go_wp2_with fail
              go_ret
              obtain ⟨a1, a2, a3, a4, a5, -⟩ := IOwn.in RF.out (by rw [← HWn.out]; exact HWW.out)
              rw [← HWn.out] at a3 a4 a5
              cases a3
              exact ⟨_, _, rfl, a4, a5, FF.out⟩
          · refine sq_slice (u := .agg (icells x).toArray) (by rfl) 26 rfl rfl (build_im wd x HXW.out.len) ?_
            obtain ⟨x6, hx6⟩ : ∃ x6, x6 = wd.alloc (.cells (icells x).toArray 32) := ⟨_, rfl⟩
            obtain ⟨gi, hgi⟩ : ∃ gi, gi = wd.heap.size := ⟨_, rfl⟩
            have b6 : Below wd.heap.size wd x6 := by rw [hx6]; exact below_alloc wd _
            have G6 : Hid (Below wu.heap.size wu x6) := below_then G9.out b6
            have m6 : MIn x6 (some ⟨gi, 0, none⟩) 1 [x] := ⟨rfl, fun y hy => by rw [List.mem_singleton.1 hy]; exact HXW.out, fun _ => ⟨gi, 0, rfl, by rw [hx6, hgi, show IC [x] = icells x by simp [IC]]; exact LAt.range (LAt.new 32 wd (icells x))⟩⟩
            have I6 : Hid (MIn x6 (some ⟨gi, 0, none⟩) 1 [x] ∧ gi < x6.heap.size) := ⟨m6, by rw [hx6, hgi]; simp⟩
            rw [← hx6, ← hgi]
            refine hKc.out _ _ G6.out (fun hHeld => ?_)
            clear hx6 hgi b6 m6
            clear hKc Kc
            simp only [Act.put, List.setIfInBounds_toArray, List.set_cons_zero, List.set_cons_succ]
            refine wpAnyH_ready (rs := [0]) (by kernel_rfl) (by simp) ?_
            refine AllReadyH.cons (by simp; rfl) (fun Kc hKc => ?_) AllReadyH.nil
            refine sq_slice0 (by rfl) 26 rfl (build_im0 x6) ?_
            obtain ⟨x0, hx0⟩ : ∃ x0, x0 = x6.alloc (.cells #[] 32) := ⟨_, rfl⟩
            obtain ⟨ge, hge⟩ : ∃ ge, ge = x6.heap.size := ⟨_, rfl⟩
            have b0 : Below x6.heap.size x6 x0 := by rw [hx0]; exact below_alloc x6 _
            have G0 : Hid (Below wu.heap.size wu x0) := below_then G6.out b0
            have R0 : Hid (IOwn x0 wu.heap.size (.slice (some ⟨ge, 0, none⟩) 0 0) []) := by rw [hx0, hge]; exact World.ownsRow_made x6 #[] 0 G6.out.size (Nat.zero_le _) rfl
            have I0 : Hid (MIn x0 (some ⟨gi, 0, none⟩) 1 [x] ∧ ge ≠ gi) := ⟨I6.out.1.later b0, by have := I6.out.2; omega⟩
            rw [← hx0, ← hge]
            refine hKc.out _ _ G0.out (fun hHeld => ?_)
            clear hx0 hge b0
            clear hKc Kc
            simp only [Act.put, List.setIfInBounds_toArray, List.set_cons_zero, List.set_cons_succ]
            refine wpAnyH_ready (rs := [4]) (by kernel_rfl) (by simp) ?_
            refine AllReadyH.cons (by simp; rfl) (fun Kc hKc => ?_) AllReadyH.nil
            obtain ⟨q1, m1, c1, y1, hr1, ho1, hg1, -⟩ := app_imsL (c := c) R0.out ImsWf.nil ((M6.out.take k (by omega)).later G0.out) (by simp; omega) G0.out.size
            refine sq_append (u1 := (.slice (some ⟨ge, 0, none⟩) 0 0)) (u2 := .slice q k c) (by rfl) rfl rfl rfl rfl hr1 ?_
            have R1 : Hid (IOwn y1 wu.heap.size (.slice q1 m1 c1) ([] ++ l.take k)) := ho1
            have G1 : Hid (Below wu.heap.size wu y1) := G0.out.grown hg1 G0.out.size (fun j ej => (R0.out.lt j ej).1)
            have I1 : Hid (MIn y1 (some ⟨gi, 0, none⟩) 1 [x]) := I0.out.1.grown hg1 (fun e' => I0.out.2 (Option.some.inj e'))
            refine hKc.out _ _ G1.out (fun hHeld => ?_)
            clear hr1 ho1 hg1
            clear hKc Kc
            simp only [Act.put, List.setIfInBounds_toArray, List.set_cons_zero, List.set_cons_succ]
            refine wpAnyH_ready (rs := [7]) (by kernel_rfl) (by simp) ?_
            refine AllReadyH.cons (by simp; rfl) (fun Kc hKc => ?_) AllReadyH.nil
            obtain ⟨q2, m2, c2, y2, hr2, ho2, hg2, -⟩ := app_imsL (c := 1) R1.out HW1.out I1.out (by simp; omega) G1.out.size
            refine sq_append (u1 := (.slice q1 m1 c1)) (u2 := .slice (some ⟨gi, 0, none⟩) 1 1) (by rfl) rfl rfl rfl rfl hr2 ?_
            have R2 : Hid (IOwn y2 wu.heap.size (.slice q2 m2 c2) (([] ++ l.take k) ++ [x])) := ho2
            have G2 : Hid (Below wu.heap.size wu y2) := G1.out.grown hg2 G1.out.size (fun j ej => (R1.out.lt j ej).1)
            refine hKc.out _ _ G2.out (fun hHeld => ?_)
            clear hr2 ho2 hg2
            clear hKc Kc
            simp only [Act.put, List.setIfInBounds_toArray, List.set_cons_zero, List.set_cons_succ]
            refine wpAnyH_ready (rs := [11]) (by kernel_rfl) (by simp) ?_
            refine AllReadyH.cons (by simp; rfl) (fun Kc hKc => ?_) AllReadyH.nil
            obtain ⟨q3, m3, c3, y3, hr3, ho3, hg3, -⟩ := app_imsL (c := (c - k)) R2.out HW2.out ((M6.out.drop (k := k) (c := c) (by omega) HNC.out).later G2.out) (by simp; omega) G2.out.size
            refine sq_append (u1 := (.slice q2 m2 c2)) (u2 := .slice (dropA q k c) (n - k) (c - k)) (by rfl) rfl rfl rfl rfl hr3 ?_
            have R3 : Hid (IOwn y3 wu.heap.size (.slice q3 m3 c3) ((([] ++ l.take k) ++ [x]) ++ l.drop k)) := ho3
            have G3 : Hid (Below wu.heap.size wu y3) := G2.out.grown hg3 G2.out.size (fun j ej => (R2.out.lt j ej).1)
            refine hKc.out _ _ G3.out (fun hHeld => ?_)
            clear hr3 ho3 hg3
            clear hKc Kc
            simp only [Act.put, List.setIfInBounds_toArray, List.set_cons_zero, List.set_cons_succ]
            refine wpAnyH_take (i := 12) (v := ?vai75) (by simp; rfl) (by kernel_rfl) (by kernel_rfl) (by kernel_rfl) (fun _ _ _ h => h) (Or.inl ⟨by rfl, ?yai75⟩) hHeld ?rai75
            case yai75 => intro w hSw; clear hSw; go_simp; with_reducible rfl
            simp only [Act.put, List.setIfInBounds_toArray, List.set_cons_zero, List.set_cons_succ]
            clear hHeld
            refine wpAnyH_done (by kernel_rfl) (NoPanic.normal ?_) _
            have FF : Hid (Below w.heap.size w y3) := below_then (below_then B0.out BU.out) G3.out
            have RF : Hid (_) := R3.out
            clear G3 R3
            go_wp2_with fail
            go_ret
            obtain ⟨a1, a2, a3, a4, a5, -⟩ := IOwn.in RF.out (by rw [← HWn.out]; exact HWW.out)
            rw [← HWn.out] at a3 a4 a5
            cases a3
            exact ⟨_, _, rfl, a4, a5, FF.out⟩
    · have hnl : ¬ (k : Int) < (n : Int) := by omega
      have hka : atW l x.b = k := by omega
      go_wp2_with fail
      refine wp_region_noPanic ?_
      refine wp_region_held_drew (S := fun w' => Below wv.heap.size wv w') (by kernel_rfl) (below_drawn 1) (fun hHeld => ?_)
      have DD : Hid (Below wv.heap.size wv wv.drew) := hHeld
      generalize wv.drew = wd at *
      refine wpAnyH_take (i := 0) (v := ?va57) (by simp; rfl) (by kernel_rfl) (by kernel_rfl) (by kernel_rfl) (fun _ _ _ h => h) (Or.inl ⟨by rfl, ?ya57⟩) hHeld ?ra57
      case ya57 => intro w hSw; clear hSw; go_simp; with_reducible rfl
      simp only [Act.put, List.setIfInBounds_toArray, List.set_cons_zero, List.set_cons_succ]
      refine wpAnyH_take (i := 1) (v := ?va58) (by simp; rfl) (by kernel_rfl) (by kernel_rfl) (by kernel_rfl) (fun _ _ _ h => h) (Or.inl ⟨by rfl, ?ya58⟩) hHeld ?ra58
      case ya58 => intro w hSw; clear hSw; go_simp; with_reducible rfl
      simp only [Act.put, List.setIfInBounds_toArray, List.set_cons_zero, List.set_cons_succ]
      refine wpAnyH_take (i := 2) (v := ?va59) (by simp; rfl) (by kernel_rfl) (by kernel_rfl) (by kernel_rfl) (fun _ _ _ h => h) (Or.inl ⟨by rfl, ?ya59⟩) hHeld ?ra59
      case ya59 => intro w hSw; clear hSw; go_simp; with_reducible rfl
      simp only [Act.put, List.setIfInBounds_toArray, List.set_cons_zero, List.set_cons_succ]
      refine wpAnyH_take (i := 3) (v := ?va60) (by simp; rfl) (by kernel_rfl) (by kernel_rfl) (by kernel_rfl) (fun _ _ _ h => h) (Or.inl ⟨by rfl, ?ya60⟩) hHeld ?ra60
      case ya60 => intro w hSw; clear hSw; go_simp; with_reducible rfl
      simp only [Act.put, List.setIfInBounds_toArray, List.set_cons_zero, List.set_cons_succ]
      refine wpAnyH_take (i := 4) (v := ?va61) (by simp; rfl) (by kernel_rfl) (by kernel_rfl) (by kernel_rfl) (fun _ _ _ h => h) (Or.inl ⟨by rfl, ?ya61⟩) hHeld ?ra61
      case ya61 => intro w hSw; clear hSw; go_simp; with_reducible rfl
      simp only [Act.put, List.setIfInBounds_toArray, List.set_cons_zero, List.set_cons_succ]
      refine wpAnyH_take (i := 5) (v := undef) (by simp; rfl) (by kernel_rfl) (by kernel_rfl) (by kernel_rfl) (fun _ _ _ h => h) (Or.inr ⟨by rfl, rfl⟩) hHeld ?_
      simp only [Act.put, List.setIfInBounds_toArray, List.set_cons_zero, List.set_cons_succ]
      refine wpAnyH_take (i := 6) (v := undef) (by simp; rfl) (by kernel_rfl) (by kernel_rfl) (by kernel_rfl) (fun _ _ _ h => h) (Or.inr ⟨by rfl, rfl⟩) hHeld ?_
      simp only [Act.put, List.setIfInBounds_toArray, List.set_cons_zero, List.set_cons_succ]
      refine wpAnyH_take (i := 7) (v := undef) (by simp; rfl) (by kernel_rfl) (by kernel_rfl) (by kernel_rfl) (fun _ _ _ h => h) (Or.inr ⟨by rfl, rfl⟩) hHeld ?_
      simp only [Act.put, List.setIfInBounds_toArray, List.set_cons_zero, List.set_cons_succ]
      refine wpAnyH_take (i := 8) (v := undef) (by simp; rfl) (by kernel_rfl) (by kernel_rfl) (by kernel_rfl) (fun _ _ _ h => h) (Or.inr ⟨by rfl, rfl⟩) hHeld ?_
      simp only [Act.put, List.setIfInBounds_toArray, List.set_cons_zero, List.set_cons_succ]
      refine wpAnyH_take (i := 9) (v := undef) (by simp; rfl) (by kernel_rfl) (by kernel_rfl) (by kernel_rfl) (fun _ _ _ h => h) (Or.inr ⟨by rfl, rfl⟩) hHeld ?_
      simp only [Act.put, List.setIfInBounds_toArray, List.set_cons_zero, List.set_cons_succ]
      refine wpAnyH_take (i := 10) (v := undef) (by simp; rfl) (by kernel_rfl) (by kernel_rfl) (by kernel_rfl) (fun _ _ _ h => h) (Or.inr ⟨by rfl, rfl⟩) hHeld ?_
      simp only [Act.put, List.setIfInBounds_toArray, List.set_cons_zero, List.set_cons_succ]
      refine wpAnyH_take (i := 11) (v := undef) (by simp; rfl) (by kernel_rfl) (by kernel_rfl) (by kernel_rfl) (fun _ _ _ h => h) (Or.inr ⟨by rfl, rfl⟩) hHeld ?_
      simp only [Act.put, List.setIfInBounds_toArray, List.set_cons_zero, List.set_cons_succ]
      refine wpAnyH_take (i := 12) (v := undef) (by simp; rfl) (by kernel_rfl) (by kernel_rfl) (by kernel_rfl) (fun _ _ _ h => h) (Or.inr ⟨by rfl, rfl⟩) hHeld ?_
      simp only [Act.put, List.setIfInBounds_toArray, List.set_cons_zero, List.set_cons_succ]
      refine wpAnyH_take (i := 13) (v := ?va62) (by simp; rfl) (by kernel_rfl) (by kernel_rfl) (by kernel_rfl) (fun _ _ _ h => h) (Or.inl ⟨by rfl, ?ya62⟩) hHeld ?ra62
      case ya62 => intro w hSw; clear hSw; go_simp; with_reducible rfl
      simp only [Act.put, List.setIfInBounds_toArray, List.set_cons_zero, List.set_cons_succ]
      clear hHeld
      refine wpAnyH_done (by kernel_rfl) (NoPanic.normal ?_) _
      have BV : Hid (Below wa.heap.size wa wd) := below_then Br.out DD.out
      have M4 : Hid (MIn wd q n l) := M3.out.later DD.out
      have L4 : Hid (LAt 32 wd w.heap.size (icells x)) := LAt.later LX.out DD.out
      obtain ⟨wt, hwt⟩ : ∃ wt, wt = wd := ⟨_, rfl⟩
      subst hwt
      clear DD Br M3 LX
      have HWn : Hid (withS l x = (([] ++ l.take k) ++ [x]) ++ l.drop k) := by
        have := withS_new l x (fun z hz => by rw [hka, List.getElem?_eq_none (by omega)] at hz; cases hz)
        rw [hka] at this; exact this
      go_wp2_with fail
      refine wp_region_noPanic ?_
      refine wp_region_held_drew (S := fun w' => Below wt.heap.size wt w') (by kernel_rfl) (below_drawn 1) (fun hHeld => ?_)
      have D4 : Hid (Below wt.heap.size wt wt.drew) := hHeld
      generalize wt.drew = wd at *
      refine wpAnyH_take (i := 0) (v := ?va63) (by simp; rfl) (by kernel_rfl) (by kernel_rfl) (by kernel_rfl) (fun _ _ _ h => h) (Or.inl ⟨by rfl, ?ya63⟩) hHeld ?ra63
      case ya63 => intro w hSw; clear hSw; go_simp; with_reducible rfl
      simp only [Act.put, List.setIfInBounds_toArray, List.set_cons_zero, List.set_cons_succ]
      refine wpAnyH_take (i := 1) (v := ?va64) (by simp; rfl) (by kernel_rfl) (by kernel_rfl) (by kernel_rfl) (fun _ _ _ h => h) (Or.inl ⟨by rfl, ?ya64⟩) hHeld ?ra64
      case ya64 => intro w hSw; clear hSw; go_simp; with_reducible rfl
      simp only [Act.put, List.setIfInBounds_toArray, List.set_cons_zero, List.set_cons_succ]
      refine wpAnyH_take (i := 2) (v := ?va65) (by simp; rfl) (by kernel_rfl) (by kernel_rfl) (by kernel_rfl) (fun _ _ _ h => h) (Or.inl ⟨by rfl, ?ya65⟩) hHeld ?ra65
      case ya65 => intro w hSw; clear hSw; go_simp; with_reducible rfl
      simp only [Act.put, List.setIfInBounds_toArray, List.set_cons_zero, List.set_cons_succ]
      refine wpAnyH_take (i := 3) (v := ?va66) (by simp; rfl) (by kernel_rfl) (by kernel_rfl) (by kernel_rfl) (fun _ _ _ h => h) (Or.inl ⟨by rfl, ?ya66⟩) hHeld ?ra66
      case ya66 => intro w hSw; clear hSw; go_simp; with_reducible rfl
      simp only [Act.put, List.setIfInBounds_toArray, List.set_cons_zero, List.set_cons_succ]
      refine wpAnyH_take (i := 4) (v := ?va67) (by simp; rfl) (by kernel_rfl) (by kernel_rfl) (by kernel_rfl) (fun _ _ _ h => h) (Or.inl ⟨by rfl, ?ya67⟩) hHeld ?ra67
      case ya67 => intro w hSw; clear hSw; go_simp; with_reducible rfl
      simp only [Act.put, List.setIfInBounds_toArray, List.set_cons_zero, List.set_cons_succ]
      refine wpAnyH_take (i := 5) (v := undef) (by simp; rfl) (by kernel_rfl) (by kernel_rfl) (by kernel_rfl) (fun _ _ _ h => h) (Or.inr ⟨by rfl, rfl⟩) hHeld ?_
      simp only [Act.put, List.setIfInBounds_toArray, List.set_cons_zero, List.set_cons_succ]
      refine wpAnyH_take (i := 6) (v := undef) (by simp; rfl) (by kernel_rfl) (by kernel_rfl) (by kernel_rfl) (fun _ _ _ h => h) (Or.inr ⟨by rfl, rfl⟩) hHeld ?_
      simp only [Act.put, List.setIfInBounds_toArray, List.set_cons_zero, List.set_cons_succ]
      refine wpAnyH_take (i := 7) (v := undef) (by simp; rfl) (by kernel_rfl) (by kernel_rfl) (by kernel_rfl) (fun _ _ _ h => h) (Or.inr ⟨by rfl, rfl⟩) hHeld ?_
      simp only [Act.put, List.setIfInBounds_toArray, List.set_cons_zero, List.set_cons_succ]
      refine wpAnyH_take (i := 8) (v := undef) (by simp; rfl) (by kernel_rfl) (by kernel_rfl) (by kernel_rfl) (fun _ _ _ h => h) (Or.inr ⟨by rfl, rfl⟩) hHeld ?_
      simp only [Act.put, List.setIfInBounds_toArray, List.set_cons_zero, List.set_cons_succ]
      refine wpAnyH_take (i := 9) (v := undef) (by simp; rfl) (by kernel_rfl) (by kernel_rfl) (by kernel_rfl) (fun _ _ _ h => h) (Or.inr ⟨by rfl, rfl⟩) hHeld ?_
      simp only [Act.put, List.setIfInBounds_toArray, List.set_cons_zero, List.set_cons_succ]
      refine wpAnyH_take (i := 10) (v := undef) (by simp; rfl) (by kernel_rfl) (by kernel_rfl) (by kernel_rfl) (fun _ _ _ h => h) (Or.inr ⟨by rfl, rfl⟩) hHeld ?_
      simp only [Act.put, List.setIfInBounds_toArray, List.set_cons_zero, List.set_cons_succ]
      refine wpAnyH_take (i := 11) (v := undef) (by simp; rfl) (by kernel_rfl) (by kernel_rfl) (by kernel_rfl) (fun _ _ _ h => h) (Or.inr ⟨by rfl, rfl⟩) hHeld ?_
      simp only [Act.put, List.setIfInBounds_toArray, List.set_cons_zero, List.set_cons_succ]
      refine wpAnyH_take (i := 12) (v := undef) (by simp; rfl) (by kernel_rfl) (by kernel_rfl) (by kernel_rfl) (fun _ _ _ h => h) (Or.inr ⟨by rfl, rfl⟩) hHeld ?_
      simp only [Act.put, List.setIfInBounds_toArray, List.set_cons_zero, List.set_cons_succ]
      refine wpAnyH_take (i := 13) (v := ?va68) (by simp; rfl) (by kernel_rfl) (by kernel_rfl) (by kernel_rfl) (fun _ _ _ h => h) (Or.inl ⟨by rfl, ?ya68⟩) hHeld ?ra68
      case ya68 => intro w hSw; clear hSw; go_simp; with_reducible rfl
      simp only [Act.put, List.setIfInBounds_toArray, List.set_cons_zero, List.set_cons_succ]
      clear hHeld
      refine wpAnyH_done (by kernel_rfl) (NoPanic.normal ?_) _
      have BU : Hid (Below wa.heap.size wa wd) := below_then BV.out D4.out
      have M6 : Hid (MIn wd q n l) := M4.out.later D4.out
      have LX6 : Hid (LAt 32 wd w.heap.size (icells x)) := LAt.later L4.out D4.out
      obtain ⟨wu, hwu⟩ : ∃ wu, wu = wd := ⟨_, rfl⟩
      subst hwu
      have HW1 : Hid (ImsWf ([] ++ l.take k)) := (M6.out.take k (by omega)).wf
      have HW2 : Hid (ImsWf (([] ++ l.take k) ++ [x])) := fun z hz => (List.mem_append.1 hz).elim (HW1.out z) (fun hz => by rw [List.mem_singleton.1 hz]; exact HXW.out)
      clear D4 M4 L4 BV HM hnl
      go_wp2_with fail
      have G9 : Hid (Below wu.heap.size wu wu.drew) := below_drawn 1
      refine wp_region_noPanic ?_
      refine wp_region_held_drew (S := fun w' => Below wu.heap.size wu w') (by kernel_rfl) (below_drawn 1) (fun hHeld => ?_)
      generalize wu.drew = wd at *
      refine wpAnyH_take (i := 1) (v := ?vaj76) (by simp; rfl) (by kernel_rfl) (by kernel_rfl) (by kernel_rfl) (fun _ _ _ h => h) (Or.inl ⟨by rfl, ?yaj76⟩) hHeld ?raj76
      case yaj76 => intro w hSw; clear hSw; go_simp; with_reducible rfl
      simp only [Act.put, List.setIfInBounds_toArray, List.set_cons_zero, List.set_cons_succ]
      refine wpAnyH_take (i := 2) (v := ?vaj77) (by simp; rfl) (by kernel_rfl) (by kernel_rfl) (by kernel_rfl) (fun _ _ _ h => h) (Or.inl ⟨by rfl, ?yaj77⟩) hHeld ?raj77
      case yaj77 => intro w hSw; clear hSw; go_simp; with_reducible rfl
      simp only [Act.put, List.setIfInBounds_toArray, List.set_cons_zero, List.set_cons_succ]
      refine wpAnyH_take (i := 3) (v := _) (by simp; rfl) (by kernel_rfl) (by kernel_rfl) (by kernel_rfl) (fun _ _ _ h => h) (yields_slice_is (vx := .slice q n c) (vl := none) (vh := some (.int .i64 (k : Int))) (vm := none) (by rfl) 26 rfl rfl rfl rfl rfl (fun w => run_to w q n c k (by omega))) hHeld ?_
      simp only [Act.put, List.setIfInBounds_toArray, List.set_cons_zero, List.set_cons_succ]
      refine wpAnyH_take (i := 5) (v := _) (by simp; rfl) (by kernel_rfl) (by kernel_rfl) (by kernel_rfl) (fun _ _ _ h => h) (yieldsIf_load_mid (by rfl) 32 (.tmp 3) rfl w.heap.size 0 rfl (icells x) _ (fun _ h => LAt.range (LAt.later LX6.out h)) Tryd.underlying32 rfl (by rw [sizeI, icells_len HXW.out.len])) hHeld ?_
      simp only [Act.put, List.setIfInBounds_toArray, List.set_cons_zero, List.set_cons_succ]
      refine wpAnyH_take (i := 8) (v := ?vaj78) (by simp; rfl) (by kernel_rfl) (by kernel_rfl) (by kernel_rfl) (fun _ _ _ h => h) (Or.inl ⟨by rfl, ?yaj78⟩) hHeld ?raj78
      case yaj78 => intro w hSw; clear hSw; go_simp; with_reducible rfl
      simp only [Act.put, List.setIfInBounds_toArray, List.set_cons_zero, List.set_cons_succ]
      refine wpAnyH_take (i := 9) (v := ?vaj79) (by simp; rfl) (by kernel_rfl) (by kernel_rfl) (by kernel_rfl) (fun _ _ _ h => h) (Or.inl ⟨by rfl, ?yaj79⟩) hHeld ?raj79
      case yaj79 => intro w hSw; clear hSw; go_simp; with_reducible rfl
      simp only [Act.put, List.setIfInBounds_toArray, List.set_cons_zero, List.set_cons_succ]
      refine wpAnyH_take (i := 10) (v := _) (by simp; rfl) (by kernel_rfl) (by kernel_rfl) (by kernel_rfl) (fun _ _ _ h => h) (yields_slice_is (vx := .slice q n c) (vl := some (.int .i64 (k : Int))) (vh := none) (vm := none) (by rfl) 26 rfl rfl rfl rfl rfl (fun w => run_from w q n c k (by omega))) hHeld ?_
      simp only [Act.put, List.setIfInBounds_toArray, List.set_cons_zero, List.set_cons_succ]
      refine wpAnyH_ready (rs := [0, 6]) (by kernel_rfl) (by simp) ?_
      refine AllReadyH.cons (by simp; rfl) (fun Kc hKc => ?_) (AllReadyH.cons (by simp; rfl) (fun Kc hKc => ?_) AllReadyH.nil)
      · refine sq_slice0 (by rfl) 26 rfl (build_im0 wd) ?_
        obtain ⟨x0, hx0⟩ : ∃ x0, x0 = wd.alloc (.cells #[] 32) := ⟨_, rfl⟩
        obtain ⟨ge, hge⟩ : ∃ ge, ge = wd.heap.size := ⟨_, rfl⟩
        have b0 : Below wd.heap.size wd x0 := by rw [hx0]; exact below_alloc wd _
        have G0 : Hid (Below wu.heap.size wu x0) := below_then G9.out b0
        have R0 : Hid (IOwn x0 wu.heap.size (.slice (some ⟨ge, 0, none⟩) 0 0) []) := by rw [hx0, hge]; exact World.ownsRow_made wd #[] 0 G9.out.size (Nat.zero_le _) rfl
        rw [← hx0, ← hge]
        refine hKc.out _ _ G0.out (fun hHeld => ?_)
        clear hx0 hge b0
        clear hKc Kc
        simp only [Act.put, List.setIfInBounds_toArray, List.set_cons_zero, List.set_cons_succ]
        refine wpAnyH_ready (rs := [4, 6]) (by kernel_rfl) (by simp) ?_
        refine AllReadyH.cons (by simp; rfl) (fun Kc hKc => ?_) (AllReadyH.cons (by simp; rfl) (fun Kc hKc => ?_) AllReadyH.nil)
        · obtain ⟨q1, m1, c1, y1, hr1, ho1, hg1, -⟩ := app_imsL (c := c) R0.out ImsWf.nil ((M6.out.take k (by omega)).later G0.out) (by simp; omega) G0.out.size
          refine sq_append (u1 := (.slice (some ⟨ge, 0, none⟩) 0 0)) (u2 := .slice q k c) (by rfl) rfl rfl rfl rfl hr1 ?_
          have R1 : Hid (IOwn y1 wu.heap.size (.slice q1 m1 c1) ([] ++ l.take k)) := ho1
          have G1 : Hid (Below wu.heap.size wu y1) := G0.out.grown hg1 G0.out.size (fun j ej => (R0.out.lt j ej).1)
          refine hKc.out _ _ G1.out (fun hHeld => ?_)
          clear hr1 ho1 hg1
          clear hKc Kc
          simp only [Act.put, List.setIfInBounds_toArray, List.set_cons_zero, List.set_cons_succ]
          refine wpAnyH_ready (rs := [6]) (by kernel_rfl) (by simp) ?_
          refine AllReadyH.cons (by simp; rfl) (fun Kc hKc => ?_) AllReadyH.nil
          refine sq_slice (u := .agg (icells x).toArray) (by rfl) 26 rfl rfl (build_im y1 x HXW.out.len) ?_
          obtain ⟨x6, hx6⟩ : ∃ x6, x6 = y1.alloc (.cells (icells x).toArray 32) := ⟨_, rfl⟩
          obtain ⟨gi, hgi⟩ : ∃ gi, gi = y1.heap.size := ⟨_, rfl⟩
          have b6 : Below y1.heap.size y1 x6 := by rw [hx6]; exact below_alloc y1 _
          have G6 : Hid (Below wu.heap.size wu x6) := below_then G1.out b6
          have m6 : MIn x6 (some ⟨gi, 0, none⟩) 1 [x] := ⟨rfl, fun y hy => by rw [List.mem_singleton.1 hy]; exact HXW.out, fun _ => ⟨gi, 0, rfl, by rw [hx6, hgi, show IC [x] = icells x by simp [IC]]; exact LAt.range (LAt.new 32 y1 (icells x))⟩⟩
          have R6 : Hid (IOwn x6 wu.heap.size (.slice q1 m1 c1) (([] ++ l.take k))) := R1.out.later b6
          have I6 : Hid (MIn x6 (some ⟨gi, 0, none⟩) 1 [x]) := m6
          rw [← hx6, ← hgi]
          refine hKc.out _ _ G6.out (fun hHeld => ?_)
          clear hx6 hgi b6 m6
          clear hKc Kc
          simp only [Act.put, List.setIfInBounds_toArray, List.set_cons_zero, List.set_cons_succ]
          refine wpAnyH_ready (rs := [7]) (by kernel_rfl) (by simp) ?_
          refine AllReadyH.cons (by simp; rfl) (fun Kc hKc => ?_) AllReadyH.nil
          obtain ⟨q2, m2, c2, y2, hr2, ho2, hg2, -⟩ := app_imsL (c := 1) R6.out HW1.out I6.out (by simp; omega) G6.out.size
          refine sq_append (u1 := (.slice q1 m1 c1)) (u2 := .slice (some ⟨gi, 0, none⟩) 1 1) (by rfl) rfl rfl rfl rfl hr2 ?_
          have R2 : Hid (IOwn y2 wu.heap.size (.slice q2 m2 c2) (([] ++ l.take k) ++ [x])) := ho2
          have G2 : Hid (Below wu.heap.size wu y2) := G6.out.grown hg2 G6.out.size (fun j ej => (R6.out.lt j ej).1)
          refine hKc.out _ _ G2.out (fun hHeld => ?_)
          clear hr2 ho2 hg2
          clear hKc Kc
          simp only [Act.put, List.setIfInBounds_toArray, List.set_cons_zero, List.set_cons_succ]
          refine wpAnyH_ready (rs := [11]) (by kernel_rfl) (by simp) ?_
          refine AllReadyH.cons (by simp; rfl) (fun Kc hKc => ?_) AllReadyH.nil
          obtain ⟨q3, m3, c3, y3, hr3, ho3, hg3, -⟩ := app_imsL (c := (c - k)) R2.out HW2.out ((M6.out.drop (k := k) (c := c) (by omega) HNC.out).later G2.out) (by simp; omega) G2.out.size
          refine sq_append (u1 := (.slice q2 m2 c2)) (u2 := .slice (dropA q k c) (n - k) (c - k)) (by rfl) rfl rfl rfl rfl hr3 ?_
          have R3 : Hid (IOwn y3 wu.heap.size (.slice q3 m3 c3) ((([] ++ l.take k) ++ [x]) ++ l.drop k)) := ho3
          have G3 : Hid (Below wu.heap.size wu y3) := G2.out.grown hg3 G2.out.size (fun j ej => (R2.out.lt j ej).1)
          refine hKc.out _ _ G3.out (fun hHeld => ?_)
          clear hr3 ho3 hg3
          clear hKc Kc
          simp only [Act.put, List.setIfInBounds_toArray, List.set_cons_zero, List.set_cons_succ]
          refine wpAnyH_take (i := 12) (v := ?vaj80) (by simp; rfl) (by kernel_rfl) (by kernel_rfl) (by kernel_rfl) (fun _ _ _ h => h) (Or.inl ⟨by rfl, ?yaj80⟩) hHeld ?raj80
          case yaj80 => intro w hSw; clear hSw; go_simp; with_reducible rfl
          simp only [Act.put, List.setIfInBounds_toArray, List.set_cons_zero, List.set_cons_succ]
          clear hHeld
          refine wpAnyH_done (by kernel_rfl) (NoPanic.normal ?_) _
          have FF : Hid (Below w.heap.size w y3) := below_then (below_then B0.out BU.out) G3.out
          have RF : Hid (_) := R3.out
          clear G3 R3
          go_wp2_with fail
          go_ret
          obtain ⟨a1, a2, a3, a4, a5, -⟩ := IOwn.in RF.out (by rw [← HWn.out]; exact HWW.out)
          rw [← HWn.out] at a3 a4 a5
          cases a3
          exact ⟨_, _, rfl, a4, a5, FF.out⟩
        · refine sq_slice (u := .agg (icells x).toArray) (by rfl) 26 rfl rfl (build_im x0 x HXW.out.len) ?_
          obtain ⟨x6, hx6⟩ : ∃ x6, x6 = x0.alloc (.cells (icells x).toArray 32) := ⟨_, rfl⟩
          obtain ⟨gi, hgi⟩ : ∃ gi, gi = x0.heap.size := ⟨_, rfl⟩
          have b6 : Below x0.heap.size x0 x6 := by rw [hx6]; exact below_alloc x0 _
          have G6 : Hid (Below wu.heap.size wu x6) := below_then G0.out b6
          have m6 : MIn x6 (some ⟨gi, 0, none⟩) 1 [x] := ⟨rfl, fun y hy => by rw [List.mem_singleton.1 hy]; exact HXW.out, fun _ => ⟨gi, 0, rfl, by rw [hx6, hgi, show IC [x] = icells x by simp [IC]]; exact LAt.range (LAt.new 32 x0 (icells x))⟩⟩
          have R6 : Hid (IOwn x6 wu.heap.size (.slice (some ⟨ge, 0, none⟩) 0 0) ([])) := R0.out.later b6
          have I6 : Hid (MIn x6 (some ⟨gi, 0, none⟩) 1 [x] ∧ ge ≠ gi) := ⟨m6, by have := (R0.out.lt ge rfl).2; omega⟩
          rw [← hx6, ← hgi]
          refine hKc.out _ _ G6.out (fun hHeld => ?_)
          clear hx6 hgi b6 m6
          clear hKc Kc
          simp only [Act.put, List.setIfInBounds_toArray, List.set_cons_zero, List.set_cons_succ]
          refine wpAnyH_ready (rs := [4]) (by kernel_rfl) (by simp) ?_
          refine AllReadyH.cons (by simp; rfl) (fun Kc hKc => ?_) AllReadyH.nil
          obtain ⟨q1, m1, c1, y1, hr1, ho1, hg1, -⟩ := app_imsL (c := c) R6.out ImsWf.nil ((M6.out.take k (by omega)).later G6.out) (by simp; omega) G6.out.size
          refine sq_append (u1 := (.slice (some ⟨ge, 0, none⟩) 0 0)) (u2 := .slice q k c) (by rfl) rfl rfl rfl rfl hr1 ?_
          have R1 : Hid (IOwn y1 wu.heap.size (.slice q1 m1 c1) ([] ++ l.take k)) := ho1
          have G1 : Hid (Below wu.heap.size wu y1) := G6.out.grown hg1 G6.out.size (fun j ej => (R6.out.lt j ej).1)
          have I1 : Hid (MIn y1 (some ⟨gi, 0, none⟩) 1 [x]) := I6.out.1.grown hg1 (fun e' => I6.out.2 (Option.some.inj e'))
          refine hKc.out _ _ G1.out (fun hHeld => ?_)
          clear hr1 ho1 hg1
          clear hKc Kc
          simp only [Act.put, List.setIfInBounds_toArray, List.set_cons_zero, List.set_cons_succ]
          refine wpAnyH_ready (rs := [7]) (by kernel_rfl) (by simp) ?_
          refine AllReadyH.cons (by simp; rfl) (fun Kc hKc => ?_) AllReadyH.nil
          obtain ⟨q2, m2, c2, y2, hr2, ho2, hg2, -⟩ := app_imsL (c := 1) R1.out HW1.out I1.out (by simp; omega) G1.out.size
          refine sq_append (u1 := (.slice q1 m1 c1)) (u2 := .slice (some ⟨gi, 0, none⟩) 1 1) (by rfl) rfl rfl rfl rfl hr2 ?_
          have R2 : Hid (IOwn y2 wu.heap.size (.slice q2 m2 c2) (([] ++ l.take k) ++ [x])) := ho2
          have G2 : Hid (Below wu.heap.size wu y2) := G1.out.grown hg2 G1.out.size (fun j ej => (R1.out.lt j ej).1)
          refine hKc.out _ _ G2.out (fun hHeld => ?_)
          clear hr2 ho2 hg2
          clear hKc Kc
          simp only [Act.put, List.setIfInBounds_toArray, List.set_cons_zero, List.set_cons_succ]
          refine wpAnyH_ready (rs := [11]) (by kernel_rfl) (by simp) ?_
          refine AllReadyH.cons (by simp; rfl) (fun Kc hKc => ?_) AllReadyH.nil
          obtain ⟨q3, m3, c3, y3, hr3, ho3, hg3, -⟩ := app_imsL (c := (c - k)) R2.out HW2.out ((M6.out.drop (k := k) (c := c) (by omega) HNC.out).later G2.out) (by simp; omega) G2.out.size
          refine sq_append (u1 := (.slice q2 m2 c2)) (u2 := .slice (dropA q k c) (n - k) (c - k)) (by rfl) rfl rfl rfl rfl hr3 ?_
          have R3 : Hid (IOwn y3 wu.heap.size (.slice q3 m3 c3) ((([] ++ l.take k) ++ [x]) ++ l.drop k)) := ho3
          have G3 : Hid (Below wu.heap.size wu y3) := G2.out.grown hg3 G2.out.size (fun j ej => (R2.out.lt j ej).1)
          refine hKc.out _ _ G3.out (fun hHeld => ?_)
          clear hr3 ho3 hg3
          clear hKc Kc
          simp only [Act.put, List.setIfInBounds_toArray, List.set_cons_zero, List.set_cons_succ]
          refine wpAnyH_take (i := 12) (v := ?vaj81) (by simp; rfl) (by kernel_rfl) (by kernel_rfl) (by kernel_rfl) (fun _ _ _ h => h) (Or.inl ⟨by rfl, ?yaj81⟩) hHeld ?raj81
          case yaj81 => intro w hSw; clear hSw; go_simp; with_reducible rfl
          simp only [Act.put, List.setIfInBounds_toArray, List.set_cons_zero, List.set_cons_succ]
          clear hHeld
          refine wpAnyH_done (by kernel_rfl) (NoPanic.normal ?_) _
          have FF : Hid (Below w.heap.size w y3) := below_then (below_then B0.out BU.out) G3.out
          have RF : Hid (_) := R3.out
          clear G3 R3
          go_wp2_with fail
          go_ret
          obtain ⟨a1, a2, a3, a4, a5, -⟩ := IOwn.in RF.out (by rw [← HWn.out]; exact HWW.out)
          rw [← HWn.out] at a3 a4 a5
          cases a3
          exact ⟨_, _, rfl, a4, a5, FF.out⟩
      · refine sq_slice (u := .agg (icells x).toArray) (by rfl) 26 rfl rfl (build_im wd x HXW.out.len) ?_
        obtain ⟨x6, hx6⟩ : ∃ x6, x6 = wd.alloc (.cells (icells x).toArray 32) := ⟨_, rfl⟩
        obtain ⟨gi, hgi⟩ : ∃ gi, gi = wd.heap.size := ⟨_, rfl⟩
        have b6 : Below wd.heap.size wd x6 := by rw [hx6]; exact below_alloc wd _
        have G6 : Hid (Below wu.heap.size wu x6) := below_then G9.out b6
        have m6 : MIn x6 (some ⟨gi, 0, none⟩) 1 [x] := ⟨rfl, fun y hy => by rw [List.mem_singleton.1 hy]; exact HXW.out, fun _ => ⟨gi, 0, rfl, by rw [hx6, hgi, show IC [x] = icells x by simp [IC]]; exact LAt.range (LAt.new 32 wd (icells x))⟩⟩
        have I6 : Hid (MIn x6 (some ⟨gi, 0, none⟩) 1 [x] ∧ gi < x6.heap.size) := ⟨m6, by rw [hx6, hgi]; simp⟩
        rw [← hx6, ← hgi]
        refine hKc.out _ _ G6.out (fun hHeld => ?_)
        clear hx6 hgi b6 m6
        clear hKc Kc
        simp only [Act.put, List.setIfInBounds_toArray, List.set_cons_zero, List.set_cons_succ]
        refine wpAnyH_ready (rs := [0]) (by kernel_rfl) (by simp) ?_
        refine AllReadyH.cons (by simp; rfl) (fun Kc hKc => ?_) AllReadyH.nil
        refine sq_slice0 (by rfl) 26 rfl (build_im0 x6) ?_
        obtain ⟨x0, hx0⟩ : ∃ x0, x0 = x6.alloc (.cells #[] 32) := ⟨_, rfl⟩
        obtain ⟨ge, hge⟩ : ∃ ge, ge = x6.heap.size := ⟨_, rfl⟩
        have b0 : Below x6.heap.size x6 x0 := by rw [hx0]; exact below_alloc x6 _
        have G0 : Hid (Below wu.heap.size wu x0) := below_then G6.out b0
        have R0 : Hid (IOwn x0 wu.heap.size (.slice (some ⟨ge, 0, none⟩) 0 0) []) := by rw [hx0, hge]; exact World.ownsRow_made x6 #[] 0 G6.out.size (Nat.zero_le _) rfl
        have I0 : Hid (MIn x0 (some ⟨gi, 0, none⟩) 1 [x] ∧ ge ≠ gi) := ⟨I6.out.1.later b0, by have := I6.out.2; omega⟩
        rw [← hx0, ← hge]
        refine hKc.out _ _ G0.out (fun hHeld => ?_)
        clear hx0 hge b0
        clear hKc Kc
        simp only [Act.put, List.setIfInBounds_toArray, List.set_cons_zero, List.set_cons_succ]
        refine wpAnyH_ready (rs := [4]) (by kernel_rfl) (by simp) ?_
        refine AllReadyH.cons (by simp; rfl) (fun Kc hKc => ?_) AllReadyH.nil
        obtain ⟨q1, m1, c1, y1, hr1, ho1, hg1, -⟩ := app_imsL (c := c) R0.out ImsWf.nil ((M6.out.take k (by omega)).later G0.out) (by simp; omega) G0.out.size
        refine sq_append (u1 := (.slice (some ⟨ge, 0, none⟩) 0 0)) (u2 := .slice q k c) (by rfl) rfl rfl rfl rfl hr1 ?_
        have R1 : Hid (IOwn y1 wu.heap.size (.slice q1 m1 c1) ([] ++ l.take k)) := ho1
        have G1 : Hid (Below wu.heap.size wu y1) := G0.out.grown hg1 G0.out.size (fun j ej => (R0.out.lt j ej).1)
        have I1 : Hid (MIn y1 (some ⟨gi, 0, none⟩) 1 [x]) := I0.out.1.grown hg1 (fun e' => I0.out.2 (Option.some.inj e'))
        refine hKc.out _ _ G1.out (fun hHeld => ?_)
        clear hr1 ho1 hg1
        clear hKc Kc
        simp only [Act.put, List.setIfInBounds_toArray, List.set_cons_zero, List.set_cons_succ]
        refine wpAnyH_ready (rs := [7]) (by kernel_rfl) (by simp) ?_
        refine AllReadyH.cons (by simp; rfl) (fun Kc hKc => ?_) AllReadyH.nil
        obtain ⟨q2, m2, c2, y2, hr2, ho2, hg2, -⟩ := app_imsL (c := 1) R1.out HW1.out I1.out (by simp; omega) G1.out.size
        refine sq_append (u1 := (.slice q1 m1 c1)) (u2 := .slice (some ⟨gi, 0, none⟩) 1 1) (by rfl) rfl rfl rfl rfl hr2 ?_
        have R2 : Hid (IOwn y2 wu.heap.size (.slice q2 m2 c2) (([] ++ l.take k) ++ [x])) := ho2
        have G2 : Hid (Below wu.heap.size wu y2) := G1.out.grown hg2 G1.out.size (fun j ej => (R1.out.lt j ej).1)
        refine hKc.out _ _ G2.out (fun hHeld => ?_)
        clear hr2 ho2 hg2
        clear hKc Kc
        simp only [Act.put, List.setIfInBounds_toArray, List.set_cons_zero, List.set_cons_succ]
        refine wpAnyH_ready (rs := [11]) (by kernel_rfl) (by simp) ?_
        refine AllReadyH.cons (by simp; rfl) (fun Kc hKc => ?_) AllReadyH.nil
        obtain ⟨q3, m3, c3, y3, hr3, ho3, hg3, -⟩ := app_imsL (c := (c - k)) R2.out HW2.out ((M6.out.drop (k := k) (c := c) (by omega) HNC.out).later G2.out) (by simp; omega) G2.out.size
        refine sq_append (u1 := (.slice q2 m2 c2)) (u2 := .slice (dropA q k c) (n - k) (c - k)) (by rfl) rfl rfl rfl rfl hr3 ?_
        have R3 : Hid (IOwn y3 wu.heap.size (.slice q3 m3 c3) ((([] ++ l.take k) ++ [x]) ++ l.drop k)) := ho3
        have G3 : Hid (Below wu.heap.size wu y3) := G2.out.grown hg3 G2.out.size (fun j ej => (R2.out.lt j ej).1)
        refine hKc.out _ _ G3.out (fun hHeld => ?_)
        clear hr3 ho3 hg3
        clear hKc Kc
        simp only [Act.put, List.setIfInBounds_toArray, List.set_cons_zero, List.set_cons_succ]
        refine wpAnyH_take (i := 12) (v := ?vaj82) (by simp; rfl) (by kernel_rfl) (by kernel_rfl) (by kernel_rfl) (fun _ _ _ h => h) (Or.inl ⟨by rfl, ?yaj82⟩) hHeld ?raj82
        case yaj82 => intro w hSw; clear hSw; go_simp; with_reducible rfl
        simp only [Act.put, List.setIfInBounds_toArray, List.set_cons_zero, List.set_cons_succ]
        clear hHeld
        refine wpAnyH_done (by kernel_rfl) (NoPanic.normal ?_) _
        have FF : Hid (Below w.heap.size w y3) := below_then (below_then B0.out BU.out) G3.out
        have RF : Hid (_) := R3.out
        clear G3 R3
        go_wp2_with fail
        go_ret
        obtain ⟨a1, a2, a3, a4, a5, -⟩ := IOwn.in RF.out (by rw [← HWn.out]; exact HWW.out)
        rw [← HWn.out] at a3 a4 a5
        cases a3
        exact ⟨_, _, rfl, a4, a5, FF.out⟩
end Go.Proofs.YtefnkjajjidfaaaDoor
namespace Go.Proofs.YtefnkjajjidfaaaDoor
open Go.RowKit


theorem nwS_flat (F : List Im) (t : TX) : nwS (t.ims.drop t.ims.length ++ F) = nwS F := by simp
theorem drop_flat (l : List TX) {k : Nat} {t : TX} (h : l[k]? = some t) : flat (l.drop k) = t.ims ++ flat (l.drop (k + 1)) := by
  obtain ⟨hk, e⟩ := List.getElem?_eq_some_iff.1 h
  rw [List.drop_eq_getElem_cons hk, e]; rfl
theorem flat_drop_le : ∀ (l : List TX) (k : Nat), (flat (l.drop k)).length ≤ (flat l).length
  | [], k => by simp [flat]
  | t :: l, 0 => Nat.le_refl _
  | t :: l, k + 1 => by
    have := flat_drop_le l k
    rw [List.drop_succ_cons, flat_cons, List.length_append]; omega
theorem nw_step {l : List Im} {j : Nat} {x : Im} (h : l[j]? = some x) (F : List Im) : nwS (l.drop j ++ F) = withS (nwS (l.drop (j + 1) ++ F)) x := by
  obtain ⟨hk, e⟩ := List.getElem?_eq_some_iff.1 h
  rw [List.drop_eq_getElem_cons hk, e]; rfl
set_option maxHeartbeats 4000000 in
set_option maxRecDepth 100000 in
theorem refNewest_any (q : Option Addr) (n c : Nat) (txs : List TX) (w : World) (h : XIn w q n txs) (hn : n ≤ 2000000) (hf : (flat txs).length ≤ 2000000) :
    Calls Tryd.prog 8 #[.slice q n c] w fun e w' => ∃ p d, e = .returned (.slice p (nwS (flat txs)).length d) ∧ MIn w' p (nwS (flat txs)).length (nwS (flat txs)) ∧ Below w.heap.size w w' := by
  have HX : Hid (XIn w q n txs) := h
  have HF : Hid ((flat txs).length ≤ 2000000) := hf
  have hlen : txs.length = n := h.len
  clear h hf
  go_enter Tryd.func8, Tryd.ntmps8
  go_wp2_with fail
  go_loopw [3, 4] (fun v i wr => ∃ k : Nat, k ≤ n ∧ i = .int .i64 ((k : Int) - 1) ∧ ∃ p m d, v = .slice p m d ∧ m ≤ 2000000 ∧ Hid (MIn wr p m (nwS (flat (txs.drop k))) ∧ m ≤ d ∧ Below w.heap.size w wr)) (fun _ i _ => ((intOf i) + 1).toNat)
  case atStart => exact ⟨n, Nat.le_refl _, rfl, none, 0, 0, rfl, by omega, by rw [← hlen, List.drop_length]; exact MIn.nil _ _, Nat.le_refl _, Below.refl _ _⟩
  case round =>
    obtain ⟨k, hk, rfl, p, m, d, rfl, hm, HI⟩ := hrel
    by_cases hlt : 0 < k
    · obtain ⟨k', rfl⟩ : ∃ k', k = k' + 1 := ⟨k - 1, by omega⟩
      obtain ⟨t, htk⟩ : ∃ t, txs[k']? = some t := ⟨_, List.getElem?_eq_getElem (by omega)⟩
      have HXr : XIn wr q n txs := HX.out.later HI.out.2.2
      obtain ⟨g, o, rfl, hcell⟩ := HXr.cells (by omega)
      obtain ⟨q2, c2, e0, e1, mi, m1, m2⟩ := hcell k' t htk
      have hDF : (flat (txs.drop k')).length ≤ 2000000 := Nat.le_trans (flat_drop_le txs k') HF.out
      have hF' : t.ims.length + (flat (txs.drop (k' + 1))).length ≤ 2000000 := by rw [drop_flat txs htk, List.length_append] at hDF; exact hDF
      have hIK : (((k' + 1 : Nat) : Int) - 1) = (k' : Int) := by omega
      have hi0 : (0 : Int) ≤ (k' : Int) := by omega
      have hi1 : (k' : Int) < (n : Int) := by omega
      have HC : Hid (∀ W, Below w.heap.size w W → W.cell? ⟨g, o + k' * 2 + 1, none⟩ = some (.slice q2 t.ims.length c2) ∧ MIn W q2 t.ims.length t.ims) := by
        intro W hW
        obtain ⟨g', o', e', hcell'⟩ := (HX.out.later hW).cells (by omega)
        obtain ⟨q3, c3, f0, f1, mi3, -, -⟩ := hcell' k' t htk
        cases e'
        have f2 := (HX.out.cells (by omega))
        obtain ⟨g4, o4, e4, hc4⟩ := f2
        cases e4
        obtain ⟨q5, c5, k0, k1, -, -, -⟩ := hc4 k' t htk
        have a1 : wr.cell? ⟨g, o + k' * 2 + 1, none⟩ = some (.slice q5 t.ims.length c5) := (HI.out.2.2.cell (p := ⟨g, o + k' * 2 + 1, none⟩) (World.block_lt_of_cell? w _ k1)).trans k1
        have a2 : W.cell? ⟨g, o + k' * 2 + 1, none⟩ = some (.slice q5 t.ims.length c5) := (hW.cell (p := ⟨g, o + k' * 2 + 1, none⟩) (World.block_lt_of_cell? w _ k1)).trans k1
        rw [e1] at a1
        rw [f1] at a2
        cases a1; cases a2
        exact ⟨f1, mi3⟩
      clear hcell e0 mi HXr m1 m2 hDF
      rw [hIK]
      go_wp2_with fail
      clear e1
      go_loopw [3, 5] (fun v i wr => ∃ j : Nat, j ≤ t.ims.length ∧ i = .int .i64 ((j : Int) - 1) ∧ ∃ p m d, v = .slice p m d ∧ m ≤ 2000000 ∧ Hid (MIn wr p m (nwS (t.ims.drop j ++ flat (txs.drop (k' + 1)))) ∧ m ≤ d ∧ Below w.heap.size w wr)) (fun _ i _ => ((intOf i) + 1).toNat)
      case atStart => exact ⟨t.ims.length, Nat.le_refl _, rfl, p, m, d, rfl, hm, by rw [nwS_flat]; exact HI.out.1, HI.out.2⟩
      case round =>
        obtain ⟨j, hj, rfl, p, m, d, rfl, hm, HJ⟩ := hrel
        clear HI
        by_cases hjl : 0 < j
        · obtain ⟨j', rfl⟩ : ∃ j', j = j' + 1 := ⟨j - 1, by omega⟩
          obtain ⟨x, hx⟩ : ∃ x, t.ims[j']? = some x := ⟨_, List.getElem?_eq_getElem (by omega)⟩
          obtain ⟨e1, mi⟩ := HC.out _ HJ.out.2.2
          have hxw := mi.wf x (List.mem_of_getElem? hx)
          obtain ⟨g2, o2, rfl, -⟩ := mi.cells (by omega)
          have L32 : Hid (_) := mi.load hx
          have hJK : (((j' + 1 : Nat) : Int) - 1) = (j' : Int) := by omega
          have hj0 : (0 : Int) ≤ (j' : Int) := by omega
          have hj1 : (j' : Int) < (t.ims.length : Int) := by omega
          clear mi
          rw [hJK]
          go_wp2_with ((with_reducible refine at_ops ?_); (refine wpList_load_is (by rfl) 32 rfl rfl L32.out ?_); simp only [Act.put, List.setIfInBounds_toArray, List.set_cons_zero, List.set_cons_succ])
          refine (with_any p m d _ x wr HJ.out.1 HJ.out.2.1 hxw (by omega)).mono ?_
          rintro e w8 ⟨p8, d8, rfl, m8, l8, b8⟩
          have hl8 : (withS (nwS (t.ims.drop (j' + 1) ++ flat (txs.drop (k' + 1)))) x).length ≤ 2000000 := by
            rw [← nw_step hx]
            refine Nat.le_trans (nwS_len _) ?_
            rw [List.length_append, List.length_drop]; omega
          rw [← nw_step hx] at m8 l8 hl8
          have F8 : Hid (_) := (⟨m8, l8, below_then HJ.out.2.2 b8⟩ : MIn w8 p8 (nwS (t.ims.drop j' ++ flat (txs.drop (k' + 1)))).length (nwS (t.ims.drop j' ++ flat (txs.drop (k' + 1)))) ∧ (nwS (t.ims.drop j' ++ flat (txs.drop (k' + 1)))).length ≤ d8 ∧ Below w.heap.size w w8)
          rw [← nw_step hx]
          generalize (nwS (t.ims.drop j' ++ flat (txs.drop (k' + 1)))).length = m8' at *
          clear m8 l8 b8 L32 e1 HJ
          go_wp2_with fail
          go_roundw
          case rel => exact ⟨j', by omega, by go_num, p8, m8', d8, rfl, hl8, F8.out⟩
          case measure => simp [intOf]
        · obtain rfl : j = 0 := by omega
          have hnl : ¬ (0 : Int) ≤ ((0 : Nat) : Int) - 1 := by omega
          rw [List.drop_zero, ← drop_flat txs htk] at HJ
          go_wp2_with fail
          go_roundw
          case rel => exact ⟨k', by omega, by go_num, p, m, d, rfl, hm, HJ.out⟩
          case measure => simp [intOf]
    · obtain rfl : k = 0 := by omega
      have hnl : ¬ (0 : Int) ≤ ((0 : Nat) : Int) - 1 := by omega
      have hm2 := HI.out.1.len
      rw [List.drop_zero] at HI hm2
      subst hm2
      go_wp2_with fail
      go_ret
      exact ⟨p, ⟨d, rfl⟩, HI.out.1, HI.out.2.2⟩
end Go.Proofs.YtefnkjajjidfaaaDoor
namespace Go.Proofs.YtefnkjajjidfaaaDoor
open Go.RowKit


def im5 : Im := ⟨-5, zs 32⟩
theorem im5_wf : im5.Wf := ⟨by unfold i64 im5; constructor <;> decide, zs_len 32, zs_bytes 32⟩
/-- transactions that can be read, one image more behind those of each -/
structure XIn5 (w : World) (p : Option Addr) (n : Nat) (l : List TX) : Prop where
  len : l.length = n
  cells : 0 < n → ∃ b o, p = some ⟨b, o, none⟩ ∧ ∀ (k : Nat) (t : TX), l[k]? = some t → ∃ q c, w.cell? ⟨b, o + k * 2, none⟩ = some (.int .u64 t.p) ∧ w.cell? ⟨b, o + k * 2 + 1, none⟩ = some (.slice q t.ims.length c) ∧ MIn w q (t.ims.length + 1) (t.ims ++ [im5]) ∧ t.ims.length + 1 ≤ c ∧ c ≤ maxLen
theorem XIn5.later {w w' : World} {p : Option Addr} {n : Nat} {l : List TX} (h : XIn5 w p n l) (hb : Below w.heap.size w w') : XIn5 w' p n l := by
  refine ⟨h.len, fun h0 => ?_⟩
  obtain ⟨b, o, e, hr⟩ := h.cells h0
  refine ⟨b, o, e, fun k t hk => ?_⟩
  obtain ⟨q, c, h1, h2, h3, h4⟩ := hr k t hk
  have hl := World.block_lt_of_cell? w _ h1
  exact ⟨q, c, (World.cell?_of_block (hb.block b hl)).trans h1, (World.cell?_of_block (hb.block b hl)).trans h2, h3.later hb, h4⟩
theorem XIn5.xin {w : World} {p : Option Addr} {n : Nat} {l : List TX} (h : XIn5 w p n l) : XIn w p n l := by
  refine ⟨h.len, fun h0 => ?_⟩
  obtain ⟨b, o, e, hr⟩ := h.cells h0
  refine ⟨b, o, e, fun k t hk => ?_⟩
  obtain ⟨q, c, h1, h2, h3, h4, h5⟩ := hr k t hk
  have := h3.take t.ims.length (by omega)
  rw [List.take_append_of_le_length (Nat.le_refl _), List.take_length] at this
  exact ⟨q, c, h1, h2, this, by omega, h5⟩
/-- such ones that are ours -/
structure XSp (w : World) (B : Nat) (v : Value) (l : List TX) (vs : List Value) : Prop where
  len : vs.length = l.length
  row : w.ownsRow B 33 2 v l.length (TC ((l.map (·.p)).zip vs))
  each : ∀ (k : Nat) (t : TX) (u : Value), l[k]? = some t → vs[k]? = some u → ∃ q m c, u = .slice q t.ims.length c ∧ IOwn w B (.slice q m c) (t.ims ++ [im5])
  wf : TxsWf l
theorem XSp.nil (w : World) (B : Nat) : XSp w B (.slice none 0 0) [] [] := ⟨rfl, World.ownsRow_nil _ _ _ _, fun k t u h => by simp at h, TxsWf.nil⟩
theorem XSp.later {w w' : World} {B : Nat} {v : Value} {l : List TX} {vs : List Value} (h : XSp w B v l vs) (hb : Below w.heap.size w w') : XSp w' B v l vs :=
  ⟨h.len, h.row.kept (grown_of_below hb) (by cases hh : v.ownBlock <;> simp), fun k t u a b => by
    obtain ⟨q, m, c, e, o⟩ := h.each k t u a b
    exact ⟨q, m, c, e, o.later hb⟩, h.wf⟩
theorem ims5_wf {l : List Im} (h : ImsWf l) : ImsWf (l ++ [im5]) := fun x hx => (List.mem_append.1 hx).elim (h x) fun hx => by rw [List.mem_singleton.1 hx]; exact im5_wf
theorem XSp.in {w : World} {B : Nat} {v : Value} {l : List TX} {vs : List Value} (h : XSp w B v l vs) : ∃ p c, v = .slice p l.length c ∧ XIn5 w p l.length l := by
  rcases h.row.2 with ⟨ev, e2⟩ | ⟨g, cap, cur, ev, _, hg, h1, h2, h3, h4⟩
  · refine ⟨none, 0, by rw [ev, e2], ?_⟩
    exact ⟨rfl, fun h0 => by omega⟩
  · refine ⟨_, cap, ev, ⟨rfl, fun _ => ⟨g, 0, rfl, fun k t hk => ?_⟩⟩⟩
    have hkl := (List.getElem?_eq_some_iff.1 hk).1
    have hkv : k < vs.length := by rw [h.len]; exact hkl
    have hz : ((l.map (·.p)).zip vs)[k]? = some (t.p, vs[k]) := by
      rw [List.getElem?_zip_eq_some]
      exact ⟨by rw [List.getElem?_map, hk]; rfl, by rw [List.getElem?_eq_getElem hkv]⟩
    have hc : ∀ j, j < 2 → w.cell? ⟨g, 0 + k * 2 + j, none⟩ = [Value.int .u64 t.p, vs[k]][j]? := fun j hj => by
      have a := TC_at _ hz j hj
      rw [← h4, List.getElem?_take, if_pos (by omega)] at a
      rw [cell_of_row w g _ cur 33 (0, 0) hg, show 0 + k * 2 + j = 2 * k + j by omega, ← a]
      simp
    obtain ⟨q, m, c, e1, own⟩ := h.each k t vs[k] hk (by rw [List.getElem?_eq_getElem hkv])
    obtain ⟨q', c', e2, m1, m2, m3⟩ := IOwn.in own (ims5_wf (h.wf t (List.mem_of_getElem? hk)).ims)
    cases e2
    rw [List.length_append, List.length_singleton] at m1 m2
    refine ⟨q, c, hc 0 (by omega), ?_, m1, m2, m3⟩
    rw [hc 1 (by omega)]
    show some vs[k] = _
    rw [e1]
/-- one more -/
theorem XSp.app {V : World} {B : Nat} {v : Value} {txs : List TX} {vs : List Value} (h : XSp V B v txs vs) (hB : B ≤ V.heap.size) (hl : txs.length ≤ 3000000) {p : Int} {q : Option Addr} {m c : Nat} {ims : List Im} (hp : u64 p) (hw : ImsWf ims) (him : IOwn V B (.slice q m c) (ims ++ [im5])) :
    ∃ q' m' c' V4, (Builtin.append_ #[24, 24] 24 #[v, .slice (some ⟨V.heap.size, 0, none⟩) 1 1]).run Tryd.prog (V.alloc (.cells #[.int .u64 p, .slice q ims.length c] 33)) = .ok (.slice q' m' c') V4 ∧ XSp V4 B (.slice q' m' c') (txs ++ [⟨p, ims⟩]) (vs ++ [.slice q ims.length c]) ∧ Below B V V4 := by
  obtain ⟨i0, hi0, hz0, hz1, hz2⟩ := info_parts infoT
  have h65 : (4000000 : Nat) ≤ maxLen := by decide
  obtain ⟨v', V4, hrun, hown', hgrow, -⟩ := run_append_own (P := Tryd.prog) (V.alloc (.cells #[.int .u64 p, .slice q ims.length c] 33)) B 24 24 33 i0 _ 2 32 Tryd.underlying24 hi0 hz0 hz1 hz2 rfl (by decide) v txs.length _ (h.row.alloc _) ⟨V.heap.size, 0, none⟩ 1 1 [.int .u64 p, .slice q ims.length c] rfl (fun j u hu => by
    rw [Addr.add_mid, Nat.zero_add]; exact (LAt.cell (LAt.new 33 V [.int .u64 p, .slice q ims.length c]) j).trans hu) (fun u hu => by
    simp only [List.mem_cons, List.not_mem_nil, or_false] at hu
    rcases hu with rfl | rfl <;> rfl) (by omega) (by omega) (by simp; omega)
  obtain ⟨g', c', rfl⟩ := ownsRow_succ hown'
  refine ⟨_, _, c', V4, hrun, ⟨by rw [List.length_append, List.length_append, h.len]; rfl, ?_, fun j y u a b => ?_, h.wf.snoc ⟨hp, hw⟩⟩, ?_⟩
  · rw [List.map_append, List.zip_append (by rw [List.length_map, h.len]), List.length_append]
    show World.ownsRow _ _ _ _ _ _ (TC ((txs.map (·.p)).zip vs ++ [(p, .slice q ims.length c)]))
    rw [TC_snoc]
    exact hown'
  · by_cases cj : j < txs.length
    · rw [List.getElem?_append_left cj] at a
      rw [List.getElem?_append_left (by rw [h.len]; exact cj)] at b
      obtain ⟨q1, m1, c1, e1, o1⟩ := h.each j y u a b
      exact ⟨q1, m1, c1, e1, (o1.alloc _).kept hgrow (own_ne o1 h.row (by decide))⟩
    · have hj : j = txs.length := by
        have := (List.getElem?_eq_some_iff.1 a).1
        simp only [List.length_append, List.length_singleton] at this
        omega
      subst hj
      rw [List.getElem?_append_right (Nat.le_refl _), Nat.sub_self] at a
      rw [← h.len, List.getElem?_append_right (Nat.le_refl _), Nat.sub_self] at b
      cases a; cases b
      exact ⟨q, m, c, rfl, (him.alloc _).kept hgrow (own_ne him h.row (by decide))⟩
  · exact ((Below.refl B V).alloc hB _).grown hgrow (by simp; omega) fun j ej => (h.row.lt j ej).1
/-- the first of a row of ours -/
theorem IOwn.pre {W : World} {B g n c : Nat} {l : List Im} (h : IOwn W B (.slice (some ⟨g, 0, none⟩) n c) l) (hw : ImsWf l) (k : Nat) (hk : k ≤ l.length) : IOwn W B (.slice (some ⟨g, 0, none⟩) k c) (l.take k) := by
  have hlk : (l.take k).length = k := by rw [List.length_take]; omega
  have hwk : ImsWf (l.take k) := fun x hx => hw x (List.mem_of_mem_take hx)
  rcases h.2 with ⟨e, _⟩ | ⟨g', cap, cur, e, h0, hg, h1, h2, h3, h4⟩
  · cases e
  · cases e
    refine ⟨by rw [IC_len hwk], .inr ⟨g, c, cur, by rw [hlk], h0, hg, by omega, h2, h3, ?_⟩⟩
    rw [hlk]
    have e2 : IC l = IC (l.take k) ++ IC (l.drop k) := by rw [← IC_append, List.take_append_drop]
    have el : (IC (l.take k)).length = k * 33 := by rw [IC_len hwk, hlk]
    have : cur.toList.take (k * 33) = (cur.toList.take (l.length * 33)).take (k * 33) := by rw [List.take_take, Nat.min_eq_left (Nat.mul_le_mul_right _ hk)]
    rw [this, h4, e2, ← el, List.take_left]
/-- one image written over -/
theorem IOwn.put {W : World} {B g n c : Nat} {l : List Im} (h : IOwn W B (.slice (some ⟨g, 0, none⟩) n c) l) (hw : ImsWf l) (i : Im) (hi : i.Wf) (k : Nat) (hk : k < l.length) :
    ∃ W', (Instr.storeAt 32 (.pointer (some ⟨g, k * 33, none⟩)) (.agg (icells i).toArray)).run Tryd.prog W = .ok () W' ∧ IOwn W' B (.slice (some ⟨g, 0, none⟩) n c) (l.take k ++ [i] ++ l.drop (k + 1)) ∧ W.grownBy W' (some g) := by
  obtain ⟨i0, hi0, hz0, hz1, hz2⟩ := info_parts infoI
  have hwt : ImsWf (l.take k) := fun x hx => hw x (List.mem_of_mem_take hx)
  have hwd : ImsWf (l.drop (k + 1)) := fun x hx => hw x (List.mem_of_mem_drop hx)
  have hll : (l.take k ++ [i] ++ l.drop (k + 1)).length = l.length := by simp; omega
  rcases h.2 with ⟨e, _⟩ | ⟨g', cap, cur, e, h0, hg, h1, h2, h3, h4⟩
  · cases e
  · cases e
    have hsz : cur.size = c * 33 := h3
    have hst := run_storeCells_at Tryd.prog g (k * 33) 32 (icells i) 0 cur W hg (by rw [icells_len hi.len]; omega) (icells_ones i)
    rw [Nat.add_zero, icells_len hi.len] at hst
    have hr : (Instr.storeAt 32 (.pointer (some ⟨g, k * 33, none⟩)) (.agg (icells i).toArray)).run Tryd.prog W = .ok () (W.setRow g (cur.toList.take (k * 33) ++ icells i ++ cur.toList.drop (k * 33 + 33)).toArray) := by
      simp [Instr.storeAt, Instr.sureAddr, storeVar, sizeOf, typeInfo, hi0, hz1, Value.cells, icells_len hi.len, hst]
    refine ⟨_, hr, ⟨?_, .inr ⟨g, c, _, by rw [hll], h0, setRow_heap W g cur _ 32 _ hg, by rw [hll]; exact h1, h2, ?_, ?_⟩⟩, ⟨rfl, rfl, rfl, by simp, fun k _ hk => setRow_other W g k _ (fun e => hk (by simp [e]))⟩⟩
    · rw [hll, IC_len, hll]
      intro x hx
      rcases List.mem_append.1 hx with hx | hx
      · rcases List.mem_append.1 hx with hx | hx
        · exact hwt x hx
        · rw [List.mem_singleton.1 hx]; exact hi
      · exact hwd x hx
    · simp only [List.size_toArray, List.length_append, List.length_take, List.length_drop, Array.length_toList, icells_len hi.len]
      omega
    · have ec : cur.toList = IC l ++ cur.toList.drop (l.length * 33) := by rw [← h4, List.take_append_drop]
      have e2 : IC l = IC (l.take k) ++ (icells l[k] ++ IC (l.drop (k + 1))) := by
        have e0 : l = l.take k ++ ([l[k]] ++ l.drop (k + 1)) := by
          rw [List.singleton_append, ← List.drop_eq_getElem_cons hk, List.take_append_drop]
        have e1 : IC l = IC (l.take k ++ ([l[k]] ++ l.drop (k + 1))) := congrArg IC e0
        rw [e1, IC_append, IC_append, show IC [l[k]] = icells l[k] by simp [IC]]
      have el : (IC (l.take k)).length = k * 33 := by rw [IC_len hwt, List.length_take, Nat.min_eq_left (by omega)]
      have ex : (icells l[k]).length = 33 := icells_len (hw _ (List.getElem_mem hk)).len
      have t1 : cur.toList.take (k * 33) = IC (l.take k) := by
        have e5 : cur.toList = IC (l.take k) ++ ((icells l[k] ++ IC (l.drop (k + 1))) ++ cur.toList.drop (l.length * 33)) := by rw [← List.append_assoc, ← e2]; exact ec
        rw [← el, e5, List.take_left]
      have t2 : cur.toList.drop (k * 33 + 33) = IC (l.drop (k + 1)) ++ cur.toList.drop (l.length * 33) := by
        have e5 : cur.toList = (IC (l.take k) ++ icells l[k]) ++ (IC (l.drop (k + 1)) ++ cur.toList.drop (l.length * 33)) := by
          rw [← List.append_assoc, List.append_assoc (IC (l.take k)), ← e2]; exact ec
        generalize cur.toList.drop (l.length * 33) = rest at *
        rw [e5, show k * 33 + 33 = (IC (l.take k) ++ icells l[k]).length by rw [List.length_append, el, ex], List.drop_left]
      have e3 : IC (l.take k ++ [i] ++ l.drop (k + 1)) = IC (l.take k) ++ icells i ++ IC (l.drop (k + 1)) := by rw [IC_append, IC_append]; simp [IC]
      have e4 : (IC (l.take k) ++ icells i ++ IC (l.drop (k + 1))).length = l.length * 33 := by
        have hd : (l.drop (k + 1)).length = l.length - (k + 1) := List.length_drop
        rw [List.length_append, List.length_append, el, icells_len hi.len, IC_len hwd, hd]; omega
      rw [hll, t1, t2, e3]
      show List.take _ (IC (l.take k) ++ icells i ++ (IC (l.drop (k + 1)) ++ _)) = _
      rw [← List.append_assoc, ← e4, List.take_left]
/-- one image appended, that has been laid just before -/
theorem app_one {W : World} {B : Nat} {v : Value} {l : List Im} {i : Im} (h : IOwn W B v l) (hi : i.Wf) (hm : l.length ≤ 3000000) (hB : B ≤ W.heap.size) :
    ∃ q' m' c' W', (Builtin.append_ #[26, 26] 26 #[v, .slice (some ⟨W.heap.size, 0, none⟩) 1 1]).run Tryd.prog (W.alloc (.cells (icells i).toArray 32)) = .ok (.slice q' m' c') W' ∧ IOwn W' B (.slice q' m' c') (l ++ [i]) ∧
      ((∃ g n c, v = .slice (some ⟨g, 0, none⟩) n c ∧ Value.slice q' m' c' = .slice (some ⟨g, 0, none⟩) (n + 1) c ∧ (W.alloc (.cells (icells i).toArray 32)).grownBy W' (some g)) ∨ ((Value.slice q' m' c').ownBlock = some (W.heap.size + 1) ∧ Below W.heap.size W W')) := by
  obtain ⟨i0, hi0, hz0, hz1, hz2⟩ := info_parts infoI
  have h65 : (4000000 : Nat) ≤ maxLen := by decide
  have hn : (icells i).length = 1 * 33 := icells_len hi.len
  have hnew : ∀ j u, (icells i)[j]? = some u → (W.alloc (.cells (icells i).toArray 32)).cell? ((⟨W.heap.size, 0, none⟩ : Addr).add j) = some u := fun j u hu => by
    rw [Addr.add_mid, Nat.zero_add, LAt.cell (LAt.new 32 W (icells i)) j]; exact hu
  have hsz : (W.alloc (.cells (icells i).toArray 32)).heap.size = W.heap.size + 1 := by simp
  have hIC : IC (l ++ [i]) = IC l ++ icells i := IC_snoc l i
  have hlen : (l ++ [i]).length = l.length + 1 := by simp
  obtain ⟨v', W', hrun, hown', hgrow, -, -⟩ := run_append_own_at (P := Tryd.prog) (W.alloc (.cells (icells i).toArray 32)) B 26 26 32 i0 _ 33 40 Tryd.underlying26 hi0 hz0 hz1 hz2 rfl (by decide) v l.length (IC l) (h.alloc _) ⟨W.heap.size, 0, none⟩ 1 1 (icells i) hn hnew (icells_ones i) (by omega) (by omega) (by omega)
  have bel : ∀ o, Below W.heap.size W ((W.alloc (.cells (icells i).toArray 32)).drew.alloc o) := fun o => by
    have b1 := below_alloc W (.cells (icells i).toArray 32)
    have b2 : Below (W.alloc (.cells (icells i).toArray 32)).heap.size (W.alloc (.cells (icells i).toArray 32)) (W.alloc (.cells (icells i).toArray 32)).drew := below_drawn 1
    have b3 := below_alloc (W.alloc (.cells (icells i).toArray 32)).drew o
    exact below_then (below_then b1 b2) b3
  have hIO : IOwn W' B v' (l ++ [i]) := by rw [IOwn, hlen, hIC]; exact hown'
  rcases h.2 with ⟨rfl, e0⟩ | ⟨g, cap, cur, rfl, hb, hg, h1, h2, h3, h4⟩
  · have hr := run_append_nil (P := Tryd.prog) (W.alloc (.cells (icells i).toArray 32)) 26 26 32 i0 _ Tryd.underlying26 hi0 hz0 ⟨W.heap.size, 0, none⟩ 1 1 (icells i) (by rw [hz1]; exact hn) hnew (by omega) (by omega) (by rw [hz2]; omega)
    rw [hrun] at hr
    injection hr with e1 e2
    subst e1
    refine ⟨_, _, _, W', hrun, hIO, .inr ⟨by simp [Value.ownBlock], ?_⟩⟩
    rw [e2]; exact bel _
  · by_cases room : l.length + 1 ≤ cap
    · obtain ⟨W2, hr, ho2, hg2⟩ := run_append_fits (P := Tryd.prog) (W.alloc (.cells (icells i).toArray 32)) B 26 26 32 i0 33 Tryd.underlying26 hi0 hz1 g l.length cap (IC l) (h.alloc _) ⟨W.heap.size, 0, none⟩ 1 1 (icells i) hn hnew (icells_ones i) room
      rw [hrun] at hr
      injection hr with e1 e2
      subst e1; subst e2
      exact ⟨_, _, _, W', hrun, hIO, .inl ⟨g, _, cap, rfl, rfl, hg2⟩⟩
    · have holds : ∀ j u, (IC l)[j]? = some u → (W.alloc (.cells (icells i).toArray 32)).cell? ((⟨g, 0, none⟩ : Addr).add j) = some u := (h.alloc _).cells (g := g) rfl
      have hr := run_append_grow (P := Tryd.prog) (W.alloc (.cells (icells i).toArray 32)) 26 26 32 i0 _ Tryd.underlying26 hi0 hz0 ⟨g, 0, none⟩ l.length cap (IC l) (by rw [hz1]; exact h.1) holds ⟨W.heap.size, 0, none⟩ 1 1 (icells i) (by rw [hz1]; exact hn) hnew (by omega) (by omega) (growslice_fits (by omega) (by rw [hz2]; omega))
      rw [hrun] at hr
      injection hr with e1 e2
      subst e1
      refine ⟨_, _, _, W', hrun, hIO, .inr ⟨by simp [Value.ownBlock], ?_⟩⟩
      rw [e2]; exact bel _
/-- some of nothing appended -/
theorem app_zeros {W : World} {B : Nat} {v : Value} {l : List Im} (h : IOwn W B v l) (hm : l.length ≤ 3000000) (kz : Nat) (hk0 : 0 < kz) (hk1 : kz ≤ 100) : ∃ v' W', (Builtin.append_ #[26, 3] 26 #[v, .int .i64 (kz : Int)]).run Tryd.prog W = .ok v' W' ∧ W.grownBy W' v.ownBlock := by
  obtain ⟨i0, hi0, hz0, hz1, hz2⟩ := info_parts infoI
  have hfr : ∀ o, W.grownBy (W.drew.alloc o) v.ownBlock := fun o => by
    have b2 : Below W.heap.size W W.drew := below_drawn 1
    have g := grown_of_below (below_then b2 (below_alloc W.drew o))
    exact ⟨g.os, g.tape, g.output, g.size, fun k hk _ => g.block k hk (by simp)⟩
  rcases h.2 with ⟨rfl, e0⟩ | ⟨g, cap, cur, rfl, hb, hg, h1, h2, h3, h4⟩
  · have hr := Lib.run_append_nil_zeros (P := Tryd.prog) W 26 3 26 32 i0 _ .i64 .i64 Tryd.underlying26 Tryd.underlying3 hi0 hz0 kz hk0 (by omega) (by omega) (by rw [hz2]; omega)
    exact ⟨_, _, hr, hfr _⟩
  · by_cases room : l.length + kz ≤ cap
    · have hzl : (Builtin.zeroCells (icells im0).toArray kz).toList.length = kz * 33 := by simp [Builtin.zeroCells, icells_len (show im0.v.length = 32 from zs_len 32)]
      have hzo : ∀ u ∈ (Builtin.zeroCells (icells im0).toArray kz).toList, u.oneCell' = true := by
        intro u hu
        simp only [Builtin.zeroCells, Array.toList_map, List.mem_map] at hu
        obtain ⟨j, -, rfl⟩ := hu
        have hj : j % (icells im0).toArray.size < (icells im0).toArray.size := Nat.mod_lt _ (by simp [icells])
        rw [getElem!_pos (icells im0).toArray _ hj]
        exact icells_ones im0 _ (by rw [List.getElem_toArray]; exact List.getElem_mem _)
      have hst := run_storeCells_at Tryd.prog g (l.length * 33) 32 (Builtin.zeroCells (icells im0).toArray kz).toList 0 cur W hg (by rw [hzl]; omega) hzo
      have hgz : ∀ cs, W.grownBy (W.setRow g cs) (some g) := fun cs => ⟨rfl, rfl, rfl, by simp, fun k _ hk => setRow_other W g k _ (fun e => hk (by simp [e]))⟩
      have hgz' := hgz (List.take (l.length * 33 + 0) cur.toList ++ (Builtin.zeroCells (icells im0).toArray kz).toList ++ List.drop (l.length * 33 + 0 + (Builtin.zeroCells (icells im0).toArray kz).toList.length) cur.toList).toArray
      generalize W.setRow g (List.take (l.length * 33 + 0) cur.toList ++ (Builtin.zeroCells (icells im0).toArray kz).toList ++ List.drop (l.length * 33 + 0 + (Builtin.zeroCells (icells im0).toArray kz).toList.length) cur.toList).toArray = Wz at hst hgz'
      have hw : IntKind.i64.wrap (kz : Int) = kz := by rw [IntKind.wrap_i64]; omega
      have hneg : ¬ ((kz : Int) < 0) := by omega
      have h48i : ¬ (281474976710656 < (kz : Int) * 40) := by omega
      have hr : (Builtin.append_ #[26, 3] 26 #[.slice (some ⟨g, 0, none⟩) l.length cap, .int .i64 (kz : Int)]).run Tryd.prog W = .ok (.slice (some ⟨g, 0, none⟩) (l.length + kz) cap) Wz := by
        simp [Builtin.append_, run_underlying Tryd.underlying26, run_underlying Tryd.underlying3, sizeOf, typeInfo, zeroValue, hi0, hz0, hz1, hz2, asInt, asIntOf, hw, hneg, h48i, room, Value.cells, Addr.add_mid, hst]
        omega
      exact ⟨_, Wz, hr, hgz'⟩
    · have holds : ∀ j u, (IC l)[j]? = some u → W.drew.cell? ((⟨g, 0, none⟩ : Addr).add j) = some u := h.cells (g := g) rfl
      have hf := run_firstCells_some (P := Tryd.prog) W.drew i0.size l.length ⟨g, 0, none⟩ l.length cap (IC l) (by rw [hz1]; exact h.1) holds
      have hr := Lib.run_append_grow_zeros (P := Tryd.prog) W 26 3 26 32 i0 _ .i64 .i64 Tryd.underlying26 Tryd.underlying3 hi0 hz0 (some ⟨g, 0, none⟩) l.length cap (IC l) hf kz hk0 (by omega) (by omega) (by omega) (by rw [hz2]; omega) (growslice_fits (by omega) (by rw [hz2]; omega))
      exact ⟨_, _, hr, hfr _⟩
end Go.Proofs.YtefnkjajjidfaaaDoor
namespace Go.Proofs.YtefnkjajjidfaaaDoor
open Go.RowKit


section
variable {P : Program} {ops : Array Oper} {o : Oper} {rest : List Oper} {a : Act} {w w' : World} {Q : Exit → Act → World → Prop}
theorem wpList_appendz_is (hgd : Region.wanted o (yielded ops a.tmps) = true) {s x : Operand} {t tn ty : TypeId} (ho : o.op = .call { callee := .builtin .append, args := #[s, x], argTypes := #[t, tn] }) (hty : o.type = ty) {u1 u2 v : Value} (hs : a.eval s = u1) (hx : a.eval x = u2) (hrun : (Builtin.append_ #[t, tn] ty #[u1, u2]).run P w = .ok v w') (h : wpList P ops Q rest (a.put o.dst v) w') : wpList P ops Q (o :: rest) a w :=
  wpList_val hgd (by subst hty; simp [execOp, ho, resolve, invoke, builtin, hs, hx, hrun, Result.andThen]) h
end
theorem build5 (w : World) : (Instr.build 32 #[(0, .int .i64 (-5))]).run Tryd.prog w = .ok (.agg (icells im5).toArray) w := buildIb w (-5)
theorem run_to1 (w : World) (q : Option Addr) (n c k : Nat) (hk : k + 1 ≤ c) : (Instr.sliceAt 26 (.slice q n c) none (some (.int .i64 ((k : Int) + 1))) none).run Tryd.prog w = .ok (.slice q (k + 1) c) w := by
  have := run_to w q n c (k + 1) hk
  rw [Int.natCast_add] at this
  exact this
/-- both answers, the first one ours to write into -/
structure AB (w2 W : World) (va vb : Value) (N : Nat) (la F : List Im) : Prop where
  len : la.length = N
  wf : ImsWf la
  a : IOwn W w2.heap.size va la
  b : IOwn W w2.heap.size vb F
  low : Below w2.heap.size w2 W
  ne : ∀ g, va.ownBlock = some g → vb.ownBlock ≠ some g
theorem AB.later {w2 W W' : World} {va vb : Value} {N : Nat} {la F : List Im} (h : AB w2 W va vb N la F) (hb : Below W.heap.size W W') : AB w2 W' va vb N la F :=
  ⟨h.len, h.wf, h.a.later hb, h.b.later hb, below_then h.low hb, h.ne⟩
theorem ne_row {u v : Value} {r : Option Nat} (h : ∀ g, u.ownBlock = some g → v.ownBlock ≠ some g) (e : u.ownBlock = r) : v.ownBlock = none ∨ v.ownBlock ≠ r := by
  cases r with
  | none => cases hv : v.ownBlock <;> simp
  | some g => exact .inr (h g e)
theorem AB.put {w2 W : World} {g n c : Nat} {vb : Value} {N : Nat} {la F : List Im} (h : AB w2 W (.slice (some ⟨g, 0, none⟩) n c) vb N la F) (i : Im) (hi : i.Wf) (k : Nat) (hk : k < N) :
    ∃ W' la', (Instr.storeAt 32 (.pointer (some ⟨g, k * 33, none⟩)) (.agg (icells i).toArray)).run Tryd.prog W = .ok () W' ∧ AB w2 W' (.slice (some ⟨g, 0, none⟩) n c) vb N la' F := by
  obtain ⟨W', hr, ho, hg⟩ := h.a.put h.wf i hi k (by rw [h.len]; exact hk)
  refine ⟨W', _, hr, ?_, ?_, ho, h.b.kept hg (ne_row h.ne rfl), h.low.grown hg h.low.size (fun j ej => (h.a.lt j ej).1), h.ne⟩
  · have := h.len
    simp only [List.length_append, List.length_take, List.length_singleton, List.length_drop]; omega
  · intro x hx
    rcases List.mem_append.1 hx with hx | hx
    · rcases List.mem_append.1 hx with hx | hx
      · exact h.wf x (List.mem_of_mem_take hx)
      · rw [List.mem_singleton.1 hx]; exact hi
    · exact h.wf x (List.mem_of_mem_drop hx)
/-- the first answer grown by k -/
structure ABX (w2 W : World) (va vb vx : Value) (N k : Nat) (lx F : List Im) : Prop where
  len : lx.length = N + k
  wf : ImsWf lx
  x : IOwn W w2.heap.size vx lx
  b : IOwn W w2.heap.size vb F
  low : Below w2.heap.size w2 W
  ne : ∀ g, vx.ownBlock = some g → vb.ownBlock ≠ some g
  nea : ∀ g, va.ownBlock = some g → vb.ownBlock ≠ some g
  at0 : (∃ g n m c, va = .slice (some ⟨g, 0, none⟩) n c ∧ n = N ∧ vx = .slice (some ⟨g, 0, none⟩) m c) ∨ ∃ la : List Im, la.length = N ∧ IOwn W w2.heap.size va la ∧ (va.ownBlock = none ∨ va.ownBlock ≠ vx.ownBlock)
theorem AB.grow {w2 W : World} {va vb : Value} {N : Nat} {la F : List Im} (h : AB w2 W va vb N la F) : ABX w2 W va vb va N 0 la F := by
  refine ⟨h.len, h.wf, h.a, h.b, h.low, h.ne, h.ne, ?_⟩
  rcases h.a.2 with ⟨e, _⟩ | ⟨g, cap, cur, e, _⟩
  · exact .inr ⟨la, h.len, h.a, .inl (by rw [e]; rfl)⟩
  · exact .inl ⟨g, _, _, cap, e, h.len, e⟩
theorem ABX.fin {w2 W : World} {va vb vx : Value} {N k : Nat} {lx F : List Im} (h : ABX w2 W va vb vx N k lx F) : ∃ la : List Im, la.length = N ∧ IOwn W w2.heap.size va la := by
  rcases h.at0 with ⟨g, n, m, c, rfl, rfl, rfl⟩ | ⟨la, h1, h2, _⟩
  · refine ⟨lx.take n, by rw [List.length_take, h.len]; omega, h.x.pre h.wf n (by rw [h.len]; omega)⟩
  · exact ⟨la, h1, h2⟩
theorem ABX.step {w2 W : World} {va vb vx : Value} {N k : Nat} {lx F : List Im} (h : ABX w2 W va vb vx N k lx F) (i : Im) (hi : i.Wf) (hN : N + k ≤ 3000000) :
    ∃ q m c W', (Builtin.append_ #[26, 26] 26 #[vx, .slice (some ⟨W.heap.size, 0, none⟩) 1 1]).run Tryd.prog (W.alloc (.cells (icells i).toArray 32)) = .ok (.slice q m c) W' ∧ ABX w2 W' va vb (.slice q m c) N (k + 1) (lx ++ [i]) F := by
  obtain ⟨q, m, c, W', hr, ho, hat⟩ := app_one h.x hi (by rw [h.len]; exact hN) h.low.size
  have hl : (lx ++ [i]).length = N + (k + 1) := by rw [List.length_append, h.len]; rfl
  have hw : ImsWf (lx ++ [i]) := fun y hy => (List.mem_append.1 hy).elim (h.wf y) fun hy => by rw [List.mem_singleton.1 hy]; exact hi
  have ba := below_alloc W (.cells (icells i).toArray 32)
  refine ⟨q, m, c, W', hr, ?_⟩
  rcases hat with ⟨g, n, c', e1, e2, hg⟩ | ⟨hf, hb⟩
  · rw [e2] at ho ⊢
    have hx' : vx.ownBlock = some g := by rw [e1]; rfl
    refine ⟨hl, hw, ho, (h.b.later ba).kept hg (ne_row h.ne hx'), ?_, fun g' e' => h.ne g' (by rw [hx']; exact e'), h.nea, ?_⟩
    · exact (below_then h.low ba).grown hg (below_then h.low ba).size (fun j ej => (h.x.lt j (by rw [hx']; exact ej)).1)
    · rcases h.at0 with ⟨g', n', m', c'', f1, f2, f3⟩ | ⟨la, f1, f2, f3⟩
      · rw [f3] at e1
        cases e1
        exact .inl ⟨g, n', _, _, f1, f2, rfl⟩
      · rw [hx'] at f3
        exact .inr ⟨la, f1, (f2.later ba).kept hg f3, f3⟩
  · have hfb : ∀ {u : Value} {l : List Im}, IOwn W w2.heap.size u l → u.ownBlock ≠ some (W.heap.size + 1) := fun hu e => by have := (hu.lt _ e).2; omega
    refine ⟨hl, hw, ho, h.b.later hb, below_then h.low hb, fun g' e' e'' => hfb h.b (by rw [e'', ← hf, e']), h.nea, .inr ?_⟩
    obtain ⟨la, f1, f2⟩ := h.fin
    exact ⟨la, f1, f2.later hb, .inr (by rw [hf]; exact hfb f2)⟩
theorem ABX.later {w2 W W' : World} {va vb vx : Value} {N k : Nat} {lx F : List Im} (h : ABX w2 W va vb vx N k lx F) (hb : Below W.heap.size W W') : ABX w2 W' va vb vx N k lx F :=
  ⟨h.len, h.wf, h.x.later hb, h.b.later hb, below_then h.low hb, h.ne, h.nea, by
    rcases h.at0 with e | ⟨la, f1, f2, f3⟩
    · exact .inl e
    · exact .inr ⟨la, f1, f2.later hb, f3⟩⟩
end Go.Proofs.YtefnkjajjidfaaaDoor
namespace Go.Proofs.YtefnkjajjidfaaaDoor
open Go.RowKit

set_option maxHeartbeats 8000000 in
set_option maxRecDepth 100000 in
theorem scanNewest_any (p : Option Addr) (n c : Nat) (txs : List TX) (w : World) (ht : Tab w) (h : XIn w p n txs) (hwf : TxsWf txs) (hn : n ≤ 1200000) (hf : (flat txs).length ≤ 1200000) :
    Calls Tryd.prog 3 #[.slice p n c] w fun e w' => e = .returned (.bool true) ∧ Below w.heap.size w w' := by
  have HT : Hid (Tab w) := ht
  have HX : Hid (XIn w p n txs) := h
  have HW : Hid (TxsWf txs) := hwf
  have HF : Hid ((flat txs).length ≤ 1200000) := hf
  have hlen : txs.length = n := h.len
  clear ht h hwf hf
  go_enter Tryd.func3, Tryd.ntmps3
  go_wp2_with fail
  refine (awake_any w HT.out).mono ?_
  rintro e w1 ⟨rfl, b1⟩
  have B1 : Hid (Below w.heap.size w w1) := b1
  clear b1
  go_wp2_with fail
  go_loopw [3, 16] (fun v i wr => ∃ k : Nat, k ≤ n ∧ i = .int .i64 k ∧ ∃ qv mv cv, v = .slice qv mv cv ∧ Hid (∃ vs, XSp wr w1.heap.size (.slice qv mv cv) (txs.take k) vs ∧ Below w1.heap.size w1 wr)) (fun _ i _ => n - (intOf i).toNat)
  case atStart => exact ⟨0, Nat.zero_le _, rfl, none, 0, 0, rfl, [], XSp.nil _ _, Below.refl _ _⟩
  case round =>
    obtain ⟨k, hk, rfl, qv, mv, cv, rfl, HI⟩ := hrel
    obtain ⟨wv, hwv⟩ : ∃ wv, wv = wr := ⟨_, rfl⟩
    subst hwv
    by_cases hlt : k < n
    · obtain ⟨t, htk⟩ : ∃ t, txs[k]? = some t := ⟨_, List.getElem?_eq_getElem (by omega)⟩
      obtain ⟨g, o, rfl, hcell⟩ := HX.out.cells (by omega)
      obtain ⟨q2, c2, e0, e1, mi, -, -⟩ := hcell k t htk
      have HC : Hid (∀ W, Below w.heap.size w W → W.cell? ⟨g, o + k * 2, none⟩ = some (.int .u64 t.p) ∧ W.cell? ⟨g, o + k * 2 + 1, none⟩ = some (.slice q2 t.ims.length c2) ∧ MIn W q2 t.ims.length t.ims) := fun W hW =>
        ⟨(hW.cell (p := ⟨g, o + k * 2, none⟩) (World.block_lt_of_cell? w _ e0)).trans e0, (hW.cell (p := ⟨g, o + k * 2 + 1, none⟩) (World.block_lt_of_cell? w _ e1)).trans e1, mi.later hW⟩
      have htl : t.ims.length ≤ 1200000 := by have := flat_bd htk t.ims.length; rw [List.take_length] at this; have := HF.out; omega
      have HTW : Hid (t.Wf) := HW.out t (List.mem_of_getElem? htk)
      have HW1 : Hid (ImsWf ([] ++ t.ims)) := HTW.out.ims
      have HTK : Hid (txs.take (k + 1) = txs.take k ++ [t]) := by show _ = _; rw [List.take_add_one, htk]; rfl
      have hlk : (txs.take k).length = k := by rw [List.length_take]; omega
      have i1 : (k : Int) < (n : Int) := by omega
      have i0 : (0 : Int) ≤ (k : Int) := by omega
      obtain ⟨vs, xs0, bw0⟩ := HI.out
      have XS0 : Hid (XSp wv w1.heap.size (.slice qv mv cv) (txs.take k) vs ∧ Below w1.heap.size w1 wv) := ⟨xs0, bw0⟩
      clear HI xs0 bw0 e0 e1 mi hcell
      go_wp2_with fail
      have dd : Below wv.heap.size wv wv.drew := below_drawn 1
      have BW1 : Hid (Below w1.heap.size w1 wv.drew) := below_then XS0.out.2 dd
      have BW : Hid (Below w.heap.size w wv.drew) := below_then B1.out BW1.out
      have XS : Hid (XSp wv.drew w1.heap.size (.slice qv mv cv) (txs.take k) vs) := XS0.out.1.later dd
      refine wp_region_noPanic ?_
      refine wp_region_held_drew (S := fun w' => Below w.heap.size w w') (by kernel_rfl) BW.out (fun hHeld => ?_)
      clear dd XS0
      generalize wv.drew = wd at *
      have G9 : Hid (Below wd.heap.size wd wd) := Below.refl _ _
      refine wpAnyH_take (i := 0) (v := ?va1) (by simp; rfl) (by kernel_rfl) (by kernel_rfl) (by kernel_rfl) (fun _ _ _ h => h) (Or.inl ⟨by rfl, ?ya1⟩) hHeld ?ra1
      case ya1 => intro w hSw; clear hSw; go_simp; with_reducible rfl
      simp only [Act.put, List.setIfInBounds_toArray, List.set_cons_zero, List.set_cons_succ]
      refine wpAnyH_take (i := 1) (v := ?va2) (by simp; rfl) (by kernel_rfl) (by kernel_rfl) (by kernel_rfl) (fun _ _ _ h => h) (Or.inl ⟨by rfl, ?ya2⟩) hHeld ?ra2
      case ya2 => intro w hSw; clear hSw; go_simp; with_reducible rfl
      simp only [Act.put, List.setIfInBounds_toArray, List.set_cons_zero, List.set_cons_succ]
      refine wpAnyH_take (i := 2) (v := ?va3) (by simp; rfl) (by kernel_rfl) (by kernel_rfl) (by kernel_rfl) (fun _ _ _ h => h) (Or.inl ⟨by rfl, ?ya3⟩) hHeld ?ra3
      case ya3 => intro w hSw; clear hSw; go_simp; with_reducible rfl
      simp only [Act.put, List.setIfInBounds_toArray, List.set_cons_zero, List.set_cons_succ]
      refine wpAnyH_take (i := 3) (v := ?va4) (by simp; rfl) (by kernel_rfl) (by kernel_rfl) (by kernel_rfl) (fun _ _ _ h => h) (Or.inl ⟨by rfl, ?ya4⟩) hHeld ?ra4
      case ya4 => intro w hSw; clear hSw; go_simp; with_reducible rfl
      simp only [Act.put, List.setIfInBounds_toArray, List.set_cons_zero, List.set_cons_succ]
      refine wpAnyH_take (i := 4) (v := ?va5) (by simp; rfl) (by kernel_rfl) (by kernel_rfl) (by kernel_rfl) (fun _ _ _ h => h) (Or.inl ⟨by rfl, ?ya5⟩) hHeld ?ra5
      case ya5 => intro w hSw; clear hSw; go_simp; with_reducible rfl
      simp only [Act.put, List.setIfInBounds_toArray, List.set_cons_zero, List.set_cons_succ]
      refine wpAnyH_take (i := 5) (v := ?va6) (by simp; rfl) (by kernel_rfl) (by kernel_rfl) (by kernel_rfl) (fun _ _ _ h => h) (Or.inl ⟨by rfl, ?ya6⟩) hHeld ?ra6
      case ya6 => intro w hSw; have z := (HC.out _ hSw).1; clear hSw; go_simp; with_reducible rfl
      simp only [Act.put, List.setIfInBounds_toArray, List.set_cons_zero, List.set_cons_succ]
      refine wpAnyH_take (i := 7) (v := ?va7) (by simp; rfl) (by kernel_rfl) (by kernel_rfl) (by kernel_rfl) (fun _ _ _ h => h) (Or.inl ⟨by rfl, ?ya7⟩) hHeld ?ra7
      case ya7 => intro w hSw; clear hSw; go_simp; with_reducible rfl
      simp only [Act.put, List.setIfInBounds_toArray, List.set_cons_zero, List.set_cons_succ]
      refine wpAnyH_take (i := 8) (v := ?va8) (by simp; rfl) (by kernel_rfl) (by kernel_rfl) (by kernel_rfl) (fun _ _ _ h => h) (Or.inl ⟨by rfl, ?ya8⟩) hHeld ?ra8
      case ya8 => intro w hSw; clear hSw; go_simp; with_reducible rfl
      simp only [Act.put, List.setIfInBounds_toArray, List.set_cons_zero, List.set_cons_succ]
      refine wpAnyH_take (i := 9) (v := ?va9) (by simp; rfl) (by kernel_rfl) (by kernel_rfl) (by kernel_rfl) (fun _ _ _ h => h) (Or.inl ⟨by rfl, ?ya9⟩) hHeld ?ra9
      case ya9 => intro w hSw; clear hSw; go_simp; with_reducible rfl
      simp only [Act.put, List.setIfInBounds_toArray, List.set_cons_zero, List.set_cons_succ]
      refine wpAnyH_take (i := 10) (v := ?va10) (by simp; rfl) (by kernel_rfl) (by kernel_rfl) (by kernel_rfl) (fun _ _ _ h => h) (Or.inl ⟨by rfl, ?ya10⟩) hHeld ?ra10
      case ya10 => intro w hSw; clear hSw; go_simp; with_reducible rfl
      simp only [Act.put, List.setIfInBounds_toArray, List.set_cons_zero, List.set_cons_succ]
      refine wpAnyH_take (i := 11) (v := ?va11) (by simp; rfl) (by kernel_rfl) (by kernel_rfl) (by kernel_rfl) (fun _ _ _ h => h) (Or.inl ⟨by rfl, ?ya11⟩) hHeld ?ra11
      case ya11 => intro w hSw; have z := (HC.out _ hSw).2.1; clear hSw; go_simp; with_reducible rfl
      simp only [Act.put, List.setIfInBounds_toArray, List.set_cons_zero, List.set_cons_succ]
      refine wpAnyH_take (i := 13) (v := _) (by simp; rfl) (by kernel_rfl) (by kernel_rfl) (by kernel_rfl) (fun _ _ _ h => h) (R.yields_build_is (vs := [(0, .int .i64 (-5))]) (by rfl) 32 rfl (by rfl) (fun w => build5 w)) hHeld ?_
      simp only [Act.put, List.setIfInBounds_toArray, List.set_cons_zero, List.set_cons_succ]
      refine wpAnyH_take (i := 16) (v := ?va12) (by simp; rfl) (by kernel_rfl) (by kernel_rfl) (by kernel_rfl) (fun _ _ _ h => h) (Or.inl ⟨by rfl, ?ya12⟩) hHeld ?ra12
      case ya12 => intro w hSw; clear hSw; go_simp; with_reducible rfl
      simp only [Act.put, List.setIfInBounds_toArray, List.set_cons_zero, List.set_cons_succ]
      refine wpAnyH_take (i := 17) (v := ?va13) (by simp; rfl) (by kernel_rfl) (by kernel_rfl) (by kernel_rfl) (fun _ _ _ h => h) (Or.inl ⟨by rfl, ?ya13⟩) hHeld ?ra13
      case ya13 => intro w hSw; clear hSw; go_simp; with_reducible rfl
      simp only [Act.put, List.setIfInBounds_toArray, List.set_cons_zero, List.set_cons_succ]
      refine wpAnyH_take (i := 18) (v := ?va14) (by simp; rfl) (by kernel_rfl) (by kernel_rfl) (by kernel_rfl) (fun _ _ _ h => h) (Or.inl ⟨by rfl, ?ya14⟩) hHeld ?ra14
      case ya14 => intro w hSw; clear hSw; go_simp; with_reducible rfl
      simp only [Act.put, List.setIfInBounds_toArray, List.set_cons_zero, List.set_cons_succ]
      refine wpAnyH_take (i := 19) (v := ?va15) (by simp; rfl) (by kernel_rfl) (by kernel_rfl) (by kernel_rfl) (fun _ _ _ h => h) (Or.inl ⟨by rfl, ?ya15⟩) hHeld ?ra15
      case ya15 => intro w hSw; clear hSw; go_simp; with_reducible rfl
      simp only [Act.put, List.setIfInBounds_toArray, List.set_cons_zero, List.set_cons_succ]
      refine wpAnyH_take (i := 20) (v := ?va16) (by simp; rfl) (by kernel_rfl) (by kernel_rfl) (by kernel_rfl) (fun _ _ _ h => h) (Or.inl ⟨by rfl, ?ya16⟩) hHeld ?ra16
      case ya16 => intro w hSw; have z := (HC.out _ hSw).2.1; clear hSw; go_simp; with_reducible rfl
      simp only [Act.put, List.setIfInBounds_toArray, List.set_cons_zero, List.set_cons_succ]
      refine wpAnyH_take (i := 21) (v := ?va17) (by simp; rfl) (by kernel_rfl) (by kernel_rfl) (by kernel_rfl) (fun _ _ _ h => h) (Or.inl ⟨by rfl, ?ya17⟩) hHeld ?ra17
      case ya17 => intro w hSw; clear hSw; go_simp; with_reducible rfl
      simp only [Act.put, List.setIfInBounds_toArray, List.set_cons_zero, List.set_cons_succ]
      refine wpAnyH_ready (rs := [6, 14]) (by kernel_rfl) (by simp) ?_
      refine AllReadyH.cons (by simp; rfl) (fun Kc hKc => ?_) (AllReadyH.cons (by simp; rfl) (fun Kc hKc => ?_) AllReadyH.nil)
      · refine sq_slice0 (by rfl) 26 rfl (build_im0 wd) ?_
        obtain ⟨x0, hx0⟩ : ∃ x0, x0 = wd.alloc (.cells #[] 32) := ⟨_, rfl⟩
        obtain ⟨ge, hge⟩ : ∃ ge, ge = wd.heap.size := ⟨_, rfl⟩
        have b0 : Below wd.heap.size wd x0 := by rw [hx0]; exact below_alloc wd _
        have G0 : Hid (Below wd.heap.size wd x0) := below_then G9.out b0
        have R0 : Hid (IOwn x0 wd.heap.size (.slice (some ⟨ge, 0, none⟩) 0 0) []) := by rw [hx0, hge]; exact World.ownsRow_made wd #[] 0 G9.out.size (Nat.zero_le _) rfl
        rw [← hx0, ← hge]
        refine hKc.out _ _ (below_then BW.out G0.out) (fun hHeld => ?_)
        clear hx0 hge b0
        clear hKc Kc
        simp only [Act.put, List.setIfInBounds_toArray, List.set_cons_zero, List.set_cons_succ]
        refine wpAnyH_ready (rs := [12, 14]) (by kernel_rfl) (by simp) ?_
        refine AllReadyH.cons (by simp; rfl) (fun Kc hKc => ?_) (AllReadyH.cons (by simp; rfl) (fun Kc hKc => ?_) AllReadyH.nil)
        · obtain ⟨qa, ma, ca, ya, hra, hoa, hga, -⟩ := app_imsL (c := c2) R0.out ImsWf.nil (HC.out _ (below_then BW.out G0.out)).2.2 (by simp; omega) G0.out.size
          refine sq_append (u1 := (.slice (some ⟨ge, 0, none⟩) 0 0)) (u2 := .slice q2 t.ims.length c2) (by rfl) rfl rfl rfl rfl hra ?_
          have Ra : Hid (IOwn ya wd.heap.size (.slice qa ma ca) ([] ++ t.ims)) := hoa
          have Ga : Hid (Below wd.heap.size wd ya) := G0.out.grown hga G0.out.size (fun j ej => (R0.out.lt j ej).1)
          refine hKc.out _ _ (below_then BW.out Ga.out) (fun hHeld => ?_)
          clear hra hoa hga
          clear hKc Kc
          simp only [Act.put, List.setIfInBounds_toArray, List.set_cons_zero, List.set_cons_succ]
          refine wpAnyH_ready (rs := [14]) (by kernel_rfl) (by simp) ?_
          refine AllReadyH.cons (by simp; rfl) (fun Kc hKc => ?_) AllReadyH.nil
          refine sq_slice (u := .agg (icells im5).toArray) (by rfl) 26 rfl rfl (build_im ya im5 im5_wf.len) ?_
          obtain ⟨x6, hx6⟩ : ∃ x6, x6 = ya.alloc (.cells (icells im5).toArray 32) := ⟨_, rfl⟩
          obtain ⟨gi, hgi⟩ : ∃ gi, gi = ya.heap.size := ⟨_, rfl⟩
          have b6 : Below ya.heap.size ya x6 := by rw [hx6]; exact below_alloc ya _
          have G6 : Hid (Below wd.heap.size wd x6) := below_then Ga.out b6
          have m6 : MIn x6 (some ⟨gi, 0, none⟩) 1 [im5] := ⟨rfl, fun y hy => by rw [List.mem_singleton.1 hy]; exact im5_wf, fun _ => ⟨gi, 0, rfl, by rw [hx6, hgi, show IC [im5] = icells im5 by simp [IC]]; exact LAt.range (LAt.new 32 ya (icells im5))⟩⟩
          have R6 : Hid (IOwn x6 wd.heap.size (.slice qa ma ca) (([] ++ t.ims))) := Ra.out.later b6
          have I6 : Hid (MIn x6 (some ⟨gi, 0, none⟩) 1 [im5]) := m6
          rw [← hx6, ← hgi]
          refine hKc.out _ _ (below_then BW.out G6.out) (fun hHeld => ?_)
          clear hx6 hgi b6 m6
          clear hKc Kc
          simp only [Act.put, List.setIfInBounds_toArray, List.set_cons_zero, List.set_cons_succ]
          refine wpAnyH_ready (rs := [15]) (by kernel_rfl) (by simp) ?_
          refine AllReadyH.cons (by simp; rfl) (fun Kc hKc => ?_) AllReadyH.nil
          obtain ⟨qb, mb, cb, yb, hrb, hob, hgb, -⟩ := app_imsL (c := 1) R6.out HW1.out I6.out (by simp; omega) G6.out.size
          refine sq_append (u1 := (.slice qa ma ca)) (u2 := .slice (some ⟨gi, 0, none⟩) 1 1) (by rfl) rfl rfl rfl rfl hrb ?_
          have Rb : Hid (IOwn yb wd.heap.size (.slice qb mb cb) (([] ++ t.ims) ++ [im5])) := hob
          have Gb : Hid (Below wd.heap.size wd yb) := G6.out.grown hgb G6.out.size (fun j ej => (R6.out.lt j ej).1)
          have HCB : Hid (t.ims.length ≤ cb) := by
            obtain ⟨a1, a2, a3, a4, a5, -⟩ := IOwn.in Rb.out (ims5_wf HW1.out)
            cases a3
            rw [List.nil_append, List.length_append] at a5
            exact Nat.le_trans (Nat.le_add_right _ _) a5
          refine hKc.out _ _ (below_then BW.out Gb.out) (fun hHeld => ?_)
          clear hrb hob hgb
          clear hKc Kc
          simp only [Act.put, List.setIfInBounds_toArray, List.set_cons_zero, List.set_cons_succ]
          refine wpAnyH_take (i := 22) (v := _) (by simp; rfl) (by kernel_rfl) (by kernel_rfl) (by kernel_rfl) (fun _ _ _ h => h) (yields_slice_is (vx := .slice qb mb cb) (vl := none) (vh := some (.int .i64 (t.ims.length : Int))) (vm := none) (by rfl) 26 rfl rfl rfl rfl rfl (fun w => run_to w qb mb cb t.ims.length HCB.out)) hHeld ?_
          simp only [Act.put, List.setIfInBounds_toArray, List.set_cons_zero, List.set_cons_succ]
          refine wpAnyH_take (i := 23) (v := _) (by simp; rfl) (by kernel_rfl) (by kernel_rfl) (by kernel_rfl) (fun _ _ _ h => h) (R.yields_build_is (vs := [(0, .int .u64 t.p), (1, .slice qb t.ims.length cb)]) (by rfl) 33 rfl (by rfl) (fun w => buildT w t.p qb t.ims.length cb)) hHeld ?_
          simp only [Act.put, List.setIfInBounds_toArray, List.set_cons_zero, List.set_cons_succ]
          refine wpAnyH_ready (rs := [24]) (by kernel_rfl) (by simp) ?_
          refine AllReadyH.cons (by simp; rfl) (fun Kc hKc => ?_) AllReadyH.nil
          refine sq_slice (u := .agg #[.int .u64 t.p, .slice qb t.ims.length cb]) (by rfl) 24 rfl rfl (build_tx yb t.p qb t.ims.length cb) ?_
          refine hKc.out _ _ (below_then (below_then BW.out Gb.out) (below_alloc yb _)) (fun hHeld => ?_)
          clear hKc Kc
          simp only [Act.put, List.setIfInBounds_toArray, List.set_cons_zero, List.set_cons_succ]
          refine wpAnyH_ready (rs := [25]) (by kernel_rfl) (by simp) ?_
          refine AllReadyH.cons (by simp; rfl) (fun Kc hKc => ?_) AllReadyH.nil
          obtain ⟨q4, m4, c4, V4, hr4, x4, b4⟩ := XSp.app (XS.out.later Gb.out) (Nat.le_trans BW1.out.size Gb.out.size) (by rw [hlk]; omega) HTW.out.p HTW.out.ims (own_at (by have := Rb.out; rw [List.nil_append] at this; exact this) (fun g hg => Nat.le_trans BW1.out.size (Rb.out.lt g hg).1) rfl)
          refine sq_append (u1 := .slice qv mv cv) (u2 := .slice (some ⟨yb.heap.size, 0, none⟩) 1 1) (by rfl) rfl rfl rfl rfl hr4 ?_
          have B4 : Hid (Below w1.heap.size w1 V4) := (below_then BW1.out Gb.out).trans b4
          have X4 : Hid (∃ vs, XSp V4 w1.heap.size (.slice q4 m4 c4) (txs.take (k + 1)) vs) := by rw [HTK.out]; exact ⟨_, x4⟩
          refine hKc.out _ _ (below_then B1.out B4.out) (fun hHeld => ?_)
          clear hr4 x4 b4
          clear hKc Kc
          simp only [Act.put, List.setIfInBounds_toArray, List.set_cons_zero, List.set_cons_succ]
          refine wpAnyH_take (i := 26) (v := ?va18) (by simp; rfl) (by kernel_rfl) (by kernel_rfl) (by kernel_rfl) (fun _ _ _ h => h) (Or.inl ⟨by rfl, ?ya18⟩) hHeld ?ra18
          case ya18 => intro w hSw; clear hSw; go_simp; with_reducible rfl
          simp only [Act.put, List.setIfInBounds_toArray, List.set_cons_zero, List.set_cons_succ]
          clear hHeld
          refine wpAnyH_done (by kernel_rfl) (NoPanic.normal ?_) _
          go_wp2_with fail
          go_roundw
          case rel => exact ⟨k + 1, by omega, by go_num, q4, m4, c4, rfl, X4.out.choose, X4.out.choose_spec, B4.out⟩
          case measure => simp [intOf]; omega
        · refine sq_slice (u := .agg (icells im5).toArray) (by rfl) 26 rfl rfl (build_im x0 im5 im5_wf.len) ?_
          obtain ⟨x6, hx6⟩ : ∃ x6, x6 = x0.alloc (.cells (icells im5).toArray 32) := ⟨_, rfl⟩
          obtain ⟨gi, hgi⟩ : ∃ gi, gi = x0.heap.size := ⟨_, rfl⟩
          have b6 : Below x0.heap.size x0 x6 := by rw [hx6]; exact below_alloc x0 _
          have G6 : Hid (Below wd.heap.size wd x6) := below_then G0.out b6
          have m6 : MIn x6 (some ⟨gi, 0, none⟩) 1 [im5] := ⟨rfl, fun y hy => by rw [List.mem_singleton.1 hy]; exact im5_wf, fun _ => ⟨gi, 0, rfl, by rw [hx6, hgi, show IC [im5] = icells im5 by simp [IC]]; exact LAt.range (LAt.new 32 x0 (icells im5))⟩⟩
          have R6 : Hid (IOwn x6 wd.heap.size (.slice (some ⟨ge, 0, none⟩) 0 0) ([])) := R0.out.later b6
          have I6 : Hid (MIn x6 (some ⟨gi, 0, none⟩) 1 [im5] ∧ ge ≠ gi) := ⟨m6, by have := (R0.out.lt ge rfl).2; omega⟩
          rw [← hx6, ← hgi]
          refine hKc.out _ _ (below_then BW.out G6.out) (fun hHeld => ?_)
          clear hx6 hgi b6 m6
          clear hKc Kc
          simp only [Act.put, List.setIfInBounds_toArray, List.set_cons_zero, List.set_cons_succ]
          refine wpAnyH_ready (rs := [12]) (by kernel_rfl) (by simp) ?_
          refine AllReadyH.cons (by simp; rfl) (fun Kc hKc => ?_) AllReadyH.nil
          obtain ⟨qa, ma, ca, ya, hra, hoa, hga, -⟩ := app_imsL (c := c2) R6.out ImsWf.nil (HC.out _ (below_then BW.out G6.out)).2.2 (by simp; omega) G6.out.size
          refine sq_append (u1 := (.slice (some ⟨ge, 0, none⟩) 0 0)) (u2 := .slice q2 t.ims.length c2) (by rfl) rfl rfl rfl rfl hra ?_
          have Ra : Hid (IOwn ya wd.heap.size (.slice qa ma ca) ([] ++ t.ims)) := hoa
          have Ga : Hid (Below wd.heap.size wd ya) := G6.out.grown hga G6.out.size (fun j ej => (R6.out.lt j ej).1)
          have I1 : Hid (MIn ya (some ⟨gi, 0, none⟩) 1 [im5]) := I6.out.1.grown hga (fun e' => I6.out.2 (Option.some.inj e'))
          refine hKc.out _ _ (below_then BW.out Ga.out) (fun hHeld => ?_)
          clear hra hoa hga
          clear hKc Kc
          simp only [Act.put, List.setIfInBounds_toArray, List.set_cons_zero, List.set_cons_succ]
          refine wpAnyH_ready (rs := [15]) (by kernel_rfl) (by simp) ?_
          refine AllReadyH.cons (by simp; rfl) (fun Kc hKc => ?_) AllReadyH.nil
          obtain ⟨qb, mb, cb, yb, hrb, hob, hgb, -⟩ := app_imsL (c := 1) Ra.out HW1.out I1.out (by simp; omega) Ga.out.size
          refine sq_append (u1 := (.slice qa ma ca)) (u2 := .slice (some ⟨gi, 0, none⟩) 1 1) (by rfl) rfl rfl rfl rfl hrb ?_
          have Rb : Hid (IOwn yb wd.heap.size (.slice qb mb cb) (([] ++ t.ims) ++ [im5])) := hob
          have Gb : Hid (Below wd.heap.size wd yb) := Ga.out.grown hgb Ga.out.size (fun j ej => (Ra.out.lt j ej).1)
          have HCB : Hid (t.ims.length ≤ cb) := by
            obtain ⟨a1, a2, a3, a4, a5, -⟩ := IOwn.in Rb.out (ims5_wf HW1.out)
            cases a3
            rw [List.nil_append, List.length_append] at a5
            exact Nat.le_trans (Nat.le_add_right _ _) a5
          refine hKc.out _ _ (below_then BW.out Gb.out) (fun hHeld => ?_)
          clear hrb hob hgb
          clear hKc Kc
          simp only [Act.put, List.setIfInBounds_toArray, List.set_cons_zero, List.set_cons_succ]
          refine wpAnyH_take (i := 22) (v := _) (by simp; rfl) (by kernel_rfl) (by kernel_rfl) (by kernel_rfl) (fun _ _ _ h => h) (yields_slice_is (vx := .slice qb mb cb) (vl := none) (vh := some (.int .i64 (t.ims.length : Int))) (vm := none) (by rfl) 26 rfl rfl rfl rfl rfl (fun w => run_to w qb mb cb t.ims.length HCB.out)) hHeld ?_
          simp only [Act.put, List.setIfInBounds_toArray, List.set_cons_zero, List.set_cons_succ]
          refine wpAnyH_take (i := 23) (v := _) (by simp; rfl) (by kernel_rfl) (by kernel_rfl) (by kernel_rfl) (fun _ _ _ h => h) (R.yields_build_is (vs := [(0, .int .u64 t.p), (1, .slice qb t.ims.length cb)]) (by rfl) 33 rfl (by rfl) (fun w => buildT w t.p qb t.ims.length cb)) hHeld ?_
          simp only [Act.put, List.setIfInBounds_toArray, List.set_cons_zero, List.set_cons_succ]
          refine wpAnyH_ready (rs := [24]) (by kernel_rfl) (by simp) ?_
          refine AllReadyH.cons (by simp; rfl) (fun Kc hKc => ?_) AllReadyH.nil
          refine sq_slice (u := .agg #[.int .u64 t.p, .slice qb t.ims.length cb]) (by rfl) 24 rfl rfl (build_tx yb t.p qb t.ims.length cb) ?_
          refine hKc.out _ _ (below_then (below_then BW.out Gb.out) (below_alloc yb _)) (fun hHeld => ?_)
          clear hKc Kc
          simp only [Act.put, List.setIfInBounds_toArray, List.set_cons_zero, List.set_cons_succ]
          refine wpAnyH_ready (rs := [25]) (by kernel_rfl) (by simp) ?_
          refine AllReadyH.cons (by simp; rfl) (fun Kc hKc => ?_) AllReadyH.nil
          obtain ⟨q4, m4, c4, V4, hr4, x4, b4⟩ := XSp.app (XS.out.later Gb.out) (Nat.le_trans BW1.out.size Gb.out.size) (by rw [hlk]; omega) HTW.out.p HTW.out.ims (own_at (by have := Rb.out; rw [List.nil_append] at this; exact this) (fun g hg => Nat.le_trans BW1.out.size (Rb.out.lt g hg).1) rfl)
          refine sq_append (u1 := .slice qv mv cv) (u2 := .slice (some ⟨yb.heap.size, 0, none⟩) 1 1) (by rfl) rfl rfl rfl rfl hr4 ?_
          have B4 : Hid (Below w1.heap.size w1 V4) := (below_then BW1.out Gb.out).trans b4
          have X4 : Hid (∃ vs, XSp V4 w1.heap.size (.slice q4 m4 c4) (txs.take (k + 1)) vs) := by rw [HTK.out]; exact ⟨_, x4⟩
          refine hKc.out _ _ (below_then B1.out B4.out) (fun hHeld => ?_)
          clear hr4 x4 b4
          clear hKc Kc
          simp only [Act.put, List.setIfInBounds_toArray, List.set_cons_zero, List.set_cons_succ]
          refine wpAnyH_take (i := 26) (v := ?va19) (by simp; rfl) (by kernel_rfl) (by kernel_rfl) (by kernel_rfl) (fun _ _ _ h => h) (Or.inl ⟨by rfl, ?ya19⟩) hHeld ?ra19
          case ya19 => intro w hSw; clear hSw; go_simp; with_reducible rfl
          simp only [Act.put, List.setIfInBounds_toArray, List.set_cons_zero, List.set_cons_succ]
          clear hHeld
          refine wpAnyH_done (by kernel_rfl) (NoPanic.normal ?_) _
          go_wp2_with fail
          go_roundw
          case rel => exact ⟨k + 1, by omega, by go_num, q4, m4, c4, rfl, X4.out.choose, X4.out.choose_spec, B4.out⟩
          case measure => simp [intOf]; omega
      · refine sq_slice (u := .agg (icells im5).toArray) (by rfl) 26 rfl rfl (build_im wd im5 im5_wf.len) ?_
        obtain ⟨x6, hx6⟩ : ∃ x6, x6 = wd.alloc (.cells (icells im5).toArray 32) := ⟨_, rfl⟩
        obtain ⟨gi, hgi⟩ : ∃ gi, gi = wd.heap.size := ⟨_, rfl⟩
        have b6 : Below wd.heap.size wd x6 := by rw [hx6]; exact below_alloc wd _
        have G6 : Hid (Below wd.heap.size wd x6) := below_then G9.out b6
        have m6 : MIn x6 (some ⟨gi, 0, none⟩) 1 [im5] := ⟨rfl, fun y hy => by rw [List.mem_singleton.1 hy]; exact im5_wf, fun _ => ⟨gi, 0, rfl, by rw [hx6, hgi, show IC [im5] = icells im5 by simp [IC]]; exact LAt.range (LAt.new 32 wd (icells im5))⟩⟩
        have I6 : Hid (MIn x6 (some ⟨gi, 0, none⟩) 1 [im5] ∧ gi < x6.heap.size) := ⟨m6, by rw [hx6, hgi]; simp⟩
        rw [← hx6, ← hgi]
        refine hKc.out _ _ (below_then BW.out G6.out) (fun hHeld => ?_)
        clear hx6 hgi b6 m6
        clear hKc Kc
        simp only [Act.put, List.setIfInBounds_toArray, List.set_cons_zero, List.set_cons_succ]
        refine wpAnyH_ready (rs := [6]) (by kernel_rfl) (by simp) ?_
        refine AllReadyH.cons (by simp; rfl) (fun Kc hKc => ?_) AllReadyH.nil
        refine sq_slice0 (by rfl) 26 rfl (build_im0 x6) ?_
        obtain ⟨x0, hx0⟩ : ∃ x0, x0 = x6.alloc (.cells #[] 32) := ⟨_, rfl⟩
        obtain ⟨ge, hge⟩ : ∃ ge, ge = x6.heap.size := ⟨_, rfl⟩
        have b0 : Below x6.heap.size x6 x0 := by rw [hx0]; exact below_alloc x6 _
        have G0 : Hid (Below wd.heap.size wd x0) := below_then G6.out b0
        have R0 : Hid (IOwn x0 wd.heap.size (.slice (some ⟨ge, 0, none⟩) 0 0) []) := by rw [hx0, hge]; exact World.ownsRow_made x6 #[] 0 G6.out.size (Nat.zero_le _) rfl
        have I0 : Hid (MIn x0 (some ⟨gi, 0, none⟩) 1 [im5] ∧ ge ≠ gi) := ⟨I6.out.1.later b0, by have := I6.out.2; omega⟩
        rw [← hx0, ← hge]
        refine hKc.out _ _ (below_then BW.out G0.out) (fun hHeld => ?_)
        clear hx0 hge b0
        clear hKc Kc
        simp only [Act.put, List.setIfInBounds_toArray, List.set_cons_zero, List.set_cons_succ]
        refine wpAnyH_ready (rs := [12]) (by kernel_rfl) (by simp) ?_
        refine AllReadyH.cons (by simp; rfl) (fun Kc hKc => ?_) AllReadyH.nil
        obtain ⟨qa, ma, ca, ya, hra, hoa, hga, -⟩ := app_imsL (c := c2) R0.out ImsWf.nil (HC.out _ (below_then BW.out G0.out)).2.2 (by simp; omega) G0.out.size
        refine sq_append (u1 := (.slice (some ⟨ge, 0, none⟩) 0 0)) (u2 := .slice q2 t.ims.length c2) (by rfl) rfl rfl rfl rfl hra ?_
        have Ra : Hid (IOwn ya wd.heap.size (.slice qa ma ca) ([] ++ t.ims)) := hoa
        have Ga : Hid (Below wd.heap.size wd ya) := G0.out.grown hga G0.out.size (fun j ej => (R0.out.lt j ej).1)
        have I1 : Hid (MIn ya (some ⟨gi, 0, none⟩) 1 [im5]) := I0.out.1.grown hga (fun e' => I0.out.2 (Option.some.inj e'))
        refine hKc.out _ _ (below_then BW.out Ga.out) (fun hHeld => ?_)
        clear hra hoa hga
        clear hKc Kc
        simp only [Act.put, List.setIfInBounds_toArray, List.set_cons_zero, List.set_cons_succ]
        refine wpAnyH_ready (rs := [15]) (by kernel_rfl) (by simp) ?_
        refine AllReadyH.cons (by simp; rfl) (fun Kc hKc => ?_) AllReadyH.nil
        obtain ⟨qb, mb, cb, yb, hrb, hob, hgb, -⟩ := app_imsL (c := 1) Ra.out HW1.out I1.out (by simp; omega) Ga.out.size
        refine sq_append (u1 := (.slice qa ma ca)) (u2 := .slice (some ⟨gi, 0, none⟩) 1 1) (by rfl) rfl rfl rfl rfl hrb ?_
        have Rb : Hid (IOwn yb wd.heap.size (.slice qb mb cb) (([] ++ t.ims) ++ [im5])) := hob
        have Gb : Hid (Below wd.heap.size wd yb) := Ga.out.grown hgb Ga.out.size (fun j ej => (Ra.out.lt j ej).1)
        have HCB : Hid (t.ims.length ≤ cb) := by
          obtain ⟨a1, a2, a3, a4, a5, -⟩ := IOwn.in Rb.out (ims5_wf HW1.out)
          cases a3
          rw [List.nil_append, List.length_append] at a5
          exact Nat.le_trans (Nat.le_add_right _ _) a5
        refine hKc.out _ _ (below_then BW.out Gb.out) (fun hHeld => ?_)
        clear hrb hob hgb
        clear hKc Kc
        simp only [Act.put, List.setIfInBounds_toArray, List.set_cons_zero, List.set_cons_succ]
        refine wpAnyH_take (i := 22) (v := _) (by simp; rfl) (by kernel_rfl) (by kernel_rfl) (by kernel_rfl) (fun _ _ _ h => h) (yields_slice_is (vx := .slice qb mb cb) (vl := none) (vh := some (.int .i64 (t.ims.length : Int))) (vm := none) (by rfl) 26 rfl rfl rfl rfl rfl (fun w => run_to w qb mb cb t.ims.length HCB.out)) hHeld ?_
        simp only [Act.put, List.setIfInBounds_toArray, List.set_cons_zero, List.set_cons_succ]
        refine wpAnyH_take (i := 23) (v := _) (by simp; rfl) (by kernel_rfl) (by kernel_rfl) (by kernel_rfl) (fun _ _ _ h => h) (R.yields_build_is (vs := [(0, .int .u64 t.p), (1, .slice qb t.ims.length cb)]) (by rfl) 33 rfl (by rfl) (fun w => buildT w t.p qb t.ims.length cb)) hHeld ?_
        simp only [Act.put, List.setIfInBounds_toArray, List.set_cons_zero, List.set_cons_succ]
        refine wpAnyH_ready (rs := [24]) (by kernel_rfl) (by simp) ?_
        refine AllReadyH.cons (by simp; rfl) (fun Kc hKc => ?_) AllReadyH.nil
        refine sq_slice (u := .agg #[.int .u64 t.p, .slice qb t.ims.length cb]) (by rfl) 24 rfl rfl (build_tx yb t.p qb t.ims.length cb) ?_
        refine hKc.out _ _ (below_then (below_then BW.out Gb.out) (below_alloc yb _)) (fun hHeld => ?_)
        clear hKc Kc
        simp only [Act.put, List.setIfInBounds_toArray, List.set_cons_zero, List.set_cons_succ]
        refine wpAnyH_ready (rs := [25]) (by kernel_rfl) (by simp) ?_
        refine AllReadyH.cons (by simp; rfl) (fun Kc hKc => ?_) AllReadyH.nil
        obtain ⟨q4, m4, c4, V4, hr4, x4, b4⟩ := XSp.app (XS.out.later Gb.out) (Nat.le_trans BW1.out.size Gb.out.size) (by rw [hlk]; omega) HTW.out.p HTW.out.ims (own_at (by have := Rb.out; rw [List.nil_append] at this; exact this) (fun g hg => Nat.le_trans BW1.out.size (Rb.out.lt g hg).1) rfl)
        refine sq_append (u1 := .slice qv mv cv) (u2 := .slice (some ⟨yb.heap.size, 0, none⟩) 1 1) (by rfl) rfl rfl rfl rfl hr4 ?_
        have B4 : Hid (Below w1.heap.size w1 V4) := (below_then BW1.out Gb.out).trans b4
        have X4 : Hid (∃ vs, XSp V4 w1.heap.size (.slice q4 m4 c4) (txs.take (k + 1)) vs) := by rw [HTK.out]; exact ⟨_, x4⟩
        refine hKc.out _ _ (below_then B1.out B4.out) (fun hHeld => ?_)
        clear hr4 x4 b4
        clear hKc Kc
        simp only [Act.put, List.setIfInBounds_toArray, List.set_cons_zero, List.set_cons_succ]
        refine wpAnyH_take (i := 26) (v := ?va20) (by simp; rfl) (by kernel_rfl) (by kernel_rfl) (by kernel_rfl) (fun _ _ _ h => h) (Or.inl ⟨by rfl, ?ya20⟩) hHeld ?ra20
        case ya20 => intro w hSw; clear hSw; go_simp; with_reducible rfl
        simp only [Act.put, List.setIfInBounds_toArray, List.set_cons_zero, List.set_cons_succ]
        clear hHeld
        refine wpAnyH_done (by kernel_rfl) (NoPanic.normal ?_) _
        go_wp2_with fail
        go_roundw
        case rel => exact ⟨k + 1, by omega, by go_num, q4, m4, c4, rfl, X4.out.choose, X4.out.choose_spec, B4.out⟩
        case measure => simp [intOf]; omega
    · obtain rfl : n = k := by omega
      obtain ⟨vs, xs0, bw0⟩ := HI.out
      rw [← hlen, List.take_length] at xs0
      obtain ⟨pi, ci, ei, x5⟩ := XSp.in xs0
      cases ei
      have hnl : ¬ (n : Int) < (n : Int) := by omega
      have X5 : Hid (XIn5 wv qv txs.length txs) := x5
      have BR : Hid (Below w.heap.size w wv) := below_then B1.out bw0
      clear HI xs0 bw0 x5
      rw [hlen] at X5
      rw [hlen]
      go_wp2_with fail
      refine (refNewest_any p n c txs wv (HX.out.later BR.out) (by omega) (by have := HF.out; omega)).mono ?_
      rintro e w2 ⟨pw, dw, rfl, mw, b2⟩
      obtain ⟨F, hF⟩ : ∃ F, F = nwS (flat txs) := ⟨_, rfl⟩
      have HFW : Hid (ImsWf F) := by rw [hF]; exact nwS_wf (flat_wf HW.out)
      have hFl : F.length ≤ 1200000 := by rw [hF]; exact Nat.le_trans (nwS_len _) HF.out
      obtain ⟨N, hN⟩ : ∃ N, N = F.length := ⟨_, rfl⟩
      rw [← hF, ← hN] at mw
      rw [← hF, ← hN]
      have HF0 : Hid (F = nwS (flat txs)) := hF
      have HN0 : Hid (N = F.length) := hN
      have hN2 : N ≤ 1200000 := by omega
      clear hF hN hFl
      have X6 : Hid (XIn5 w2 qv n txs) := X5.out.later b2
      have B2 : Hid (Below w.heap.size w w2) := below_then BR.out b2
      have MW : Hid (MIn w2 pw N F) := mw
      clear b2 mw X5 BR
      go_wp2_with fail
      refine (newest_any qv n cv txs w2 X6.out.xin HW.out (by omega) (by have := HF.out; omega)).mono ?_
      rintro e w3 ⟨va, rfl, oa, b3⟩
      rw [← HF0.out] at oa
      obtain ⟨pa, ca, rfl, ma, -, -⟩ := IOwn.in oa HFW.out
      rw [← HN0.out] at oa ma ⊢
      have OA : Hid (IOwn w3 w2.heap.size (.slice pa N ca) F ∧ MIn w3 pa N F ∧ Below w2.heap.size w2 w3) := ⟨oa, ma, b3⟩
      clear oa ma
      go_wp2_with fail
      refine (newest_any qv n cv txs w3 (X6.out.later b3).xin HW.out (by omega) (by have := HF.out; omega)).mono ?_
      rintro e w4 ⟨vb, rfl, ob, b4⟩
      rw [← HF0.out] at ob
      obtain ⟨pb, cb, rfl, mb, -, -⟩ := IOwn.in ob HFW.out
      rw [← HN0.out] at ob mb ⊢
      have AB4 : Hid (AB w2 w4 (.slice pa N ca) (.slice pb N cb) N F F) :=
        ⟨HN0.out.symm, HFW.out, OA.out.1.later b4, own_at ob (fun g hg => Nat.le_trans b3.size (ob.lt g hg).1) rfl, below_then b3 b4, fun g hg hg' => by have := (OA.out.1.lt g hg).2; have := (ob.lt g hg').1; omega⟩
      have MA : Hid (MIn w4 pa N F) := OA.out.2.1.later b4
      have MB : Hid (MIn w4 pb N F) := mb
      clear b3 b4 ob mb OA
      clear HF0 HN0
      go_wp2_with fail
      refine (sameImages_eq pa pw N ca dw F w4 MA.out (MW.out.later AB4.out.low) (by omega)).mono ?_
      rintro e w5 ⟨rfl, b5⟩
      have AB5 : Hid (AB w2 w5 (.slice pa N ca) (.slice pb N cb) N F F) := AB4.out.later b5
      have MB5 : Hid (MIn w5 pb N F) := MB.out.later b5
      clear b5 AB4 MA MB
      go_wp2_with fail
      refine (sameImages_eq pb pw N cb dw F w5 MB5.out (MW.out.later AB5.out.low) (by omega)).mono ?_
      rintro e w6 ⟨rfl, b6⟩
      have AB6 : Hid (∃ la, AB w2 w6 (.slice pa N ca) (.slice pb N cb) N la F) := ⟨F, AB5.out.later b6⟩
      clear b6 AB5 MB5
      go_wp2_with fail
      go_loopw [64] (fun i wr => ∃ k : Nat, k ≤ N ∧ i = .int .i64 k ∧ Hid (∃ la, AB w2 wr (.slice pa N ca) (.slice pb N cb) N la F)) (fun i _ => N - (intOf i).toNat)
      case atStart => exact ⟨0, Nat.zero_le _, rfl, AB6.out⟩
      case round =>
        obtain ⟨k, hk, rfl, HJ⟩ := hrel
        clear AB6
        by_cases hlt : k < N
        · obtain ⟨la, ab⟩ := HJ.out
          obtain ⟨ga, ca', hpa, -, -⟩ := ab.a.form (by rw [ab.len]; omega)
          rw [ab.len] at hpa
          cases hpa
          obtain ⟨W', la', hst, ab'⟩ := ab.put ⟨77, zs 32⟩ ⟨by unfold i64; constructor <;> decide, zs_len 32, zs_bytes 32⟩ k hlt
          have T17 : Hid (_) := hst
          have U17 : Hid (_) := buildIb wr 77
          have AB7 : Hid (∃ la, AB w2 W' (.slice (some ⟨ga, 0, none⟩) N ca) (.slice pb N cb) N la F) := ⟨la', ab'⟩
          have i1 : (k : Int) < (N : Int) := by omega
          have i0 : (0 : Int) ≤ (k : Int) := by omega
          clear HJ ab hst ab'
          go_wp2_with ((with_reducible refine at_ops ?_); (first | (refine wpList_build_is (vs := [(0, .int .i64 77)]) (by rfl) 32 rfl (by rfl) U17.out ?_; simp only [Act.put, List.setIfInBounds_toArray, List.set_cons_zero, List.set_cons_succ]) | (refine wpList_store_is (by rfl) 32 rfl rfl rfl T17.out ?_; simp only [Act.put])))
          clear T17 U17
          go_wp2_with fail
          go_roundw
          case rel => exact ⟨k + 1, by omega, by go_num, AB7.out⟩
          case measure => simp [intOf]; omega
        · have hnk : ¬ (k : Int) < (N : Int) := by omega
          have AX0 : Hid (∃ lx, ABX w2 wr (.slice pa N ca) (.slice pb N cb) (.slice pa N ca) N 0 lx F) := by
            obtain ⟨la, ab⟩ := HJ.out
            exact ⟨la, ab.grow⟩
          clear HJ
          go_wp2_with fail
          go_loopw [9, 10] (fun v i wr => ∃ k : Nat, k ≤ 16 ∧ i = .int .i64 k ∧ ∃ qx mx cx, v = .slice qx mx cx ∧ Hid (∃ lx, ABX w2 wr (.slice pa N ca) (.slice pb N cb) (.slice qx mx cx) N k lx F)) (fun _ i _ => 16 - (intOf i).toNat)
          case atStart => exact ⟨0, Nat.zero_le _, rfl, pa, N, ca, rfl, AX0.out⟩
          case round =>
            obtain ⟨k, hk, rfl, qx, mx, cx, rfl, HJ⟩ := hrel
            clear AX0
            by_cases hlt : k < 16
            · obtain ⟨lx, ab⟩ := HJ.out
              obtain ⟨q9, m9, c9, W9, hr9, ab9⟩ := ab.step ⟨78, zs 32⟩ ⟨by unfold i64; constructor <;> decide, zs_len 32, zs_bytes 32⟩ (by omega)
              have U23 : Hid (_) := buildIb wr 78
              have V23 : Hid (_) := build_im wr ⟨78, zs 32⟩ (zs_len 32)
              have A23 : Hid (_) := hr9
              have AX9 : Hid (∃ lx, ABX w2 W9 (.slice pa N ca) (.slice pb N cb) (.slice q9 m9 c9) N (k + 1) lx F) := ⟨_, ab9⟩
              clear HJ ab hr9 ab9
              go_wp2_with ((with_reducible refine at_ops ?_); (first | (refine wpList_build_is (vs := [(0, .int .i64 78)]) (by rfl) 32 rfl (by rfl) U23.out ?_) | (refine wpList_slice_is (u := .agg (icells ⟨78, zs 32⟩).toArray) (by rfl) 26 rfl rfl V23.out ?_) | (refine wpList_append_is (u1 := .slice qx mx cx) (u2 := .slice (some ⟨wr.heap.size, 0, none⟩) 1 1) (by rfl) rfl rfl rfl rfl A23.out ?_)); simp only [Act.put, List.setIfInBounds_toArray, List.set_cons_zero, List.set_cons_succ])
              clear U23 V23 A23
              go_wp2_with fail
              go_roundw
              case rel => exact ⟨k + 1, by omega, by go_num, q9, m9, c9, rfl, AX9.out⟩
              case measure => simp [intOf]; omega
            · obtain ⟨v24, W24, A24, B24, O24⟩ : ∃ v24 W24, Hid ((Builtin.append_ #[26, 3] 26 #[.slice pa N ca, .int .i64 60]).run Tryd.prog wr = .ok v24 W24) ∧ Hid (Below w2.heap.size w2 W24) ∧ Hid (IOwn W24 w2.heap.size (.slice pb N cb) F) := by
                obtain ⟨lx, ab⟩ := HJ.out
                obtain ⟨la, h1, h2⟩ := ab.fin
                obtain ⟨v', W', h3, h4⟩ := app_zeros h2 (by omega) 60 (by omega) (by omega)
                exact ⟨v', W', h3, ab.low.grown h4 ab.low.size (fun j ej => (h2.lt j ej).1), ab.b.kept h4 (ne_row ab.nea rfl)⟩
              have MB24 : Hid (MIn W24 pb N F) := by
                obtain ⟨a1, a2, a3, a4, -, -⟩ := IOwn.in O24.out HFW.out
                cases a3
                exact a4
              have X24 : Hid (XIn5 W24 qv n txs) := X6.out.later B24.out
              have MW24 : Hid (MIn W24 pw N F) := MW.out.later B24.out
              have BV24 : Hid (Below w.heap.size w W24) := below_then B2.out B24.out
              clear HJ O24 B24 X6 MW B2
              go_wp2_with ((with_reducible refine at_ops ?_); (refine wpList_appendz_is (u1 := .slice pa N ca) (u2 := .int .i64 60) (by rfl) rfl rfl rfl rfl A24.out ?_); simp only [Act.put, List.setIfInBounds_toArray, List.set_cons_zero, List.set_cons_succ])
              clear A24
              go_loopw [85] (fun i wr => ∃ k : Nat, k ≤ n ∧ i = .int .i64 k ∧ Hid (Below W24.heap.size W24 wr)) (fun i _ => n - (intOf i).toNat)
              case atStart => exact ⟨0, Nat.zero_le _, rfl, Below.refl _ _⟩
              case round =>
                obtain ⟨k, hk, rfl, Br⟩ := hrel
                obtain ⟨wv, hwv⟩ : ∃ wv, wv = wr := ⟨_, rfl⟩
                subst hwv
                by_cases hlt : k < n
                · obtain ⟨t, htk⟩ : ∃ t, txs[k]? = some t := ⟨_, List.getElem?_eq_getElem (by omega)⟩
                  obtain ⟨g, o, rfl, hcell⟩ := HX.out.cells (by omega)
                  obtain ⟨q2, c2, e0, e1, mi, -, -⟩ := hcell k t htk
                  have HC : Hid (∀ W, Below w.heap.size w W → W.cell? ⟨g, o + k * 2, none⟩ = some (.int .u64 t.p) ∧ W.cell? ⟨g, o + k * 2 + 1, none⟩ = some (.slice q2 t.ims.length c2) ∧ MIn W q2 t.ims.length t.ims) := fun W hW =>
                    ⟨(hW.cell (p := ⟨g, o + k * 2, none⟩) (World.block_lt_of_cell? w _ e0)).trans e0, (hW.cell (p := ⟨g, o + k * 2 + 1, none⟩) (World.block_lt_of_cell? w _ e1)).trans e1, mi.later hW⟩
                  have BV : Hid (Below w.heap.size w wv) := below_then BV24.out Br.out
                  have x5 := X24.out.later Br.out
                  obtain ⟨gv, ov, rfl, hcell5⟩ := x5.cells (by omega)
                  obtain ⟨q5, c5, f0, f1, mi5, hc5, -⟩ := hcell5 k t htk
                  obtain ⟨b5, o5, rfl, -⟩ := mi5.cells (by omega)
                  have htl : t.ims.length ≤ 1200000 := by have := flat_bd htk t.ims.length; rw [List.take_length] at this; have := HF.out; omega
                  have hl5 : (t.ims ++ [im5])[t.ims.length]? = some im5 := by rw [List.getElem?_append_right (Nat.le_refl _), Nat.sub_self]; rfl
                  have HI5 : Hid (∀ W, Below wv.heap.size wv W → W.cell? ⟨gv, ov + k * 2, none⟩ = some (.int .u64 t.p) ∧ W.cell? ⟨gv, ov + k * 2 + 1, none⟩ = some (.slice (some ⟨b5, o5, none⟩) t.ims.length c5) ∧ MIn W (some ⟨b5, o5, none⟩) t.ims.length t.ims ∧ W.cell? ⟨b5, o5 + t.ims.length * 33, none⟩ = some (.int .i64 (-5))) := fun W hW => by
                    have m := mi5.later hW
                    have m' := m.take t.ims.length (by omega)
                    rw [List.take_append_of_le_length (Nat.le_refl _), List.take_length] at m'
                    exact ⟨(hW.cell (p := ⟨gv, ov + k * 2, none⟩) (World.block_lt_of_cell? wv _ f0)).trans f0, (hW.cell (p := ⟨gv, ov + k * 2 + 1, none⟩) (World.block_lt_of_cell? wv _ f1)).trans f1, m', m.c0 hl5⟩
                  have HC5 : Hid (t.ims.length + 1 ≤ c5) := hc5
                  have i1 : (k : Int) < (n : Int) := by omega
                  have i0 : (0 : Int) ≤ (k : Int) := by omega
                  have e1' : (t.p != t.p) = false := by simp
                  have hwr : IntKind.i64.wrap ((t.ims.length : Int) + 1) = (t.ims.length : Int) + 1 := by rw [IntKind.wrap_i64]; omega
                  have j1 : (t.ims.length : Int) < (t.ims.length : Int) + 1 := by omega
                  clear e0 e1 mi hcell hcell5 f0 f1 mi5 hc5 x5 hl5
                  go_wp2_with fail
                  refine wp_region_noPanic ?_
                  refine wp_region_held_drew (S := fun w' => Below wv.heap.size wv w') (by kernel_rfl) (below_drawn 1) (fun hHeld => ?_)
                  have D2 : Hid (Below wv.heap.size wv wv.drew) := hHeld
                  generalize wv.drew = wd at *
                  refine wpAnyH_take (i := 0) (v := ?vaq21) (by simp; rfl) (by kernel_rfl) (by kernel_rfl) (by kernel_rfl) (fun _ _ _ h => h) (Or.inl ⟨by rfl, ?yaq21⟩) hHeld ?raq21
                  case yaq21 => intro w hSw; clear hSw; go_simp; with_reducible rfl
                  simp only [Act.put, List.setIfInBounds_toArray, List.set_cons_zero, List.set_cons_succ]
                  refine wpAnyH_take (i := 1) (v := ?vaq22) (by simp; rfl) (by kernel_rfl) (by kernel_rfl) (by kernel_rfl) (fun _ _ _ h => h) (Or.inl ⟨by rfl, ?yaq22⟩) hHeld ?raq22
                  case yaq22 => intro w hSw; clear hSw; go_simp; with_reducible rfl
                  simp only [Act.put, List.setIfInBounds_toArray, List.set_cons_zero, List.set_cons_succ]
                  refine wpAnyH_take (i := 2) (v := ?vaq23) (by simp; rfl) (by kernel_rfl) (by kernel_rfl) (by kernel_rfl) (fun _ _ _ h => h) (Or.inl ⟨by rfl, ?yaq23⟩) hHeld ?raq23
                  case yaq23 => intro w hSw; clear hSw; go_simp; with_reducible rfl
                  simp only [Act.put, List.setIfInBounds_toArray, List.set_cons_zero, List.set_cons_succ]
                  refine wpAnyH_take (i := 3) (v := ?vaq24) (by simp; rfl) (by kernel_rfl) (by kernel_rfl) (by kernel_rfl) (fun _ _ _ h => h) (Or.inl ⟨by rfl, ?yaq24⟩) hHeld ?raq24
                  case yaq24 => intro w hSw; clear hSw; go_simp; with_reducible rfl
                  simp only [Act.put, List.setIfInBounds_toArray, List.set_cons_zero, List.set_cons_succ]
                  refine wpAnyH_take (i := 4) (v := ?vaq25) (by simp; rfl) (by kernel_rfl) (by kernel_rfl) (by kernel_rfl) (fun _ _ _ h => h) (Or.inl ⟨by rfl, ?yaq25⟩) hHeld ?raq25
                  case yaq25 => intro w hSw; have z := (HI5.out _ hSw).1; clear hSw; go_simp; with_reducible rfl
                  simp only [Act.put, List.setIfInBounds_toArray, List.set_cons_zero, List.set_cons_succ]
                  refine wpAnyH_take (i := 5) (v := ?vaq26) (by simp; rfl) (by kernel_rfl) (by kernel_rfl) (by kernel_rfl) (fun _ _ _ h => h) (Or.inl ⟨by rfl, ?yaq26⟩) hHeld ?raq26
                  case yaq26 => intro w hSw; clear hSw; go_simp; with_reducible rfl
                  simp only [Act.put, List.setIfInBounds_toArray, List.set_cons_zero, List.set_cons_succ]
                  refine wpAnyH_take (i := 6) (v := ?vaq27) (by simp; rfl) (by kernel_rfl) (by kernel_rfl) (by kernel_rfl) (fun _ _ _ h => h) (Or.inl ⟨by rfl, ?yaq27⟩) hHeld ?raq27
                  case yaq27 => intro w hSw; clear hSw; go_simp; with_reducible rfl
                  simp only [Act.put, List.setIfInBounds_toArray, List.set_cons_zero, List.set_cons_succ]
                  refine wpAnyH_take (i := 7) (v := ?vaq28) (by simp; rfl) (by kernel_rfl) (by kernel_rfl) (by kernel_rfl) (fun _ _ _ h => h) (Or.inl ⟨by rfl, ?yaq28⟩) hHeld ?raq28
                  case yaq28 => intro w hSw; clear hSw; go_simp; with_reducible rfl
                  simp only [Act.put, List.setIfInBounds_toArray, List.set_cons_zero, List.set_cons_succ]
                  refine wpAnyH_take (i := 8) (v := ?vaq29) (by simp; rfl) (by kernel_rfl) (by kernel_rfl) (by kernel_rfl) (fun _ _ _ h => h) (Or.inl ⟨by rfl, ?yaq29⟩) hHeld ?raq29
                  case yaq29 => intro w hSw; clear hSw; go_simp; with_reducible rfl
                  simp only [Act.put, List.setIfInBounds_toArray, List.set_cons_zero, List.set_cons_succ]
                  refine wpAnyH_take (i := 9) (v := ?vaq30) (by simp; rfl) (by kernel_rfl) (by kernel_rfl) (by kernel_rfl) (fun _ _ _ h => h) (Or.inl ⟨by rfl, ?yaq30⟩) hHeld ?raq30
                  case yaq30 => intro w hSw; have z := (HC.out _ (below_then BV.out hSw)).1; clear hSw; go_simp; with_reducible rfl
                  simp only [Act.put, List.setIfInBounds_toArray, List.set_cons_zero, List.set_cons_succ]
                  refine wpAnyH_take (i := 10) (v := ?vaq31) (by simp; rfl) (by kernel_rfl) (by kernel_rfl) (by kernel_rfl) (fun _ _ _ h => h) (Or.inl ⟨by rfl, ?yaq31⟩) hHeld ?raq31
                  case yaq31 => intro w hSw; clear hSw; go_simp; with_reducible rfl
                  simp only [Act.put, List.setIfInBounds_toArray, List.set_cons_zero, List.set_cons_succ]
                  refine wpAnyH_take (i := 11) (v := ?vaq32) (by simp; rfl) (by kernel_rfl) (by kernel_rfl) (by kernel_rfl) (fun _ _ _ h => h) (Or.inl ⟨by rfl, ?yaq32⟩) hHeld ?raq32
                  case yaq32 => intro w hSw; clear hSw; go_simp; with_reducible rfl
                  simp only [Act.put, List.setIfInBounds_toArray, List.set_cons_zero, List.set_cons_succ]
                  refine wpAnyH_take (i := 12) (v := ?vaq33) (by simp; rfl) (by kernel_rfl) (by kernel_rfl) (by kernel_rfl) (fun _ _ _ h => h) (Or.inl ⟨by rfl, ?yaq33⟩) hHeld ?raq33
                  case yaq33 => intro w hSw; clear hSw; go_simp; with_reducible rfl
                  simp only [Act.put, List.setIfInBounds_toArray, List.set_cons_zero, List.set_cons_succ]
                  refine wpAnyH_take (i := 13) (v := ?vaq34) (by simp; rfl) (by kernel_rfl) (by kernel_rfl) (by kernel_rfl) (fun _ _ _ h => h) (Or.inl ⟨by rfl, ?yaq34⟩) hHeld ?raq34
                  case yaq34 => intro w hSw; clear hSw; go_simp; with_reducible rfl
                  simp only [Act.put, List.setIfInBounds_toArray, List.set_cons_zero, List.set_cons_succ]
                  refine wpAnyH_take (i := 14) (v := ?vaq35) (by simp; rfl) (by kernel_rfl) (by kernel_rfl) (by kernel_rfl) (fun _ _ _ h => h) (Or.inl ⟨by rfl, ?yaq35⟩) hHeld ?raq35
                  case yaq35 => intro w hSw; clear hSw; go_simp; with_reducible rfl
                  simp only [Act.put, List.setIfInBounds_toArray, List.set_cons_zero, List.set_cons_succ]
                  refine wpAnyH_take (i := 15) (v := ?vaq36) (by simp; rfl) (by kernel_rfl) (by kernel_rfl) (by kernel_rfl) (fun _ _ _ h => h) (Or.inl ⟨by rfl, ?yaq36⟩) hHeld ?raq36
                  case yaq36 => intro w hSw; clear hSw; go_simp; with_reducible rfl
                  simp only [Act.put, List.setIfInBounds_toArray, List.set_cons_zero, List.set_cons_succ]
                  refine wpAnyH_take (i := 16) (v := ?vaq37) (by simp; rfl) (by kernel_rfl) (by kernel_rfl) (by kernel_rfl) (fun _ _ _ h => h) (Or.inl ⟨by rfl, ?yaq37⟩) hHeld ?raq37
                  case yaq37 => intro w hSw; have z := (HI5.out _ hSw).2.1; clear hSw; go_simp; with_reducible rfl
                  simp only [Act.put, List.setIfInBounds_toArray, List.set_cons_zero, List.set_cons_succ]
                  refine wpAnyH_take (i := 17) (v := ?vaq38) (by simp; rfl) (by kernel_rfl) (by kernel_rfl) (by kernel_rfl) (fun _ _ _ h => h) (Or.inl ⟨by rfl, ?yaq38⟩) hHeld ?raq38
                  case yaq38 => intro w hSw; clear hSw; go_simp; with_reducible rfl
                  simp only [Act.put, List.setIfInBounds_toArray, List.set_cons_zero, List.set_cons_succ]
                  refine wpAnyH_take (i := 18) (v := ?vaq39) (by simp; rfl) (by kernel_rfl) (by kernel_rfl) (by kernel_rfl) (fun _ _ _ h => h) (Or.inl ⟨by rfl, ?yaq39⟩) hHeld ?raq39
                  case yaq39 => intro w hSw; clear hSw; go_simp; with_reducible rfl
                  simp only [Act.put, List.setIfInBounds_toArray, List.set_cons_zero, List.set_cons_succ]
                  refine wpAnyH_take (i := 19) (v := ?vaq40) (by simp; rfl) (by kernel_rfl) (by kernel_rfl) (by kernel_rfl) (fun _ _ _ h => h) (Or.inl ⟨by rfl, ?yaq40⟩) hHeld ?raq40
                  case yaq40 => intro w hSw; clear hSw; go_simp; with_reducible rfl
                  simp only [Act.put, List.setIfInBounds_toArray, List.set_cons_zero, List.set_cons_succ]
                  refine wpAnyH_take (i := 20) (v := ?vaq41) (by simp; rfl) (by kernel_rfl) (by kernel_rfl) (by kernel_rfl) (fun _ _ _ h => h) (Or.inl ⟨by rfl, ?yaq41⟩) hHeld ?raq41
                  case yaq41 => intro w hSw; clear hSw; go_simp; with_reducible rfl
                  simp only [Act.put, List.setIfInBounds_toArray, List.set_cons_zero, List.set_cons_succ]
                  refine wpAnyH_take (i := 21) (v := ?vaq42) (by simp; rfl) (by kernel_rfl) (by kernel_rfl) (by kernel_rfl) (fun _ _ _ h => h) (Or.inl ⟨by rfl, ?yaq42⟩) hHeld ?raq42
                  case yaq42 => intro w hSw; have z := (HC.out _ (below_then BV.out hSw)).2.1; clear hSw; go_simp; with_reducible rfl
                  simp only [Act.put, List.setIfInBounds_toArray, List.set_cons_zero, List.set_cons_succ]
                  refine wpAnyH_ready (rs := [22]) (by kernel_rfl) (by simp) ?_
                  refine AllReadyH.cons (by simp; rfl) (fun Kc hKc => ?_) AllReadyH.nil
                  go_simp
                  refine (sameImages_eq (some ⟨b5, o5, none⟩) q2 t.ims.length c5 c2 t.ims _ (HI5.out _ D2.out).2.2.1 (HC.out _ (below_then BV.out D2.out)).2.2 (by omega)).mono ?_
                  rintro e wq ⟨rfl, bq⟩
                  have D4 : Hid (Below wv.heap.size wv wq) := below_then D2.out bq
                  refine hKc.out _ _ D4.out (fun hHeld => ?_)
                  clear hKc Kc bq
                  refine wpAnyH_take (i := 23) (v := ?vaq43) (by simp; rfl) (by kernel_rfl) (by kernel_rfl) (by kernel_rfl) (fun _ _ _ h => h) (Or.inl ⟨by rfl, ?yaq43⟩) hHeld ?raq43
                  case yaq43 => intro w hSw; clear hSw; go_simp; with_reducible rfl
                  simp only [Act.put, List.setIfInBounds_toArray, List.set_cons_zero, List.set_cons_succ]
                  refine wpAnyH_take (i := 24) (v := ?vaq44) (by simp; rfl) (by kernel_rfl) (by kernel_rfl) (by kernel_rfl) (fun _ _ _ h => h) (Or.inl ⟨by rfl, ?yaq44⟩) hHeld ?raq44
                  case yaq44 => intro w hSw; clear hSw; go_simp; with_reducible rfl
                  simp only [Act.put, List.setIfInBounds_toArray, List.set_cons_zero, List.set_cons_succ]
                  refine wpAnyH_take (i := 25) (v := ?vaq45) (by simp; rfl) (by kernel_rfl) (by kernel_rfl) (by kernel_rfl) (fun _ _ _ h => h) (Or.inl ⟨by rfl, ?yaq45⟩) hHeld ?raq45
                  case yaq45 => intro w hSw; clear hSw; go_simp; with_reducible rfl
                  simp only [Act.put, List.setIfInBounds_toArray, List.set_cons_zero, List.set_cons_succ]
                  refine wpAnyH_take (i := 26) (v := ?vaq46) (by simp; rfl) (by kernel_rfl) (by kernel_rfl) (by kernel_rfl) (fun _ _ _ h => h) (Or.inl ⟨by rfl, ?yaq46⟩) hHeld ?raq46
                  case yaq46 => intro w hSw; clear hSw; go_simp; with_reducible rfl
                  simp only [Act.put, List.setIfInBounds_toArray, List.set_cons_zero, List.set_cons_succ]
                  refine wpAnyH_take (i := 27) (v := ?vaq47) (by simp; rfl) (by kernel_rfl) (by kernel_rfl) (by kernel_rfl) (fun _ _ _ h => h) (Or.inl ⟨by rfl, ?yaq47⟩) hHeld ?raq47
                  case yaq47 => intro w hSw; clear hSw; go_simp; with_reducible rfl
                  simp only [Act.put, List.setIfInBounds_toArray, List.set_cons_zero, List.set_cons_succ]
                  refine wpAnyH_take (i := 28) (v := ?vaq48) (by simp; rfl) (by kernel_rfl) (by kernel_rfl) (by kernel_rfl) (fun _ _ _ h => h) (Or.inl ⟨by rfl, ?yaq48⟩) hHeld ?raq48
                  case yaq48 => intro w hSw; clear hSw; go_simp; with_reducible rfl
                  simp only [Act.put, List.setIfInBounds_toArray, List.set_cons_zero, List.set_cons_succ]
                  refine wpAnyH_take (i := 29) (v := ?vaq49) (by simp; rfl) (by kernel_rfl) (by kernel_rfl) (by kernel_rfl) (fun _ _ _ h => h) (Or.inl ⟨by rfl, ?yaq49⟩) hHeld ?raq49
                  case yaq49 => intro w hSw; clear hSw; go_simp; with_reducible rfl
                  simp only [Act.put, List.setIfInBounds_toArray, List.set_cons_zero, List.set_cons_succ]
                  refine wpAnyH_take (i := 30) (v := ?vaq50) (by simp; rfl) (by kernel_rfl) (by kernel_rfl) (by kernel_rfl) (fun _ _ _ h => h) (Or.inl ⟨by rfl, ?yaq50⟩) hHeld ?raq50
                  case yaq50 => intro w hSw; have z := (HI5.out _ hSw).2.1; clear hSw; go_simp; with_reducible rfl
                  simp only [Act.put, List.setIfInBounds_toArray, List.set_cons_zero, List.set_cons_succ]
                  refine wpAnyH_take (i := 31) (v := ?vaq51) (by simp; rfl) (by kernel_rfl) (by kernel_rfl) (by kernel_rfl) (fun _ _ _ h => h) (Or.inl ⟨by rfl, ?yaq51⟩) hHeld ?raq51
                  case yaq51 => intro w hSw; clear hSw; go_simp; with_reducible rfl
                  simp only [Act.put, List.setIfInBounds_toArray, List.set_cons_zero, List.set_cons_succ]
                  refine wpAnyH_take (i := 32) (v := ?vaq52) (by simp; rfl) (by kernel_rfl) (by kernel_rfl) (by kernel_rfl) (fun _ _ _ h => h) (Or.inl ⟨by rfl, ?yaq52⟩) hHeld ?raq52
                  case yaq52 => intro w hSw; clear hSw; go_simp; with_reducible rfl
                  simp only [Act.put, List.setIfInBounds_toArray, List.set_cons_zero, List.set_cons_succ]
                  refine wpAnyH_take (i := 33) (v := ?vaq53) (by simp; rfl) (by kernel_rfl) (by kernel_rfl) (by kernel_rfl) (fun _ _ _ h => h) (Or.inl ⟨by rfl, ?yaq53⟩) hHeld ?raq53
                  case yaq53 => intro w hSw; clear hSw; go_simp; with_reducible rfl
                  simp only [Act.put, List.setIfInBounds_toArray, List.set_cons_zero, List.set_cons_succ]
                  refine wpAnyH_take (i := 34) (v := ?vaq54) (by simp; rfl) (by kernel_rfl) (by kernel_rfl) (by kernel_rfl) (fun _ _ _ h => h) (Or.inl ⟨by rfl, ?yaq54⟩) hHeld ?raq54
                  case yaq54 => intro w hSw; clear hSw; go_simp; with_reducible rfl
                  simp only [Act.put, List.setIfInBounds_toArray, List.set_cons_zero, List.set_cons_succ]
                  refine wpAnyH_take (i := 35) (v := ?vaq55) (by simp; rfl) (by kernel_rfl) (by kernel_rfl) (by kernel_rfl) (fun _ _ _ h => h) (Or.inl ⟨by rfl, ?yaq55⟩) hHeld ?raq55
                  case yaq55 => intro w hSw; have z := (HC.out _ (below_then BV.out hSw)).2.1; clear hSw; go_simp; with_reducible rfl
                  simp only [Act.put, List.setIfInBounds_toArray, List.set_cons_zero, List.set_cons_succ]
                  refine wpAnyH_take (i := 36) (v := ?vaq56) (by simp; rfl) (by kernel_rfl) (by kernel_rfl) (by kernel_rfl) (fun _ _ _ h => h) (Or.inl ⟨by rfl, ?yaq56⟩) hHeld ?raq56
                  case yaq56 => intro w hSw; clear hSw; go_simp; with_reducible rfl
                  simp only [Act.put, List.setIfInBounds_toArray, List.set_cons_zero, List.set_cons_succ]
                  refine wpAnyH_take (i := 37) (v := ?vaq57) (by simp; rfl) (by kernel_rfl) (by kernel_rfl) (by kernel_rfl) (fun _ _ _ h => h) (Or.inl ⟨by rfl, ?yaq57⟩) hHeld ?raq57
                  case yaq57 => intro w hSw; clear hSw; go_simp; with_reducible rfl
                  simp only [Act.put, List.setIfInBounds_toArray, List.set_cons_zero, List.set_cons_succ]
                  refine wpAnyH_take (i := 38) (v := _) (by simp; rfl) (by kernel_rfl) (by kernel_rfl) (by kernel_rfl) (fun _ _ _ h => h) (yields_slice_is (vx := .slice (some ⟨b5, o5, none⟩) t.ims.length c5) (vl := none) (vh := some (.int .i64 ((t.ims.length : Int) + 1))) (vm := none) (by rfl) 26 rfl rfl rfl rfl rfl (fun w => run_to1 w (some ⟨b5, o5, none⟩) t.ims.length c5 t.ims.length HC5.out)) hHeld ?_
                  simp only [Act.put, List.setIfInBounds_toArray, List.set_cons_zero, List.set_cons_succ]
                  refine wpAnyH_take (i := 39) (v := ?vaq58) (by simp; rfl) (by kernel_rfl) (by kernel_rfl) (by kernel_rfl) (fun _ _ _ h => h) (Or.inl ⟨by rfl, ?yaq58⟩) hHeld ?raq58
                  case yaq58 => intro w hSw; clear hSw; go_simp; with_reducible rfl
                  simp only [Act.put, List.setIfInBounds_toArray, List.set_cons_zero, List.set_cons_succ]
                  refine wpAnyH_take (i := 40) (v := ?vaq59) (by simp; rfl) (by kernel_rfl) (by kernel_rfl) (by kernel_rfl) (fun _ _ _ h => h) (Or.inl ⟨by rfl, ?yaq59⟩) hHeld ?raq59
                  case yaq59 => intro w hSw; clear hSw; go_simp; with_reducible rfl
                  simp only [Act.put, List.setIfInBounds_toArray, List.set_cons_zero, List.set_cons_succ]
                  refine wpAnyH_take (i := 41) (v := ?vaq60) (by simp; rfl) (by kernel_rfl) (by kernel_rfl) (by kernel_rfl) (fun _ _ _ h => h) (Or.inl ⟨by rfl, ?yaq60⟩) hHeld ?raq60
                  case yaq60 => intro w hSw; clear hSw; go_simp; with_reducible rfl
                  simp only [Act.put, List.setIfInBounds_toArray, List.set_cons_zero, List.set_cons_succ]
                  refine wpAnyH_take (i := 42) (v := ?vaq61) (by simp; rfl) (by kernel_rfl) (by kernel_rfl) (by kernel_rfl) (fun _ _ _ h => h) (Or.inl ⟨by rfl, ?yaq61⟩) hHeld ?raq61
                  case yaq61 => intro w hSw; clear hSw; go_simp; with_reducible rfl
                  simp only [Act.put, List.setIfInBounds_toArray, List.set_cons_zero, List.set_cons_succ]
                  refine wpAnyH_take (i := 43) (v := ?vaq62) (by simp; rfl) (by kernel_rfl) (by kernel_rfl) (by kernel_rfl) (fun _ _ _ h => h) (Or.inl ⟨by rfl, ?yaq62⟩) hHeld ?raq62
                  case yaq62 => intro w hSw; have z := (HC.out _ (below_then BV.out hSw)).2.1; clear hSw; go_simp; with_reducible rfl
                  simp only [Act.put, List.setIfInBounds_toArray, List.set_cons_zero, List.set_cons_succ]
                  refine wpAnyH_take (i := 44) (v := ?vaq63) (by simp; rfl) (by kernel_rfl) (by kernel_rfl) (by kernel_rfl) (fun _ _ _ h => h) (Or.inl ⟨by rfl, ?yaq63⟩) hHeld ?raq63
                  case yaq63 => intro w hSw; clear hSw; go_simp; with_reducible rfl
                  simp only [Act.put, List.setIfInBounds_toArray, List.set_cons_zero, List.set_cons_succ]
                  refine wpAnyH_take (i := 45) (v := ?vaq64) (by simp; rfl) (by kernel_rfl) (by kernel_rfl) (by kernel_rfl) (fun _ _ _ h => h) (Or.inl ⟨by rfl, ?yaq64⟩) hHeld ?raq64
                  case yaq64 => intro w hSw; clear hSw; go_simp; with_reducible rfl
                  simp only [Act.put, List.setIfInBounds_toArray, List.set_cons_zero, List.set_cons_succ]
                  refine wpAnyH_take (i := 46) (v := ?vaq65) (by simp; rfl) (by kernel_rfl) (by kernel_rfl) (by kernel_rfl) (fun _ _ _ h => h) (Or.inl ⟨by rfl, ?yaq65⟩) hHeld ?raq65
                  case yaq65 => intro w hSw; clear hSw; go_simp; with_reducible rfl
                  simp only [Act.put, List.setIfInBounds_toArray, List.set_cons_zero, List.set_cons_succ]
                  refine wpAnyH_take (i := 47) (v := ?vaq66) (by simp; rfl) (by kernel_rfl) (by kernel_rfl) (by kernel_rfl) (fun _ _ _ h => h) (Or.inl ⟨by rfl, ?yaq66⟩) hHeld ?raq66
                  case yaq66 => intro w hSw; have z := (HI5.out _ hSw).2.2.2; clear hSw; go_simp; with_reducible rfl
                  simp only [Act.put, List.setIfInBounds_toArray, List.set_cons_zero, List.set_cons_succ]
                  refine wpAnyH_take (i := 48) (v := ?vaq67) (by simp; rfl) (by kernel_rfl) (by kernel_rfl) (by kernel_rfl) (fun _ _ _ h => h) (Or.inl ⟨by rfl, ?yaq67⟩) hHeld ?raq67
                  case yaq67 => intro w hSw; clear hSw; go_simp; with_reducible rfl
                  simp only [Act.put, List.setIfInBounds_toArray, List.set_cons_zero, List.set_cons_succ]
                  refine wpAnyH_take (i := 49) (v := ?vaq68) (by simp; rfl) (by kernel_rfl) (by kernel_rfl) (by kernel_rfl) (fun _ _ _ h => h) (Or.inl ⟨by rfl, ?yaq68⟩) hHeld ?raq68
                  case yaq68 => intro w hSw; clear hSw; go_simp; with_reducible rfl
                  simp only [Act.put, List.setIfInBounds_toArray, List.set_cons_zero, List.set_cons_succ]
                  clear hHeld
                  refine wpAnyH_done (by kernel_rfl) (NoPanic.normal ?_) _
                  have B3 : Hid (Below W24.heap.size W24 wq) := below_then Br.out D4.out
                  clear Br D2 D4 HI5 HC BV
                  go_wp2_with fail
                  go_roundw
                  case rel => exact ⟨k + 1, by omega, by go_num, B3.out⟩
                  case measure => simp [intOf]; omega
                · have hnk : ¬ (k : Int) < (n : Int) := by omega
                  go_wp2_with fail
                  refine (sameImages_eq pb pw N cb dw F wv (MB24.out.later Br.out) (MW24.out.later Br.out) (by omega)).mono ?_
                  rintro e wf ⟨rfl, bf⟩
                  have FF : Hid (Below w.heap.size w wf) := below_then (below_then BV24.out Br.out) bf
                  clear bf Br
                  go_wp2_with fail
                  go_ret
                  exact ⟨rfl, FF.out⟩
end Go.Proofs.YtefnkjajjidfaaaDoor
