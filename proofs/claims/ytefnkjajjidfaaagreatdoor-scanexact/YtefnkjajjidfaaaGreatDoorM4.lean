/-
  Layer 10: the document's with, in plain words; images appended and cut. Layer 10: transactions whose images have one cell more behind them; images written over, appended one by one, by zeros. Layer 10: full, disks. Layer 10: disks. Layer 10: unchanged. Layer 10: apart: lists of images by their colours. Layer 10: apart: rows of elements by their colours, whatever the elements are. Layer 10: apart: what stands while all lists of two logs are marked, grown and looked at.
-/
import Derived.Test.YtefnkjajjidfaaaGreatDoorM3
import Derived.Lib.AppendZerosOnto
import Derived.Test.YtefnkjajjidfaaaGreatDoorDLb
import Derived.Test.YtefnkjajjidfaaaGreatDoorM1
import Derived.Deep.RegionHeld3
namespace Go.Proofs.YtefnkjajjidfaaaGreatDoor
open Go.RowKit


/-- where an image would stand in a list that rises -/
def atW : List Im → Int → Nat
  | [], _ => 0
  | y :: l, b => if y.b < b then atW l b + 1 else 0
theorem atW_le : ∀ (l : List Im) (b : Int), atW l b ≤ l.length
  | [], _ => Nat.le_refl _
  | y :: l, b => by
    have := atW_le l b
    show (if _ then _ else _) ≤ _
    split <;> simp <;> omega
theorem atW_lt : ∀ (l : List Im) (b : Int) (j : Nat) (y : Im), j < atW l b → l[j]? = some y → y.b < b
  | [], b, j, y, h, _ => absurd h (Nat.not_lt_zero j)
  | z :: l, b, j, y, h, hy => by
    by_cases c : z.b < b
    · have h' : j < atW l b + 1 := by have := h; rw [show atW (z :: l) b = atW l b + 1 from if_pos c] at this; exact this
      cases j with
      | zero => cases hy; exact c
      | succ j => exact atW_lt l b j y (by omega) hy
    · rw [show atW (z :: l) b = 0 from if_neg c] at h; omega
theorem atW_no : ∀ (l : List Im) (b : Int) (y : Im), l[atW l b]? = some y → ¬ y.b < b
  | [], b, y, h => by cases h
  | z :: l, b, y, h => by
    by_cases c : z.b < b
    · rw [show atW (z :: l) b = atW l b + 1 from if_pos c] at h; exact atW_no l b y h
    · rw [show atW (z :: l) b = 0 from if_neg c] at h; cases h; exact c
theorem withS_old : ∀ (l : List Im) (x y : Im), l[atW l x.b]? = some y → y.b = x.b → withS l x = l
  | [], x, y, h, _ => by cases h
  | z :: l, x, y, h, e => by
    by_cases c : z.b < x.b
    · rw [show atW (z :: l) x.b = atW l x.b + 1 from if_pos c] at h
      rw [withS_lt l c, withS_old l x y h e]
    · rw [show atW (z :: l) x.b = 0 from if_neg c] at h; cases h; exact withS_eq l e
theorem withS_new : ∀ (l : List Im) (x : Im), (∀ y, l[atW l x.b]? = some y → y.b ≠ x.b) → withS l x = (([] ++ l.take (atW l x.b)) ++ [x]) ++ l.drop (atW l x.b)
  | [], x, _ => rfl
  | z :: l, x, h => by
    by_cases c : z.b < x.b
    · have e : atW (z :: l) x.b = atW l x.b + 1 := if_pos c
      have ih := withS_new l x (fun y hy => h y (by rw [e]; exact hy))
      rw [withS_lt l c, e, ih]; simp
    · have e : atW (z :: l) x.b = 0 := if_neg c
      have := h z (by rw [e]; rfl)
      rw [withS_gt l (by omega), e]; simp
theorem MIn.grown {w w' : World} {g n : Nat} {l : List Im} {row : Option Nat} (h : MIn w (some ⟨g, 0, none⟩) n l) (hg : w.grownBy w' row) (hne : row ≠ some g) : MIn w' (some ⟨g, 0, none⟩) n l := by
  refine ⟨h.len, h.wf, fun h0 => ?_⟩
  obtain ⟨b, o, e, hr⟩ := h.cells h0
  cases e
  exact ⟨g, 0, rfl, range_block hr (hg.block g (range_lt hr (by rw [IC_len h.wf, h.len]; omega)) fun e' => hne e'.symm)⟩
/-- from the place k on -/
def dropA (q : Option Addr) (k c : Nat) : Option Addr := if c = k then q else q.map (·.add (k * 33))
theorem MIn.drop {w : World} {q : Option Addr} {n : Nat} {l : List Im} (h : MIn w q n l) {k c : Nat} (hk : k ≤ n) (hc : n ≤ c) : MIn w (dropA q k c) (n - k) (l.drop k) := by
  refine ⟨by rw [List.length_drop, h.len], fun x hx => h.wf x (List.mem_of_mem_drop hx), fun h0 => ?_⟩
  obtain ⟨b, o, e, hr⟩ := h.cells (by omega)
  subst e
  refine ⟨b, o + k * 33, by unfold dropA; rw [if_neg (by omega), Option.map_some, Addr.add_mid], fun j v hv => ?_⟩
  have e2 : IC l = IC (l.take k) ++ IC (l.drop k) := by rw [← IC_append, List.take_append_drop]
  have el : (IC (l.take k)).length = k * 33 := by rw [IC_len fun x hx => h.wf x (List.mem_of_mem_take hx), List.length_take, h.len, Nat.min_eq_left hk]
  have := hr (k * 33 + j) v (by rw [e2, List.getElem?_append_right (by omega), el, Nat.add_sub_cancel_left]; exact hv)
  rw [Nat.add_assoc]; exact this
theorem run_to (w : World) (q : Option Addr) (n c k : Nat) (hk : k ≤ c) : (Instr.sliceAt 52 (.slice q n c) none (some (.int .i64 (k : Int))) none).run Tryz.prog w = .ok (.slice q k c) w := by
  obtain ⟨i0, hi, hz0, hz1, hz2⟩ := info_parts infoI
  have he : Program.elem Tryz.prog 52 = 57 := by kernel_rfl
  have hu : Tryz.prog.underlying 52 = some (.slice (Program.elem Tryz.prog 52)) := by rw [he]; exact Tryz.underlying52
  rw [run_sliceAt_slice w 52 _ _ _ _ hu, run_slice_h w 52 q n c hu .i64 (k : Int) (by omega) (by omega)]
  have e : (sizeOf (Program.elem Tryz.prog 52)).run Tryz.prog w = .ok 33 w := by
    rw [he]
    simp [sizeOf, typeInfo, hi, hz1]
  rw [e]
  simp only [Result.andThen_ok, sliced, Int.toNat_natCast, Nat.zero_mul, Nat.sub_zero]
  cases q with
  | none => simp
  | some a => simp [Addr.add]
theorem run_from (w : World) (q : Option Addr) (n c k : Nat) (hk : k ≤ n) : (Instr.sliceAt 52 (.slice q n c) (some (.int .i64 (k : Int))) none none).run Tryz.prog w = .ok (.slice (dropA q k c) (n - k) (c - k)) w := by
  obtain ⟨i0, hi, hz0, hz1, hz2⟩ := info_parts infoI
  have he : Program.elem Tryz.prog 52 = 57 := by kernel_rfl
  have hu : Tryz.prog.underlying 52 = some (.slice (Program.elem Tryz.prog 52)) := by rw [he]; exact Tryz.underlying52
  rw [run_sliceAt_slice w 52 _ _ _ _ hu, run_slice_l w 52 q n c hu .i64 (k : Int) (by omega) (by omega)]
  have e : (sizeOf (Program.elem Tryz.prog 52)).run Tryz.prog w = .ok 33 w := by
    rw [he]
    simp [sizeOf, typeInfo, hi, hz1]
  rw [e]
  simp only [Result.andThen_ok, sliced, Int.toNat_natCast]
  rfl
theorem yields_slice_is {P : Program} {ops : Array Oper} {S : World → Prop} {o : Oper} {a : Act} (hw : Region.wanted o (yielded ops a.tmps) = true) (ty : TypeId) {x : Operand} {lo hi mx : Option Operand} (ho : o.op = .slice ty x lo hi mx) {vx v : Value} {vl vh vm : Option Value} (hx : a.eval x = vx) (hl : lo.map a.eval = vl) (hh : hi.map a.eval = vh) (hm : mx.map a.eval = vm) (hrun : ∀ w, (Instr.sliceAt ty vx vl vh vm).run P w = .ok v w) : YieldsIf P ops S o v a :=
  .inl ⟨hw, fun w _ => by unfold execOp; simp only [ho, hx, hl, hh, hm, Sem.run_bind, hrun w, Result.andThen_ok, Sem.run_pure]⟩
/-- images appended onto a row of ours -/
theorem app_ims {W : World} {B : Nat} {v : Value} {l0 l : List Im} {q : Option Addr} {m c : Nat} (h0 : IOwn W B v l0) (hw0 : ImsWf l0) (h : MIn W q m l) (hm : l0.length + m ≤ 3000000) (hB : B ≤ W.heap.size) : ∃ q' c' W', (Builtin.append_ #[52, 52] 52 #[v, .slice q m c]).run Tryz.prog W = .ok (.slice q' (l0 ++ l).length c') W' ∧ IOwn W' B (.slice q' (l0 ++ l).length c') (l0 ++ l) ∧ W.grownBy W' v.ownBlock ∧ ((Value.slice q' (l0 ++ l).length c').ownBlock = v.ownBlock ∨ (Value.slice q' (l0 ++ l).length c').ownBlock = some W.heap.size) := by
  obtain ⟨i0, hi0, hz0, hz1, hz2⟩ := info_parts infoI
  have h65 : (4000000 : Nat) ≤ maxLen := by decide
  have hwf : ImsWf (l0 ++ l) := fun x hx => (List.mem_append.1 hx).elim (hw0 x) (h.wf x)
  have go : ∀ (ad : Addr), q = some ad → ∃ q' c' W', (Builtin.append_ #[52, 52] 52 #[v, .slice q m c]).run Tryz.prog W = .ok (.slice q' (l0 ++ l).length c') W' ∧ IOwn W' B (.slice q' (l0 ++ l).length c') (l0 ++ l) ∧ W.grownBy W' v.ownBlock ∧ ((Value.slice q' (l0 ++ l).length c').ownBlock = v.ownBlock ∨ (Value.slice q' (l0 ++ l).length c').ownBlock = some W.heap.size) := by
    rintro ad rfl
    obtain ⟨v', W', hrun, hown', hgrow, -, hat⟩ := run_append_own_at (P := Tryz.prog) W B 52 52 57 i0 _ 33 40 Tryz.underlying52 hi0 hz0 hz1 hz2 rfl (by decide) v l0.length (IC l0) h0 ad m c (IC l) (by rw [IC_len h.wf, h.len]) (fun j u hu => by
      by_cases hp : 0 < m
      · obtain ⟨b', o', e, hr⟩ := h.cells hp
        cases e
        rw [Addr.add_mid]
        exact hr j u hu
      · have : l = [] := List.length_eq_zero_iff.1 (by rw [h.len]; omega)
        rw [this] at hu; simp [IC] at hu) (IC_ones l) (by omega) (by omega) hB
    have hown2 : IOwn W' B v' (l0 ++ l) := by
      rw [IOwn, List.length_append, h.len, IC_append]; exact hown'
    obtain ⟨q', c', rfl, -, -, -⟩ := IOwn.in hown2 hwf
    exact ⟨q', c', W', hrun, hown2, hgrow, hat⟩
  by_cases hp : 0 < m
  · obtain ⟨b, o, e, -⟩ := h.cells hp
    exact go _ e
  · have m0 : m = 0 := by omega
    have e0 : l = [] := List.length_eq_zero_iff.1 (by rw [h.len, m0])
    cases q with
    | none =>
      subst m0; subst e0
      have hr : (Builtin.append_ #[52, 52] 52 #[v, .slice none 0 c]).run Tryz.prog W = .ok v W := by
        rcases h0.2 with ⟨rfl, _⟩ | ⟨g, cap, cur, rfl, _, _, hnc, _⟩
        · simp [Builtin.append_, run_underlying Tryz.underlying52, sizeOf, typeInfo, hi0, Builtin.lenOf, Builtin.firstCells]
        · simp [Builtin.append_, run_underlying Tryz.underlying52, sizeOf, typeInfo, hi0, Builtin.lenOf, Builtin.firstCells, hnc, storeCells]
      obtain ⟨q', c', rfl, -, -, -⟩ := IOwn.in h0 hw0
      rw [List.append_nil]
      exact ⟨q', c', W, hr, h0, ⟨rfl, rfl, rfl, Nat.le_refl _, fun _ _ _ => rfl⟩, .inl rfl⟩
    | some ad => exact go ad rfl

/-- the same, the length a letter -/
theorem app_imsL {W : World} {B : Nat} {v : Value} {l0 l : List Im} {q : Option Addr} {m c : Nat} (h0 : IOwn W B v l0) (hw0 : ImsWf l0) (h : MIn W q m l) (hm : l0.length + m ≤ 3000000) (hB : B ≤ W.heap.size) : ∃ q' m' c' W', (Builtin.append_ #[52, 52] 52 #[v, .slice q m c]).run Tryz.prog W = .ok (.slice q' m' c') W' ∧ IOwn W' B (.slice q' m' c') (l0 ++ l) ∧ W.grownBy W' v.ownBlock ∧ ((Value.slice q' m' c').ownBlock = v.ownBlock ∨ (Value.slice q' m' c').ownBlock = some W.heap.size) := by
  obtain ⟨q', c', W', h1, h2, h3, h4⟩ := app_ims (c := c) h0 hw0 h hm hB
  exact ⟨q', _, c', W', h1, h2, h3, h4⟩
end Go.Proofs.YtefnkjajjidfaaaGreatDoor
namespace Go.Proofs.YtefnkjajjidfaaaGreatDoor
open Go.RowKit


def im5 : Im := ⟨-5, zs 32⟩
theorem im5_wf : im5.Wf := ⟨by unfold i64 im5; constructor <;> decide, zs_len 32, zs_bytes 32⟩
/-- transactions that can be read, one image more behind those of each -/
structure XIn5 (w : World) (p : Option Addr) (n : Nat) (l : List TX) : Prop where
  len : l.length = n
  cells : 0 < n → ∃ b o, p = some ⟨b, o, none⟩ ∧ ∀ (k : Nat) (t : TX), l[k]? = some t → ∃ q c, w.cell? ⟨b, o + k * 2, none⟩ = some (.int .u64 t.p) ∧ w.cell? ⟨b, o + k * 2 + 1, none⟩ = some (.slice q t.ims.length c) ∧ MIn w q (t.ims.length + 1) (t.ims ++ [im5]) ∧ t.ims.length + 1 ≤ c ∧ c ≤ maxLen
theorem XIn5.later {w w' : World} {p : Option Addr} {n : Nat} {l : List TX} (h : XIn5 w p n l) (hb : Below w.heap.size w w') : XIn5 w' p n l := by
  refine ⟨h.len, fun h0 => ?_⟩
  obtain ⟨b, o, e, hr⟩ := h.cells h0
  refine ⟨b, o, e, fun k t hk => ?_⟩
  obtain ⟨q, c, h1, h2, h3, h4⟩ := hr k t hk
  have hl := World.block_lt_of_cell? w _ h1
  exact ⟨q, c, (World.cell?_of_block (hb.block b hl)).trans h1, (World.cell?_of_block (hb.block b hl)).trans h2, h3.later hb, h4⟩
theorem XIn5.xin {w : World} {p : Option Addr} {n : Nat} {l : List TX} (h : XIn5 w p n l) : XIn w p n l := by
  refine ⟨h.len, fun h0 => ?_⟩
  obtain ⟨b, o, e, hr⟩ := h.cells h0
  refine ⟨b, o, e, fun k t hk => ?_⟩
  obtain ⟨q, c, h1, h2, h3, h4, h5⟩ := hr k t hk
  have := h3.take t.ims.length (by omega)
  rw [List.take_append_of_le_length (Nat.le_refl _), List.take_length] at this
  exact ⟨q, c, h1, h2, this, by omega, h5⟩
/-- such ones that are ours -/
structure XSp (w : World) (B : Nat) (v : Value) (l : List TX) (vs : List Value) : Prop where
  len : vs.length = l.length
  row : w.ownsRow B 59 2 v l.length (TC ((l.map (·.p)).zip vs))
  each : ∀ (k : Nat) (t : TX) (u : Value), l[k]? = some t → vs[k]? = some u → ∃ q m c, u = .slice q t.ims.length c ∧ IOwn w B (.slice q m c) (t.ims ++ [im5])
  wf : TxsWf l
theorem XSp.nil (w : World) (B : Nat) : XSp w B (.slice none 0 0) [] [] := ⟨rfl, World.ownsRow_nil _ _ _ _, fun k t u h => by simp at h, TxsWf.nil⟩
theorem XSp.later {w w' : World} {B : Nat} {v : Value} {l : List TX} {vs : List Value} (h : XSp w B v l vs) (hb : Below w.heap.size w w') : XSp w' B v l vs :=
  ⟨h.len, h.row.kept (grown_of_below hb) (by cases hh : v.ownBlock <;> simp), fun k t u a b => by
    obtain ⟨q, m, c, e, o⟩ := h.each k t u a b
    exact ⟨q, m, c, e, o.later hb⟩, h.wf⟩
theorem ims5_wf {l : List Im} (h : ImsWf l) : ImsWf (l ++ [im5]) := fun x hx => (List.mem_append.1 hx).elim (h x) fun hx => by rw [List.mem_singleton.1 hx]; exact im5_wf
theorem XSp.in {w : World} {B : Nat} {v : Value} {l : List TX} {vs : List Value} (h : XSp w B v l vs) : ∃ p c, v = .slice p l.length c ∧ XIn5 w p l.length l := by
  rcases h.row.2 with ⟨ev, e2⟩ | ⟨g, cap, cur, ev, _, hg, h1, h2, h3, h4⟩
  · refine ⟨none, 0, by rw [ev, e2], ?_⟩
    exact ⟨rfl, fun h0 => by omega⟩
  · refine ⟨_, cap, ev, ⟨rfl, fun _ => ⟨g, 0, rfl, fun k t hk => ?_⟩⟩⟩
    have hkl := (List.getElem?_eq_some_iff.1 hk).1
    have hkv : k < vs.length := by rw [h.len]; exact hkl
    have hz : ((l.map (·.p)).zip vs)[k]? = some (t.p, vs[k]) := by
      rw [List.getElem?_zip_eq_some]
      exact ⟨by rw [List.getElem?_map, hk]; rfl, by rw [List.getElem?_eq_getElem hkv]⟩
    have hc : ∀ j, j < 2 → w.cell? ⟨g, 0 + k * 2 + j, none⟩ = [Value.int .u64 t.p, vs[k]][j]? := fun j hj => by
      have a := TC_at _ hz j hj
      rw [← h4, List.getElem?_take, if_pos (by omega)] at a
      rw [cell_of_row w g _ cur 59 (0, 0) hg, show 0 + k * 2 + j = 2 * k + j by omega, ← a]
      simp
    obtain ⟨q, m, c, e1, own⟩ := h.each k t vs[k] hk (by rw [List.getElem?_eq_getElem hkv])
    obtain ⟨q', c', e2, m1, m2, m3⟩ := IOwn.in own (ims5_wf (h.wf t (List.mem_of_getElem? hk)).ims)
    cases e2
    rw [List.length_append, List.length_singleton] at m1 m2
    refine ⟨q, c, hc 0 (by omega), ?_, m1, m2, m3⟩
    rw [hc 1 (by omega)]
    show some vs[k] = _
    rw [e1]
/-- one more -/
theorem XSp.app {V : World} {B : Nat} {v : Value} {txs : List TX} {vs : List Value} (h : XSp V B v txs vs) (hB : B ≤ V.heap.size) (hl : txs.length ≤ 3000000) {p : Int} {q : Option Addr} {m c : Nat} {ims : List Im} (hp : u64 p) (hw : ImsWf ims) (him : IOwn V B (.slice q m c) (ims ++ [im5])) :
    ∃ q' m' c' V4, (Builtin.append_ #[37, 37] 37 #[v, .slice (some ⟨V.heap.size, 0, none⟩) 1 1]).run Tryz.prog (V.alloc (.cells #[.int .u64 p, .slice q ims.length c] 59)) = .ok (.slice q' m' c') V4 ∧ XSp V4 B (.slice q' m' c') (txs ++ [⟨p, ims⟩]) (vs ++ [.slice q ims.length c]) ∧ Below B V V4 := by
  obtain ⟨i0, hi0, hz0, hz1, hz2⟩ := info_parts infoT
  have h65 : (4000000 : Nat) ≤ maxLen := by decide
  obtain ⟨v', V4, hrun, hown', hgrow, -⟩ := run_append_own (P := Tryz.prog) (V.alloc (.cells #[.int .u64 p, .slice q ims.length c] 59)) B 37 37 59 i0 _ 2 32 Tryz.underlying37 hi0 hz0 hz1 hz2 rfl (by decide) v txs.length _ (h.row.alloc _) ⟨V.heap.size, 0, none⟩ 1 1 [.int .u64 p, .slice q ims.length c] rfl (fun j u hu => by
    rw [Addr.add_mid, Nat.zero_add]; exact (LAt.cell (LAt.new 59 V [.int .u64 p, .slice q ims.length c]) j).trans hu) (fun u hu => by
    simp only [List.mem_cons, List.not_mem_nil, or_false] at hu
    rcases hu with rfl | rfl <;> rfl) (by omega) (by omega) (by simp; omega)
  obtain ⟨g', c', rfl⟩ := ownsRow_succ hown'
  refine ⟨_, _, c', V4, hrun, ⟨by rw [List.length_append, List.length_append, h.len]; rfl, ?_, fun j y u a b => ?_, h.wf.snoc ⟨hp, hw⟩⟩, ?_⟩
  · rw [List.map_append, List.zip_append (by rw [List.length_map, h.len]), List.length_append]
    show World.ownsRow _ _ _ _ _ _ (TC ((txs.map (·.p)).zip vs ++ [(p, .slice q ims.length c)]))
    rw [TC_snoc]
    exact hown'
  · by_cases cj : j < txs.length
    · rw [List.getElem?_append_left cj] at a
      rw [List.getElem?_append_left (by rw [h.len]; exact cj)] at b
      obtain ⟨q1, m1, c1, e1, o1⟩ := h.each j y u a b
      exact ⟨q1, m1, c1, e1, (o1.alloc _).kept hgrow (own_ne o1 h.row (by decide))⟩
    · have hj : j = txs.length := by
        have := (List.getElem?_eq_some_iff.1 a).1
        simp only [List.length_append, List.length_singleton] at this
        omega
      subst hj
      rw [List.getElem?_append_right (Nat.le_refl _), Nat.sub_self] at a
      rw [← h.len, List.getElem?_append_right (Nat.le_refl _), Nat.sub_self] at b
      cases a; cases b
      exact ⟨q, m, c, rfl, (him.alloc _).kept hgrow (own_ne him h.row (by decide))⟩
  · exact ((Below.refl B V).alloc hB _).grown hgrow (by simp; omega) fun j ej => (h.row.lt j ej).1
/-- the first of a row of ours -/
theorem IOwn.pre {W : World} {B g n c : Nat} {l : List Im} (h : IOwn W B (.slice (some ⟨g, 0, none⟩) n c) l) (hw : ImsWf l) (k : Nat) (hk : k ≤ l.length) : IOwn W B (.slice (some ⟨g, 0, none⟩) k c) (l.take k) := by
  have hlk : (l.take k).length = k := by rw [List.length_take]; omega
  have hwk : ImsWf (l.take k) := fun x hx => hw x (List.mem_of_mem_take hx)
  rcases h.2 with ⟨e, _⟩ | ⟨g', cap, cur, e, h0, hg, h1, h2, h3, h4⟩
  · cases e
  · cases e
    refine ⟨by rw [IC_len hwk], .inr ⟨g, c, cur, by rw [hlk], h0, hg, by omega, h2, h3, ?_⟩⟩
    rw [hlk]
    have e2 : IC l = IC (l.take k) ++ IC (l.drop k) := by rw [← IC_append, List.take_append_drop]
    have el : (IC (l.take k)).length = k * 33 := by rw [IC_len hwk, hlk]
    have : cur.toList.take (k * 33) = (cur.toList.take (l.length * 33)).take (k * 33) := by rw [List.take_take, Nat.min_eq_left (Nat.mul_le_mul_right _ hk)]
    rw [this, h4, e2, ← el, List.take_left]
/-- one image written over -/
theorem IOwn.put {W : World} {B g n c : Nat} {l : List Im} (h : IOwn W B (.slice (some ⟨g, 0, none⟩) n c) l) (hw : ImsWf l) (i : Im) (hi : i.Wf) (k : Nat) (hk : k < l.length) :
    ∃ W', (Instr.storeAt 57 (.pointer (some ⟨g, k * 33, none⟩)) (.agg (icells i).toArray)).run Tryz.prog W = .ok () W' ∧ IOwn W' B (.slice (some ⟨g, 0, none⟩) n c) (l.take k ++ [i] ++ l.drop (k + 1)) ∧ W.grownBy W' (some g) := by
  obtain ⟨i0, hi0, hz0, hz1, hz2⟩ := info_parts infoI
  have hwt : ImsWf (l.take k) := fun x hx => hw x (List.mem_of_mem_take hx)
  have hwd : ImsWf (l.drop (k + 1)) := fun x hx => hw x (List.mem_of_mem_drop hx)
  have hll : (l.take k ++ [i] ++ l.drop (k + 1)).length = l.length := by simp; omega
  rcases h.2 with ⟨e, _⟩ | ⟨g', cap, cur, e, h0, hg, h1, h2, h3, h4⟩
  · cases e
  · cases e
    have hsz : cur.size = c * 33 := h3
    have hst := run_storeCells_at Tryz.prog g (k * 33) 57 (icells i) 0 cur W hg (by rw [icells_len hi.len]; omega) (icells_ones i)
    rw [Nat.add_zero, icells_len hi.len] at hst
    have hr : (Instr.storeAt 57 (.pointer (some ⟨g, k * 33, none⟩)) (.agg (icells i).toArray)).run Tryz.prog W = .ok () (W.setRow g (cur.toList.take (k * 33) ++ icells i ++ cur.toList.drop (k * 33 + 33)).toArray) := by
      simp [Instr.storeAt, Instr.sureAddr, storeVar, sizeOf, typeInfo, hi0, hz1, Value.cells, icells_len hi.len, hst]
    refine ⟨_, hr, ⟨?_, .inr ⟨g, c, _, by rw [hll], h0, setRow_heap W g cur _ 57 _ hg, by rw [hll]; exact h1, h2, ?_, ?_⟩⟩, ⟨rfl, rfl, rfl, by simp, fun k _ hk => setRow_other W g k _ (fun e => hk (by simp [e]))⟩⟩
    · rw [hll, IC_len, hll]
      intro x hx
      rcases List.mem_append.1 hx with hx | hx
      · rcases List.mem_append.1 hx with hx | hx
        · exact hwt x hx
        · rw [List.mem_singleton.1 hx]; exact hi
      · exact hwd x hx
    · simp only [List.size_toArray, List.length_append, List.length_take, List.length_drop, Array.length_toList, icells_len hi.len]
      omega
    · have ec : cur.toList = IC l ++ cur.toList.drop (l.length * 33) := by rw [← h4, List.take_append_drop]
      have e2 : IC l = IC (l.take k) ++ (icells l[k] ++ IC (l.drop (k + 1))) := by
        have e0 : l = l.take k ++ ([l[k]] ++ l.drop (k + 1)) := by
          rw [List.singleton_append, ← List.drop_eq_getElem_cons hk, List.take_append_drop]
        have e1 : IC l = IC (l.take k ++ ([l[k]] ++ l.drop (k + 1))) := congrArg IC e0
        rw [e1, IC_append, IC_append, show IC [l[k]] = icells l[k] by simp [IC]]
      have el : (IC (l.take k)).length = k * 33 := by rw [IC_len hwt, List.length_take, Nat.min_eq_left (by omega)]
      have ex : (icells l[k]).length = 33 := icells_len (hw _ (List.getElem_mem hk)).len
      have t1 : cur.toList.take (k * 33) = IC (l.take k) := by
        have e5 : cur.toList = IC (l.take k) ++ ((icells l[k] ++ IC (l.drop (k + 1))) ++ cur.toList.drop (l.length * 33)) := by rw [← List.append_assoc, ← e2]; exact ec
        rw [← el, e5, List.take_left]
      have t2 : cur.toList.drop (k * 33 + 33) = IC (l.drop (k + 1)) ++ cur.toList.drop (l.length * 33) := by
        have e5 : cur.toList = (IC (l.take k) ++ icells l[k]) ++ (IC (l.drop (k + 1)) ++ cur.toList.drop (l.length * 33)) := by
          rw [← List.append_assoc, List.append_assoc (IC (l.take k)), ← e2]; exact ec
        generalize cur.toList.drop (l.length * 33) = rest at *
        rw [e5, show k * 33 + 33 = (IC (l.take k) ++ icells l[k]).length by rw [List.length_append, el, ex], List.drop_left]
      have e3 : IC (l.take k ++ [i] ++ l.drop (k + 1)) = IC (l.take k) ++ icells i ++ IC (l.drop (k + 1)) := by rw [IC_append, IC_append]; simp [IC]
      have e4 : (IC (l.take k) ++ icells i ++ IC (l.drop (k + 1))).length = l.length * 33 := by
        have hd : (l.drop (k + 1)).length = l.length - (k + 1) := List.length_drop
        rw [List.length_append, List.length_append, el, icells_len hi.len, IC_len hwd, hd]; omega
      rw [hll, t1, t2, e3]
      show List.take _ (IC (l.take k) ++ icells i ++ (IC (l.drop (k + 1)) ++ _)) = _
      rw [← List.append_assoc, ← e4, List.take_left]
/-- one image appended, that has been laid just before -/
theorem app_one {W : World} {B : Nat} {v : Value} {l : List Im} {i : Im} (h : IOwn W B v l) (hi : i.Wf) (hm : l.length ≤ 3000000) (hB : B ≤ W.heap.size) :
    ∃ q' m' c' W', (Builtin.append_ #[52, 52] 52 #[v, .slice (some ⟨W.heap.size, 0, none⟩) 1 1]).run Tryz.prog (W.alloc (.cells (icells i).toArray 57)) = .ok (.slice q' m' c') W' ∧ IOwn W' B (.slice q' m' c') (l ++ [i]) ∧
      ((∃ g n c, v = .slice (some ⟨g, 0, none⟩) n c ∧ Value.slice q' m' c' = .slice (some ⟨g, 0, none⟩) (n + 1) c ∧ (W.alloc (.cells (icells i).toArray 57)).grownBy W' (some g)) ∨ ((Value.slice q' m' c').ownBlock = some (W.heap.size + 1) ∧ Below W.heap.size W W')) := by
  obtain ⟨i0, hi0, hz0, hz1, hz2⟩ := info_parts infoI
  have h65 : (4000000 : Nat) ≤ maxLen := by decide
  have hn : (icells i).length = 1 * 33 := icells_len hi.len
  have hnew : ∀ j u, (icells i)[j]? = some u → (W.alloc (.cells (icells i).toArray 57)).cell? ((⟨W.heap.size, 0, none⟩ : Addr).add j) = some u := fun j u hu => by
    rw [Addr.add_mid, Nat.zero_add, LAt.cell (LAt.new 57 W (icells i)) j]; exact hu
  have hsz : (W.alloc (.cells (icells i).toArray 57)).heap.size = W.heap.size + 1 := by simp
  have hIC : IC (l ++ [i]) = IC l ++ icells i := IC_snoc l i
  have hlen : (l ++ [i]).length = l.length + 1 := by simp
  obtain ⟨v', W', hrun, hown', hgrow, -, -⟩ := run_append_own_at (P := Tryz.prog) (W.alloc (.cells (icells i).toArray 57)) B 52 52 57 i0 _ 33 40 Tryz.underlying52 hi0 hz0 hz1 hz2 rfl (by decide) v l.length (IC l) (h.alloc _) ⟨W.heap.size, 0, none⟩ 1 1 (icells i) hn hnew (icells_ones i) (by omega) (by omega) (by omega)
  have bel : ∀ o, Below W.heap.size W ((W.alloc (.cells (icells i).toArray 57)).drew.alloc o) := fun o => by
    have b1 := below_alloc W (.cells (icells i).toArray 57)
    have b2 : Below (W.alloc (.cells (icells i).toArray 57)).heap.size (W.alloc (.cells (icells i).toArray 57)) (W.alloc (.cells (icells i).toArray 57)).drew := below_drawn 1
    have b3 := below_alloc (W.alloc (.cells (icells i).toArray 57)).drew o
    exact below_then (below_then b1 b2) b3
  have hIO : IOwn W' B v' (l ++ [i]) := by rw [IOwn, hlen, hIC]; exact hown'
  rcases h.2 with ⟨rfl, e0⟩ | ⟨g, cap, cur, rfl, hb, hg, h1, h2, h3, h4⟩
  · have hr := run_append_nil (P := Tryz.prog) (W.alloc (.cells (icells i).toArray 57)) 52 52 57 i0 _ Tryz.underlying52 hi0 hz0 ⟨W.heap.size, 0, none⟩ 1 1 (icells i) (by rw [hz1]; exact hn) hnew (by omega) (by omega) (by rw [hz2]; omega)
    rw [hrun] at hr
    injection hr with e1 e2
    subst e1
    refine ⟨_, _, _, W', hrun, hIO, .inr ⟨by simp [Value.ownBlock], ?_⟩⟩
    rw [e2]; exact bel _
  · by_cases room : l.length + 1 ≤ cap
    · obtain ⟨W2, hr, ho2, hg2⟩ := run_append_fits (P := Tryz.prog) (W.alloc (.cells (icells i).toArray 57)) B 52 52 57 i0 33 Tryz.underlying52 hi0 hz1 g l.length cap (IC l) (h.alloc _) ⟨W.heap.size, 0, none⟩ 1 1 (icells i) hn hnew (icells_ones i) room
      rw [hrun] at hr
      injection hr with e1 e2
      subst e1; subst e2
      exact ⟨_, _, _, W', hrun, hIO, .inl ⟨g, _, cap, rfl, rfl, hg2⟩⟩
    · have holds : ∀ j u, (IC l)[j]? = some u → (W.alloc (.cells (icells i).toArray 57)).cell? ((⟨g, 0, none⟩ : Addr).add j) = some u := (h.alloc _).cells (g := g) rfl
      have hr := run_append_grow (P := Tryz.prog) (W.alloc (.cells (icells i).toArray 57)) 52 52 57 i0 _ Tryz.underlying52 hi0 hz0 ⟨g, 0, none⟩ l.length cap (IC l) (by rw [hz1]; exact h.1) holds ⟨W.heap.size, 0, none⟩ 1 1 (icells i) (by rw [hz1]; exact hn) hnew (by omega) (by omega) (growslice_fits (by omega) (by rw [hz2]; omega))
      rw [hrun] at hr
      injection hr with e1 e2
      subst e1
      refine ⟨_, _, _, W', hrun, hIO, .inr ⟨by simp [Value.ownBlock], ?_⟩⟩
      rw [e2]; exact bel _
/-- some of nothing appended -/
theorem app_zeros {W : World} {B : Nat} {v : Value} {l : List Im} (h : IOwn W B v l) (hm : l.length ≤ 3000000) (kz : Nat) (hk0 : 0 < kz) (hk1 : kz ≤ 100) : ∃ v' W', (Builtin.append_ #[52, 3] 52 #[v, .int .i64 (kz : Int)]).run Tryz.prog W = .ok v' W' ∧ W.grownBy W' v.ownBlock := by
  obtain ⟨i0, hi0, hz0, hz1, hz2⟩ := info_parts infoI
  have hfr : ∀ o, W.grownBy (W.drew.alloc o) v.ownBlock := fun o => by
    have b2 : Below W.heap.size W W.drew := below_drawn 1
    have g := grown_of_below (below_then b2 (below_alloc W.drew o))
    exact ⟨g.os, g.tape, g.output, g.size, fun k hk _ => g.block k hk (by simp)⟩
  rcases h.2 with ⟨rfl, e0⟩ | ⟨g, cap, cur, rfl, hb, hg, h1, h2, h3, h4⟩
  · have hr := Lib.run_append_nil_zeros (P := Tryz.prog) W 52 3 52 57 i0 _ .i64 .i64 Tryz.underlying52 Tryz.underlying3 hi0 hz0 kz hk0 (by omega) (by omega) (by rw [hz2]; omega)
    exact ⟨_, _, hr, hfr _⟩
  · by_cases room : l.length + kz ≤ cap
    · have hzl : (Builtin.zeroCells (icells im0).toArray kz).toList.length = kz * 33 := by simp [Builtin.zeroCells, icells_len (show im0.v.length = 32 from zs_len 32)]
      have hzo : ∀ u ∈ (Builtin.zeroCells (icells im0).toArray kz).toList, u.oneCell' = true := by
        intro u hu
        simp only [Builtin.zeroCells, Array.toList_map, List.mem_map] at hu
        obtain ⟨j, -, rfl⟩ := hu
        have hj : j % (icells im0).toArray.size < (icells im0).toArray.size := Nat.mod_lt _ (by simp [icells])
        rw [getElem!_pos (icells im0).toArray _ hj]
        exact icells_ones im0 _ (by rw [List.getElem_toArray]; exact List.getElem_mem _)
      have hst := run_storeCells_at Tryz.prog g (l.length * 33) 57 (Builtin.zeroCells (icells im0).toArray kz).toList 0 cur W hg (by rw [hzl]; omega) hzo
      have hgz : ∀ cs, W.grownBy (W.setRow g cs) (some g) := fun cs => ⟨rfl, rfl, rfl, by simp, fun k _ hk => setRow_other W g k _ (fun e => hk (by simp [e]))⟩
      have hgz' := hgz (List.take (l.length * 33 + 0) cur.toList ++ (Builtin.zeroCells (icells im0).toArray kz).toList ++ List.drop (l.length * 33 + 0 + (Builtin.zeroCells (icells im0).toArray kz).toList.length) cur.toList).toArray
      generalize W.setRow g (List.take (l.length * 33 + 0) cur.toList ++ (Builtin.zeroCells (icells im0).toArray kz).toList ++ List.drop (l.length * 33 + 0 + (Builtin.zeroCells (icells im0).toArray kz).toList.length) cur.toList).toArray = Wz at hst hgz'
      have hw : IntKind.i64.wrap (kz : Int) = kz := by rw [IntKind.wrap_i64]; omega
      have hneg : ¬ ((kz : Int) < 0) := by omega
      have h48i : ¬ (281474976710656 < (kz : Int) * 40) := by omega
      have hr : (Builtin.append_ #[52, 3] 52 #[.slice (some ⟨g, 0, none⟩) l.length cap, .int .i64 (kz : Int)]).run Tryz.prog W = .ok (.slice (some ⟨g, 0, none⟩) (l.length + kz) cap) Wz := by
        simp [Builtin.append_, run_underlying Tryz.underlying52, run_underlying Tryz.underlying3, sizeOf, typeInfo, zeroValue, hi0, hz0, hz1, hz2, asInt, asIntOf, hw, hneg, h48i, room, Value.cells, Addr.add_mid, hst]
        omega
      exact ⟨_, Wz, hr, hgz'⟩
    · have holds : ∀ j u, (IC l)[j]? = some u → W.drew.cell? ((⟨g, 0, none⟩ : Addr).add j) = some u := h.cells (g := g) rfl
      have hf := run_firstCells_some (P := Tryz.prog) W.drew i0.size l.length ⟨g, 0, none⟩ l.length cap (IC l) (by rw [hz1]; exact h.1) holds
      have hr := Lib.run_append_grow_zeros (P := Tryz.prog) W 52 3 52 57 i0 _ .i64 .i64 Tryz.underlying52 Tryz.underlying3 hi0 hz0 (some ⟨g, 0, none⟩) l.length cap (IC l) hf kz hk0 (by omega) (by omega) (by omega) (by rw [hz2]; omega) (growslice_fits (by omega) (by rw [hz2]; omega))
      exact ⟨_, _, hr, hfr _⟩
end Go.Proofs.YtefnkjajjidfaaaGreatDoor
namespace Go.Proofs.YtefnkjajjidfaaaGreatDoor
open Go.RowKit


/-- 64 bytes: as many as there are, zeros behind -/
def fl64 (xs : List Int) : List Int := xs.take 64 ++ List.replicate (64 - (xs.take 64).length) 0
theorem fl64_bytes {xs : List Int} (h : Bytes xs) : Bytes (fl64 xs) := fun x hx => by
  rcases List.mem_append.1 hx with h' | h'
  · exact h x (List.mem_of_mem_take h')
  · rw [(List.mem_replicate.1 h').2]; omega
set_option maxHeartbeats 1000000 in
set_option maxRecDepth 100000 in
theorem full_any (p : Option Addr) (n c : Nat) (xs : List Int) (w : World) (h : BIn w p n xs) :
    Calls Tryz.prog 19 #[.slice p n c] w fun e w' => ∃ q c', e = .returned (.slice q 64 c') ∧ BIn w' q 64 (fl64 xs) ∧ Below w.heap.size w w' := by
  obtain ⟨i0, hi, hz0, hz1, hz2⟩ := info_parts info5
  go_enter Tryz.func19, Tryz.ntmps19
  go_wp2_with (at_make; refine wpList_make_full _ rfl _ _ 24 rfl w.heap.size 5 i0 (.int .u8 0) 1 Tryz.underlying24 hi hz0 hz1 .i64 .i64 _ _ 64 rfl rfl rfl rfl ?b2 ?b3 ?b4 ?_)
  case b2 => rw [hz2]; omega
  case b3 => unfold maxLen; omega
  case b4 => simp
  intro w1 hown hgrow
  rw [toList_madeCells_one] at hown
  have hb := (Below.refl w.heap.size w).grown hgrow (Nat.le_refl _) (by intro k hk; cases hk)
  have hg := row_of_full hown
  have h1 := h.later hb
  have HG : Hid (_) := hg
  have HB : Hid (_) := hb
  have HH : Hid (BIn w1 p n xs) := h1
  obtain ⟨ys, hys⟩ : ∃ ys, ys = xs.take 64 := ⟨_, rfl⟩
  have HY : Hid (ys = xs.take 64) := hys
  have hyl : ys.length ≤ 64 := by rw [hys, List.length_take]; omega
  have HBY : Hid (Bytes (fl64 xs)) := fl64_bytes h.byte
  clear hys
  clear hgrow hown hg hb h1
  have HN : Hid ((U8 ys).length = Nat.min n 64) := by show _ = min n 64; rw [HY.out]; simp [U8, HH.out.len]; omega
  have HF : Hid (0 + (U8 ys).length ≤ (List.replicate 64 (Value.int .u8 0)).length) := by show _ ≤ _; simp [U8]; exact hyl
  have HP : Hid (0 < (U8 ys).length → some (⟨w.heap.size, 0, none⟩ : Addr) = some ⟨w.heap.size, 0, none⟩ ∧ ∃ ad, p = some ad ∧ ∀ j v, (U8 ys)[j]? = some v → w1.cell? (ad.add j) = some v) := by
    intro h0
    have h0' : 0 < n := by
      rw [HY.out] at h0
      have h1 : 0 < min 64 xs.length := by simpa [U8] using h0
      have := HH.out.len; omega
    obtain ⟨b, o, e, hc⟩ := HH.out.cells h0'
    refine ⟨rfl, ⟨b, o, none⟩, e, fun j v hv => ?_⟩
    have h2 := HH.out
    rw [e] at h2
    refine h2.news j v ?_
    rw [HY.out] at hv
    rw [U8, List.getElem?_map] at hv ⊢
    rw [List.getElem?_take] at hv
    split at hv
    · exact hv
    · cases hv
  go_wp2_with (refine wpList_copy_splice rfl (.tmp 5) (.tmp 6) 24 24 rfl 5 Tryz.underlying24 size5 (some ⟨w.heap.size, 0, none⟩) p 64 64 n c rfl rfl w.heap.size 0 (List.replicate 64 (.int .u8 0)) 5 HG.out (U8 ys) HN.out HP.out HF.out (ones_u8 _) w.heap.size w HB.out (Nat.le_refl _) ?_)
  intro w2 hg2 hb2
  have HO : Hid (BIn w2 (some ⟨w.heap.size, 0, none⟩) 64 (fl64 xs)) := by
    have : w2.heap[w.heap.size]? = some (.cells (splice (List.replicate 64 (Value.int .u8 0)) 0 (U8 ys)).toArray 5) := hg2.out
    rw [splice_pad ys 64 hyl] at this
    obtain ⟨q', c', e, hin, -, -, -⟩ := own_in (xs := fl64 xs) (full_of_row (base := w.heap.size) (n := 64) (Nat.le_refl _) (by unfold fl64; rw [← HY.out]; simp [U8]; omega) (by unfold maxLen; omega) (by unfold fl64; rw [← HY.out]; exact this)) HBY.out
    cases e
    exact hin
  have HB2 : Hid (_) := hb2
  clear hg2 hb2
  go_wp2
  go_ret
  exact ⟨_, _, rfl, HO.out, HB2.out⟩
/-- writes that come in -/
structure LW where
  s : Int
  q : Option Addr
  n : Nat
  c : Nat
  b : List Int
structure WIn (w : World) (p : Option Addr) (n : Nat) (l : List LW) : Prop where
  len : l.length = n
  cells : 0 < n → ∃ b o, p = some ⟨b, o, none⟩ ∧ ∀ (k : Nat) (t : LW), l[k]? = some t → w.cell? ⟨b, o + k * 2, none⟩ = some (.int .i64 t.s) ∧ w.cell? ⟨b, o + k * 2 + 1, none⟩ = some (.slice t.q t.n t.c) ∧ BIn w t.q t.n t.b
/-- the two disks -/
structure Two (w0 W : World) (pd pr n : Nat) (xs : List Int) (ws : List Wr) (Sd Sr : Nat → Prop) : Prop where
  dk : Dsk W Sd pd n xs ws
  rf : Ref W Sr pr n xs ws
  bd : ∀ k, Sd k → w0.heap.size ≤ k ∧ k < W.heap.size
  br : ∀ k, Sr k → w0.heap.size ≤ k ∧ k < W.heap.size
  dj : ∀ k, Sd k → Sr k → False
  low : Below w0.heap.size w0 W
theorem Two.later {w0 W W' : World} {pd pr n : Nat} {xs : List Int} {ws : List Wr} {Sd Sr : Nat → Prop} (h : Two w0 W pd pr n xs ws Sd Sr) (hb : Below W.heap.size W W') : Two w0 W' pd pr n xs ws Sd Sr :=
  ⟨h.dk.later hb, h.rf.later hb, fun k hk => ⟨(h.bd k hk).1, Nat.lt_of_lt_of_le (h.bd k hk).2 hb.size⟩, fun k hk => ⟨(h.br k hk).1, Nat.lt_of_lt_of_le (h.br k hk).2 hb.size⟩, h.dj, below_then h.low hb⟩
/-- only the document's has been written to -/
structure Half2 (w0 W : World) (pd pr n : Nat) (xs : List Int) (ws ws' : List Wr) (Sd Sr : Nat → Prop) : Prop where
  dk : Dsk W Sd pd n xs ws
  rf : Ref W Sr pr n xs ws'
  bd : ∀ k, Sd k → w0.heap.size ≤ k ∧ k < W.heap.size
  br : ∀ k, Sr k → w0.heap.size ≤ k ∧ k < W.heap.size
  dj : ∀ k, Sd k → Sr k → False
  low : Below w0.heap.size w0 W
theorem Half2.later {w0 W W' : World} {pd pr n : Nat} {xs : List Int} {ws ws' : List Wr} {Sd Sr : Nat → Prop} (h : Half2 w0 W pd pr n xs ws ws' Sd Sr) (hb : Below W.heap.size W W') : Half2 w0 W' pd pr n xs ws ws' Sd Sr :=
  ⟨h.dk.later hb, h.rf.later hb, fun k hk => ⟨(h.bd k hk).1, Nat.lt_of_lt_of_le (h.bd k hk).2 hb.size⟩, fun k hk => ⟨(h.br k hk).1, Nat.lt_of_lt_of_le (h.br k hk).2 hb.size⟩, h.dj, below_then h.low hb⟩
theorem Two.half {w0 W W' : World} {pd pr n : Nat} {xs : List Int} {ws ws' : List Wr} {Sd Sr : Nat → Prop} (h : Two w0 W pd pr n xs ws Sd Sr) (hr : Ref W' (More Sr W) pr n xs ws') (hk : Kept Sr W W') : Half2 w0 W' pd pr n xs ws ws' Sd (fun k => (Sr k ∨ W.heap.size ≤ k) ∧ k < W'.heap.size) := by
  refine ⟨h.dk.kept hk h.dj, hr.mono fun k hk' hs => ⟨hs, hk'⟩, fun k hs => ⟨(h.bd k hs).1, Nat.lt_of_lt_of_le (h.bd k hs).2 hk.size⟩, fun k hs => ⟨?_, hs.2⟩, fun k hs hr => ?_, h.low.trans (hk.below h.low.size fun k hs => (h.br k hs).1)⟩
  · rcases hs.1 with hs | hs
    · exact (h.br k hs).1
    · exact Nat.le_trans h.low.size hs
  · rcases hr.1 with hr | hr
    · exact h.dj k hs hr
    · have := (h.bd k hs).2; omega
theorem Half2.two {w0 W W' : World} {pd pr n : Nat} {xs : List Int} {ws ws' : List Wr} {Sd Sr : Nat → Prop} (h : Half2 w0 W pd pr n xs ws ws' Sd Sr) (hd : Dsk W' (More Sd W) pd n xs ws') (hk : Kept Sd W W') : Two w0 W' pd pr n xs ws' (fun k => (Sd k ∨ W.heap.size ≤ k) ∧ k < W'.heap.size) Sr := by
  refine ⟨hd.mono fun k hk' hs => ⟨hs, hk'⟩, h.rf.kept hk fun k a b => h.dj k b a, fun k hs => ⟨?_, hs.2⟩, fun k hs => ⟨(h.br k hs).1, Nat.lt_of_lt_of_le (h.br k hs).2 hk.size⟩, fun k hs hr => ?_, h.low.trans (hk.below h.low.size fun k hs => (h.bd k hs).1)⟩
  · rcases hs.1 with hs | hs
    · exact (h.bd k hs).1
    · exact Nat.le_trans h.low.size hs
  · rcases hs.1 with hs | hs
    · exact h.dj k hs hr
    · have := (h.br k hr).2; omega
end Go.Proofs.YtefnkjajjidfaaaGreatDoor
namespace Go.Proofs.YtefnkjajjidfaaaGreatDoor
open Go.RowKit

set_option maxHeartbeats 4000000 in
set_option maxRecDepth 100000 in
theorem disks_any (a : Option Addr) (m c : Nat) (xs : List Int) (q2 : Option Addr) (n2 c2 : Nat) (l : List LW) (w : World) (h : BIn w a m xs) (hm : m ≤ 140737488355328) (ha : a = none → m = 0 ∧ c = 0) (hw : WIn w q2 n2 l) (hn2 : n2 ≤ 140737488355328) :
    Calls Tryz.prog 5 #[.slice a m c, .slice q2 n2 c2] w fun e w' => Below w.heap.size w w' ∧ (e = .returned (.tuple #[.pointer none, .pointer none]) ∨ ∃ pd pr n ws Sd Sr, e = .returned (.tuple #[.pointer (some ⟨pd, 0, none⟩), .pointer (some ⟨pr, 0, none⟩)]) ∧ Two w w' pd pr n xs ws Sd Sr ∧ ws.length ≤ 20) := by
  obtain ⟨i0, hi, hz0, hz1, hz2⟩ := info_parts info5
  have HB : Hid (BIn w a m xs) := h
  have HNn : Hid (a = none → m = 0 ∧ c = 0) := ha
  have HW : Hid (WIn w q2 n2 l) := hw
  have hll := hw.len
  clear h ha hw
  by_cases hbad : m = 0 ∨ ¬ m % 64 = 0 ∨ 262144 < m
  · go_enter Tryz.func5, Tryz.ntmps5
    go_wp2_with fail
    refine (rload_bad a m c w hbad hm).mono ?_
    rintro e w1 ⟨rfl, rfl⟩
    obtain ⟨w1, hw1⟩ : ∃ w1, w1 = w := ⟨_, rfl⟩
    subst hw1
    have HB1 := HB
    have HN : Hid (∀ ad, a = some ad → ∀ j u, (U8 xs)[j]? = some u → (w1.alloc (.cells #[] 5)).cell? (ad.add j) = some u) := by
      intro ad had
      have := HB1.out.later (below_alloc w1 (.cells #[] 5))
      rw [had] at this
      exact this.news
    have HL : Hid ((U8 xs).length = m * 1) := by show _ = _; rw [List.length_map, HB1.out.len, Nat.mul_one]
    have HM : Hid ((w1.alloc (.cells #[] 5)).ownsRow w1.heap.size 5 1 (.slice (some ⟨w1.heap.size, 0, none⟩) 0 0) 0 []) := World.ownsRow_made w1 #[] 0 (Nat.le_refl _) (Nat.zero_le _) rfl
    go_wp2_with (at_builtin; refine wpList_append_ownany _ rfl (.tmp 17) (.tmp 18) 24 rfl w1.heap.size 5 i0 (.int .u8 0) 1 1 Tryz.underlying24 hi hz0 hz1 hz2 rfl (by decide) _ 0 [] rfl HM.out a m c (U8 xs) rfl HNn.out HL.out HN.out (ones_u8 _) (by unfold maxLen; omega) (by omega) (by simp) ?_)
    intro v4 w4 hown4 hgrow4
    have hown4' : w4.ownsRow w1.heap.size 5 1 v4 m (U8 xs) := by simpa using hown4
    have B4 : Hid (Below w1.heap.size w1 w4) := ((Below.refl _ w1).alloc (Nat.le_refl _) _).grown hgrow4 (by simp) (by intro k hk; simp [Value.ownBlock] at hk; omega)
    obtain ⟨q4, c4, rfl, in4, hc4, -, -⟩ := own_in hown4' HB1.out.byte
    have I4 : Hid (BIn w4 q4 m xs) := in4
    clear hown4 hown4' hgrow4 HN HL HM in4
    go_wp2_with fail
    by_cases hodd : m % 64 = 0
    · refine (load_bad q4 m c4 w4 hodd (by omega) hm).mono ?_
      rintro e w5 ⟨rfl, rfl⟩
      have FF : Hid (Below w1.heap.size w1 w4) := B4.out
      clear B4 I4
      go_wp2_with fail
      go_ret2
      exact ⟨FF.out, .inl rfl⟩
    · refine (load_odd q4 m c4 w4 hodd hm).mono ?_
      rintro e w5 ⟨rfl, rfl⟩
      have FF : Hid (Below w1.heap.size w1 w4) := B4.out
      clear B4 I4
      go_wp2_with fail
      go_ret2
      exact ⟨FF.out, .inl rfl⟩
  · obtain ⟨n, hmn⟩ : ∃ n, m = 64 * n := ⟨m / 64, by omega⟩
    have hn1 : 1 ≤ n := by omega
    have hn3 : n ≤ 4096 := by omega
    have HMN : Hid (m = 64 * n) := hmn
    obtain ⟨g0, o0, rfl, -⟩ := HB.out.cells (by omega)
    clear hmn
    go_enter Tryz.func5, Tryz.ntmps5
    go_wp2_with fail
    refine (rload_good g0 o0 m c n xs w HB.out HMN.out hn1 hn3).mono ?_
    rintro e w1 ⟨pr, rfl, r1, b1⟩
    obtain ⟨a, had⟩ : ∃ a, a = some (⟨g0, o0, none⟩ : Addr) := ⟨_, rfl⟩
    have HB1 : Hid (BIn w1 a m xs) := by rw [had]; exact HB.out.later b1
    rw [← had]
    rw [← had] at HNn
    have R1 : Hid (Ref w1 (fun k => w.heap.size ≤ k) pr n xs [] ∧ Below w.heap.size w w1) := ⟨r1, b1⟩
    clear r1 b1 had
    have HN : Hid (∀ ad, a = some ad → ∀ j u, (U8 xs)[j]? = some u → (w1.alloc (.cells #[] 5)).cell? (ad.add j) = some u) := by
      intro ad had
      have := HB1.out.later (below_alloc w1 (.cells #[] 5))
      rw [had] at this
      exact this.news
    have HL : Hid ((U8 xs).length = m * 1) := by show _ = _; rw [List.length_map, HB1.out.len, Nat.mul_one]
    have HM : Hid ((w1.alloc (.cells #[] 5)).ownsRow w1.heap.size 5 1 (.slice (some ⟨w1.heap.size, 0, none⟩) 0 0) 0 []) := World.ownsRow_made w1 #[] 0 (Nat.le_refl _) (Nat.zero_le _) rfl
    go_wp2_with (at_builtin; refine wpList_append_ownany _ rfl (.tmp 17) (.tmp 18) 24 rfl w1.heap.size 5 i0 (.int .u8 0) 1 1 Tryz.underlying24 hi hz0 hz1 hz2 rfl (by decide) _ 0 [] rfl HM.out a m c (U8 xs) rfl HNn.out HL.out HN.out (ones_u8 _) (by unfold maxLen; omega) (by omega) (by simp) ?_)
    intro v4 w4 hown4 hgrow4
    have hown4' : w4.ownsRow w1.heap.size 5 1 v4 m (U8 xs) := by simpa using hown4
    have B4 : Hid (Below w1.heap.size w1 w4) := ((Below.refl _ w1).alloc (Nat.le_refl _) _).grown hgrow4 (by simp) (by intro k hk; simp [Value.ownBlock] at hk; omega)
    obtain ⟨q4, c4, rfl, in4, hc4, -, -⟩ := own_in hown4' HB1.out.byte
    have I4 : Hid (BIn w4 q4 m xs) := in4
    clear hown4 hown4' hgrow4 HN HL HM in4
    go_wp2_with fail
    obtain ⟨g4, o4, rfl, -⟩ := I4.out.cells (by have := HMN.out; omega)
    refine (load_good g4 o4 m c4 n xs w4 I4.out HMN.out hc4 hn1 hn3).mono ?_
    rintro e w5 ⟨pd, rfl, d5, b5⟩
    have TW0 : Hid (∃ ws Sd Sr, Two w w5 pd pr n xs ws Sd Sr ∧ ws.length ≤ 0) := by
      have b15 : Below w1.heap.size w1 w5 := below_then B4.out b5
      refine ⟨[], fun k => w4.heap.size ≤ k ∧ k < w5.heap.size, fun k => w.heap.size ≤ k ∧ k < w1.heap.size, ⟨d5.mono fun k hk hs => ⟨hs, hk⟩, (R1.out.1.mono fun k hk hs => ⟨hs, hk⟩).later b15, fun k hk => ⟨?_, hk.2⟩, fun k hk => ⟨hk.1, Nat.lt_of_lt_of_le hk.2 b15.size⟩, fun k h1 h2 => ?_, below_then R1.out.2 b15⟩, Nat.le_refl _⟩
      · have := R1.out.2.size; have := B4.out.size; omega
      · have := B4.out.size; omega
    clear b5 d5 B4 I4 R1
    go_wp2_with (go_at_call 8; refine (num_any _ _).mono ?_; rintro e wn ⟨rfl, rfl⟩)
    go_loopw [10] (fun i wr => ∃ k : Nat, k ≤ 20 ∧ k ≤ n2 ∧ i = .int .i64 k ∧ Hid (∃ ws Sd Sr, Two w wr pd pr n xs ws Sd Sr ∧ ws.length ≤ k)) (fun i _ => 20 - (intOf i).toNat)
    case atStart => exact ⟨0, Nat.zero_le _, Nat.zero_le _, rfl, TW0.out⟩
    case round =>
      obtain ⟨k, hk, hk2, rfl, HI⟩ := hrel
      clear TW0
      obtain ⟨wv, hwv⟩ : ∃ wv, wv = wr := ⟨_, rfl⟩
      subst hwv
      by_cases hlt : k < n2 ∧ k < 20
      · obtain ⟨ws, Sd, Sr, tw0, hwl⟩ := HI.out
        obtain ⟨t, htk⟩ : ∃ t, l[k]? = some t := ⟨_, List.getElem?_eq_getElem (by omega)⟩
        obtain ⟨g, o, rfl, hcell⟩ := HW.out.cells (by omega)
        obtain ⟨e0, e1, mi⟩ := hcell k t htk
        have HC : Hid (∀ W, Below w.heap.size w W → W.cell? ⟨g, o + k * 2, none⟩ = some (.int .i64 t.s) ∧ W.cell? ⟨g, o + k * 2 + 1, none⟩ = some (.slice t.q t.n t.c) ∧ BIn W t.q t.n t.b) := fun W hW =>
          ⟨(hW.cell (p := ⟨g, o + k * 2, none⟩) (World.block_lt_of_cell? w _ e0)).trans e0, (hW.cell (p := ⟨g, o + k * 2 + 1, none⟩) (World.block_lt_of_cell? w _ e1)).trans e1, mi.later hW⟩
        have TW1 : Hid (Two w wv pd pr n xs ws Sd Sr) := tw0
        have i1 : (k : Int) < (n2 : Int) := by omega
        have i2 : (k : Int) < 20 := by omega
        have i0' : (0 : Int) ≤ (k : Int) := by omega
        clear HI tw0 hcell e0 e1 mi
        go_wp2_with fail
        refine wp_region_noPanic ?_
        refine wp_region_held_drew (S := fun w' => Below w.heap.size w w') (by kernel_rfl) (below_then TW1.out.low (below_drawn 1)) (fun hHeld => ?_)
        have D8 : Hid (Below w.heap.size w wv.drew) := hHeld
        have TW : Hid (Two w wv.drew pd pr n xs ws Sd Sr) := TW1.out.later (below_drawn 1)
        clear TW1
        generalize wv.drew = wd at *
        by_cases hs : 0 ≤ t.s ∧ t.s < (n : Int)
        · obtain ⟨si, hsi⟩ : ∃ si : Nat, t.s = si := ⟨t.s.toNat, by omega⟩
          rw [hsi] at HC
          have hsn : si < n := by omega
          clear hs hsi
          refine wpAnyH_take (i := 0) (v := ?vag13) (by simp; rfl) (by kernel_rfl) (by kernel_rfl) (by kernel_rfl) (fun _ _ _ h => h) (Or.inl ⟨by rfl, ?yag13⟩) hHeld ?rag13
          case yag13 => intro w hSw; clear hSw; go_simp; with_reducible rfl
          simp only [Act.put, List.setIfInBounds_toArray, List.set_cons_zero, List.set_cons_succ]
          refine wpAnyH_take (i := 1) (v := ?vag14) (by simp; rfl) (by kernel_rfl) (by kernel_rfl) (by kernel_rfl) (fun _ _ _ h => h) (Or.inl ⟨by rfl, ?yag14⟩) hHeld ?rag14
          case yag14 => intro w hSw; clear hSw; go_simp; with_reducible rfl
          simp only [Act.put, List.setIfInBounds_toArray, List.set_cons_zero, List.set_cons_succ]
          refine wpAnyH_take (i := 2) (v := ?vag15) (by simp; rfl) (by kernel_rfl) (by kernel_rfl) (by kernel_rfl) (fun _ _ _ h => h) (Or.inl ⟨by rfl, ?yag15⟩) hHeld ?rag15
          case yag15 => intro w hSw; clear hSw; go_simp; with_reducible rfl
          simp only [Act.put, List.setIfInBounds_toArray, List.set_cons_zero, List.set_cons_succ]
          refine wpAnyH_take (i := 3) (v := ?vag16) (by simp; rfl) (by kernel_rfl) (by kernel_rfl) (by kernel_rfl) (fun _ _ _ h => h) (Or.inl ⟨by rfl, ?yag16⟩) hHeld ?rag16
          case yag16 => intro w hSw; clear hSw; go_simp; with_reducible rfl
          simp only [Act.put, List.setIfInBounds_toArray, List.set_cons_zero, List.set_cons_succ]
          refine wpAnyH_take (i := 4) (v := ?vag17) (by simp; rfl) (by kernel_rfl) (by kernel_rfl) (by kernel_rfl) (fun _ _ _ h => h) (Or.inl ⟨by rfl, ?yag17⟩) hHeld ?rag17
          case yag17 => intro w hSw; clear hSw; go_simp; with_reducible rfl
          simp only [Act.put, List.setIfInBounds_toArray, List.set_cons_zero, List.set_cons_succ]
          refine wpAnyH_take (i := 5) (v := ?vag18) (by simp; rfl) (by kernel_rfl) (by kernel_rfl) (by kernel_rfl) (fun _ _ _ h => h) (Or.inl ⟨by rfl, ?yag18⟩) hHeld ?rag18
          case yag18 => intro w hSw; have z := (HC.out _ hSw).1; clear hSw; go_simp; with_reducible rfl
          simp only [Act.put, List.setIfInBounds_toArray, List.set_cons_zero, List.set_cons_succ]
          refine wpAnyH_take (i := 6) (v := ?vag19) (by simp; rfl) (by kernel_rfl) (by kernel_rfl) (by kernel_rfl) (fun _ _ _ h => h) (Or.inl ⟨by rfl, ?yag19⟩) hHeld ?rag19
          case yag19 => intro w hSw; clear hSw; go_simp; with_reducible rfl
          simp only [Act.put, List.setIfInBounds_toArray, List.set_cons_zero, List.set_cons_succ]
          refine wpAnyH_take (i := 7) (v := ?vag20) (by simp; rfl) (by kernel_rfl) (by kernel_rfl) (by kernel_rfl) (fun _ _ _ h => h) (Or.inl ⟨by rfl, ?yag20⟩) hHeld ?rag20
          case yag20 => intro w hSw; clear hSw; go_simp; with_reducible rfl
          simp only [Act.put, List.setIfInBounds_toArray, List.set_cons_zero, List.set_cons_succ]
          refine wpAnyH_take (i := 8) (v := ?vag21) (by simp; rfl) (by kernel_rfl) (by kernel_rfl) (by kernel_rfl) (fun _ _ _ h => h) (Or.inl ⟨by rfl, ?yag21⟩) hHeld ?rag21
          case yag21 => intro w hSw; clear hSw; go_simp; with_reducible rfl
          simp only [Act.put, List.setIfInBounds_toArray, List.set_cons_zero, List.set_cons_succ]
          refine wpAnyH_take (i := 9) (v := ?vag22) (by simp; rfl) (by kernel_rfl) (by kernel_rfl) (by kernel_rfl) (fun _ _ _ h => h) (Or.inl ⟨by rfl, ?yag22⟩) hHeld ?rag22
          case yag22 => intro w hSw; clear hSw; go_simp; with_reducible rfl
          simp only [Act.put, List.setIfInBounds_toArray, List.set_cons_zero, List.set_cons_succ]
          refine wpAnyH_take (i := 10) (v := ?vag23) (by simp; rfl) (by kernel_rfl) (by kernel_rfl) (by kernel_rfl) (fun _ _ _ h => h) (Or.inl ⟨by rfl, ?yag23⟩) hHeld ?rag23
          case yag23 => intro w hSw; have z := (HC.out _ hSw).2.1; clear hSw; go_simp; with_reducible rfl
          simp only [Act.put, List.setIfInBounds_toArray, List.set_cons_zero, List.set_cons_succ]
          refine wpAnyH_ready (rs := [11]) (by kernel_rfl) (by simp) ?_
          refine AllReadyH.cons (by simp; rfl) (fun Kc hKc => ?_) AllReadyH.nil
          go_simp
          refine (full_any t.q t.n t.c t.b _ (HC.out _ D8.out).2.2).mono ?_
          rintro e wf ⟨qf, qfc, rfl, qfb, qfl⟩
          have QFB : Hid (BIn wf qf 64 (fl64 t.b)) := qfb
          have QFL : Hid (Below wd.heap.size wd wf) := qfl
          have D9 : Hid (Below w.heap.size w wf) := below_then D8.out qfl
          refine hKc.out _ _ D9.out (fun hHeld => ?_)
          clear hKc Kc qfb qfl
          refine wpAnyH_ready (rs := [12]) (by kernel_rfl) (by simp) ?_
          refine AllReadyH.cons (by simp; rfl) (fun Kc hKc => ?_) AllReadyH.nil
          go_simp
          refine (rwrite_good (TW.out.later QFL.out).rf si (by omega) qf qfc (fl64 t.b) QFB.out (by omega)).mono ?_
          rintro e wg ⟨rfl, rg, kg⟩
          have HA : Hid (_) := (TW.out.later QFL.out).half rg kg
          have DA : Hid (Below w.heap.size w wg) := HA.out.low
          refine hKc.out _ _ DA.out (fun hHeld => ?_)
          clear hKc Kc rg kg
          refine wpAnyH_take (i := 13) (v := ?vag24) (by simp; rfl) (by kernel_rfl) (by kernel_rfl) (by kernel_rfl) (fun _ _ _ h => h) (Or.inl ⟨by rfl, ?yag24⟩) hHeld ?rag24
          case yag24 => intro w hSw; clear hSw; go_simp; with_reducible rfl
          simp only [Act.put, List.setIfInBounds_toArray, List.set_cons_zero, List.set_cons_succ]
          clear hHeld D8 D9 QFB QFL TW
          refine wpAnyH_done (by kernel_rfl) (NoPanic.normal ?_) _
          go_wp2_with fail
          refine wp_region_noPanic ?_
          refine wp_region_held_drew (S := fun w' => Below w.heap.size w w') (by kernel_rfl) (below_then DA.out (below_drawn 1)) (fun hHeld => ?_)
          have DE : Hid (Below w.heap.size w wg.drew) := hHeld
          have dw : Below wg.heap.size wg wg.drew := below_drawn 1
          have HA2 : Hid (_) := HA.out.later dw
          clear HA DA dw
          generalize wg.drew = we at *
          refine wpAnyH_take (i := 0) (v := ?vah25) (by simp; rfl) (by kernel_rfl) (by kernel_rfl) (by kernel_rfl) (fun _ _ _ h => h) (Or.inl ⟨by rfl, ?yah25⟩) hHeld ?rah25
          case yah25 => intro w hSw; clear hSw; go_simp; with_reducible rfl
          simp only [Act.put, List.setIfInBounds_toArray, List.set_cons_zero, List.set_cons_succ]
          refine wpAnyH_take (i := 1) (v := ?vah26) (by simp; rfl) (by kernel_rfl) (by kernel_rfl) (by kernel_rfl) (fun _ _ _ h => h) (Or.inl ⟨by rfl, ?yah26⟩) hHeld ?rah26
          case yah26 => intro w hSw; clear hSw; go_simp; with_reducible rfl
          simp only [Act.put, List.setIfInBounds_toArray, List.set_cons_zero, List.set_cons_succ]
          refine wpAnyH_take (i := 2) (v := ?vah27) (by simp; rfl) (by kernel_rfl) (by kernel_rfl) (by kernel_rfl) (fun _ _ _ h => h) (Or.inl ⟨by rfl, ?yah27⟩) hHeld ?rah27
          case yah27 => intro w hSw; clear hSw; go_simp; with_reducible rfl
          simp only [Act.put, List.setIfInBounds_toArray, List.set_cons_zero, List.set_cons_succ]
          refine wpAnyH_take (i := 3) (v := ?vah28) (by simp; rfl) (by kernel_rfl) (by kernel_rfl) (by kernel_rfl) (fun _ _ _ h => h) (Or.inl ⟨by rfl, ?yah28⟩) hHeld ?rah28
          case yah28 => intro w hSw; clear hSw; go_simp; with_reducible rfl
          simp only [Act.put, List.setIfInBounds_toArray, List.set_cons_zero, List.set_cons_succ]
          refine wpAnyH_take (i := 4) (v := ?vah29) (by simp; rfl) (by kernel_rfl) (by kernel_rfl) (by kernel_rfl) (fun _ _ _ h => h) (Or.inl ⟨by rfl, ?yah29⟩) hHeld ?rah29
          case yah29 => intro w hSw; clear hSw; go_simp; with_reducible rfl
          simp only [Act.put, List.setIfInBounds_toArray, List.set_cons_zero, List.set_cons_succ]
          refine wpAnyH_take (i := 5) (v := ?vah30) (by simp; rfl) (by kernel_rfl) (by kernel_rfl) (by kernel_rfl) (fun _ _ _ h => h) (Or.inl ⟨by rfl, ?yah30⟩) hHeld ?rah30
          case yah30 => intro w hSw; have z := (HC.out _ hSw).1; clear hSw; go_simp; with_reducible rfl
          simp only [Act.put, List.setIfInBounds_toArray, List.set_cons_zero, List.set_cons_succ]
          refine wpAnyH_take (i := 6) (v := ?vah31) (by simp; rfl) (by kernel_rfl) (by kernel_rfl) (by kernel_rfl) (fun _ _ _ h => h) (Or.inl ⟨by rfl, ?yah31⟩) hHeld ?rah31
          case yah31 => intro w hSw; clear hSw; go_simp; with_reducible rfl
          simp only [Act.put, List.setIfInBounds_toArray, List.set_cons_zero, List.set_cons_succ]
          refine wpAnyH_take (i := 7) (v := ?vah32) (by simp; rfl) (by kernel_rfl) (by kernel_rfl) (by kernel_rfl) (fun _ _ _ h => h) (Or.inl ⟨by rfl, ?yah32⟩) hHeld ?rah32
          case yah32 => intro w hSw; clear hSw; go_simp; with_reducible rfl
          simp only [Act.put, List.setIfInBounds_toArray, List.set_cons_zero, List.set_cons_succ]
          refine wpAnyH_take (i := 8) (v := ?vah33) (by simp; rfl) (by kernel_rfl) (by kernel_rfl) (by kernel_rfl) (fun _ _ _ h => h) (Or.inl ⟨by rfl, ?yah33⟩) hHeld ?rah33
          case yah33 => intro w hSw; clear hSw; go_simp; with_reducible rfl
          simp only [Act.put, List.setIfInBounds_toArray, List.set_cons_zero, List.set_cons_succ]
          refine wpAnyH_take (i := 9) (v := ?vah34) (by simp; rfl) (by kernel_rfl) (by kernel_rfl) (by kernel_rfl) (fun _ _ _ h => h) (Or.inl ⟨by rfl, ?yah34⟩) hHeld ?rah34
          case yah34 => intro w hSw; clear hSw; go_simp; with_reducible rfl
          simp only [Act.put, List.setIfInBounds_toArray, List.set_cons_zero, List.set_cons_succ]
          refine wpAnyH_take (i := 10) (v := ?vah35) (by simp; rfl) (by kernel_rfl) (by kernel_rfl) (by kernel_rfl) (fun _ _ _ h => h) (Or.inl ⟨by rfl, ?yah35⟩) hHeld ?rah35
          case yah35 => intro w hSw; have z := (HC.out _ hSw).2.1; clear hSw; go_simp; with_reducible rfl
          simp only [Act.put, List.setIfInBounds_toArray, List.set_cons_zero, List.set_cons_succ]
          refine wpAnyH_ready (rs := [11]) (by kernel_rfl) (by simp) ?_
          refine AllReadyH.cons (by simp; rfl) (fun Kc hKc => ?_) AllReadyH.nil
          go_simp
          refine (full_any t.q t.n t.c t.b _ (HC.out _ DE.out).2.2).mono ?_
          rintro e wh ⟨qh, qhc, rfl, qhb, qhl⟩
          have QHB : Hid (BIn wh qh 64 (fl64 t.b)) := qhb
          have QHL : Hid (Below we.heap.size we wh) := qhl
          have DF : Hid (Below w.heap.size w wh) := below_then DE.out qhl
          refine hKc.out _ _ DF.out (fun hHeld => ?_)
          clear hKc Kc qhb qhl
          refine wpAnyH_ready (rs := [12]) (by kernel_rfl) (by simp) ?_
          refine AllReadyH.cons (by simp; rfl) (fun Kc hKc => ?_) AllReadyH.nil
          go_simp
          refine (write_good (HA2.out.later QHL.out).dk si (by omega) qh qhc (fl64 t.b) QHB.out (by omega)).mono ?_
          rintro e wi ⟨rfl, rg, kg⟩
          have T9 : Hid (_) := (HA2.out.later QHL.out).two rg kg
          have DG : Hid (Below w.heap.size w wi) := T9.out.low
          refine hKc.out _ _ DG.out (fun hHeld => ?_)
          clear hKc Kc rg kg
          clear hHeld DE DF QHB QHL HA2
          refine wpAnyH_done (by kernel_rfl) (NoPanic.normal ?_) _
          have F9 : Hid (∃ ws Sd Sr, Two w wi pd pr n xs ws Sd Sr ∧ ws.length ≤ k + 1) := ⟨_, _, _, T9.out, by rw [List.length_append]; simp; omega⟩
          clear T9 DG
          go_wp2_with fail
          go_roundw
          case rel => exact ⟨k + 1, by omega, by omega, by go_num, F9.out⟩
          case measure => simp [intOf]; omega
        · 
          refine wpAnyH_take (i := 0) (v := ?vab1) (by simp; rfl) (by kernel_rfl) (by kernel_rfl) (by kernel_rfl) (fun _ _ _ h => h) (Or.inl ⟨by rfl, ?yab1⟩) hHeld ?rab1
          case yab1 => intro w hSw; clear hSw; go_simp; with_reducible rfl
          simp only [Act.put, List.setIfInBounds_toArray, List.set_cons_zero, List.set_cons_succ]
          refine wpAnyH_take (i := 1) (v := ?vab2) (by simp; rfl) (by kernel_rfl) (by kernel_rfl) (by kernel_rfl) (fun _ _ _ h => h) (Or.inl ⟨by rfl, ?yab2⟩) hHeld ?rab2
          case yab2 => intro w hSw; clear hSw; go_simp; with_reducible rfl
          simp only [Act.put, List.setIfInBounds_toArray, List.set_cons_zero, List.set_cons_succ]
          refine wpAnyH_take (i := 2) (v := ?vab3) (by simp; rfl) (by kernel_rfl) (by kernel_rfl) (by kernel_rfl) (fun _ _ _ h => h) (Or.inl ⟨by rfl, ?yab3⟩) hHeld ?rab3
          case yab3 => intro w hSw; clear hSw; go_simp; with_reducible rfl
          simp only [Act.put, List.setIfInBounds_toArray, List.set_cons_zero, List.set_cons_succ]
          refine wpAnyH_take (i := 3) (v := ?vab4) (by simp; rfl) (by kernel_rfl) (by kernel_rfl) (by kernel_rfl) (fun _ _ _ h => h) (Or.inl ⟨by rfl, ?yab4⟩) hHeld ?rab4
          case yab4 => intro w hSw; clear hSw; go_simp; with_reducible rfl
          simp only [Act.put, List.setIfInBounds_toArray, List.set_cons_zero, List.set_cons_succ]
          refine wpAnyH_take (i := 4) (v := ?vab5) (by simp; rfl) (by kernel_rfl) (by kernel_rfl) (by kernel_rfl) (fun _ _ _ h => h) (Or.inl ⟨by rfl, ?yab5⟩) hHeld ?rab5
          case yab5 => intro w hSw; clear hSw; go_simp; with_reducible rfl
          simp only [Act.put, List.setIfInBounds_toArray, List.set_cons_zero, List.set_cons_succ]
          refine wpAnyH_take (i := 5) (v := ?vab6) (by simp; rfl) (by kernel_rfl) (by kernel_rfl) (by kernel_rfl) (fun _ _ _ h => h) (Or.inl ⟨by rfl, ?yab6⟩) hHeld ?rab6
          case yab6 => intro w hSw; have z := (HC.out _ hSw).1; clear hSw; go_simp; with_reducible rfl
          simp only [Act.put, List.setIfInBounds_toArray, List.set_cons_zero, List.set_cons_succ]
          refine wpAnyH_take (i := 6) (v := ?vab7) (by simp; rfl) (by kernel_rfl) (by kernel_rfl) (by kernel_rfl) (fun _ _ _ h => h) (Or.inl ⟨by rfl, ?yab7⟩) hHeld ?rab7
          case yab7 => intro w hSw; clear hSw; go_simp; with_reducible rfl
          simp only [Act.put, List.setIfInBounds_toArray, List.set_cons_zero, List.set_cons_succ]
          refine wpAnyH_take (i := 7) (v := ?vab8) (by simp; rfl) (by kernel_rfl) (by kernel_rfl) (by kernel_rfl) (fun _ _ _ h => h) (Or.inl ⟨by rfl, ?yab8⟩) hHeld ?rab8
          case yab8 => intro w hSw; clear hSw; go_simp; with_reducible rfl
          simp only [Act.put, List.setIfInBounds_toArray, List.set_cons_zero, List.set_cons_succ]
          refine wpAnyH_take (i := 8) (v := ?vab9) (by simp; rfl) (by kernel_rfl) (by kernel_rfl) (by kernel_rfl) (fun _ _ _ h => h) (Or.inl ⟨by rfl, ?yab9⟩) hHeld ?rab9
          case yab9 => intro w hSw; clear hSw; go_simp; with_reducible rfl
          simp only [Act.put, List.setIfInBounds_toArray, List.set_cons_zero, List.set_cons_succ]
          refine wpAnyH_take (i := 9) (v := ?vab10) (by simp; rfl) (by kernel_rfl) (by kernel_rfl) (by kernel_rfl) (fun _ _ _ h => h) (Or.inl ⟨by rfl, ?yab10⟩) hHeld ?rab10
          case yab10 => intro w hSw; clear hSw; go_simp; with_reducible rfl
          simp only [Act.put, List.setIfInBounds_toArray, List.set_cons_zero, List.set_cons_succ]
          refine wpAnyH_take (i := 10) (v := ?vab11) (by simp; rfl) (by kernel_rfl) (by kernel_rfl) (by kernel_rfl) (fun _ _ _ h => h) (Or.inl ⟨by rfl, ?yab11⟩) hHeld ?rab11
          case yab11 => intro w hSw; have z := (HC.out _ hSw).2.1; clear hSw; go_simp; with_reducible rfl
          simp only [Act.put, List.setIfInBounds_toArray, List.set_cons_zero, List.set_cons_succ]
          refine wpAnyH_ready (rs := [11]) (by kernel_rfl) (by simp) ?_
          refine AllReadyH.cons (by simp; rfl) (fun Kc hKc => ?_) AllReadyH.nil
          go_simp
          refine (full_any t.q t.n t.c t.b _ (HC.out _ D8.out).2.2).mono ?_
          rintro e wf ⟨qf, qfc, rfl, qfb, qfl⟩
          have QFB : Hid (BIn wf qf 64 (fl64 t.b)) := qfb
          have QFL : Hid (Below wd.heap.size wd wf) := qfl
          have D9 : Hid (Below w.heap.size w wf) := below_then D8.out qfl
          refine hKc.out _ _ D9.out (fun hHeld => ?_)
          clear hKc Kc qfb qfl
          refine wpAnyH_ready (rs := [12]) (by kernel_rfl) (by simp) ?_
          refine AllReadyH.cons (by simp; rfl) (fun Kc hKc => ?_) AllReadyH.nil
          go_simp
          refine (rwrite_bad (TW.out.later QFL.out).rf t.s _ (by omega)).mono ?_
          rintro e wg ⟨rfl, rfl⟩
          refine hKc.out _ _ D9.out (fun hHeld => ?_)
          clear hKc Kc
          refine wpAnyH_take (i := 13) (v := ?vab12) (by simp; rfl) (by kernel_rfl) (by kernel_rfl) (by kernel_rfl) (fun _ _ _ h => h) (Or.inl ⟨by rfl, ?yab12⟩) hHeld ?rab12
          case yab12 => intro w hSw; clear hSw; go_simp; with_reducible rfl
          simp only [Act.put, List.setIfInBounds_toArray, List.set_cons_zero, List.set_cons_succ]
          clear hHeld D8
          refine wpAnyH_done (by kernel_rfl) (NoPanic.normal ?_) _
          have F9 : Hid (∃ ws Sd Sr, Two w wf pd pr n xs ws Sd Sr ∧ ws.length ≤ k + 1) := ⟨_, _, _, TW.out.later QFL.out, by omega⟩
          clear TW QFL QFB D9
          go_wp2_with fail
          go_roundw
          case rel => exact ⟨k + 1, by omega, by omega, by go_num, F9.out⟩
          case measure => simp [intOf]; omega
      · obtain ⟨ws, Sd, Sr, tw0, hwl⟩ := HI.out
        have TF : Hid (Two w wv pd pr n xs ws Sd Sr) := tw0
        clear tw0 HI
        by_cases h1 : k < n2
        · have i1 : (k : Int) < (n2 : Int) := by omega
          have i2 : ¬ (k : Int) < 20 := by omega
          go_wp2_with fail
          go_ret2
          exact ⟨TF.out.low, .inr ⟨pd, pr, rfl, n, ws, ⟨Sd, Sr, TF.out⟩, by omega⟩⟩
        · have i1 : ¬ (k : Int) < (n2 : Int) := by omega
          go_wp2_with fail
          go_ret2
          exact ⟨TF.out.low, .inr ⟨pd, pr, rfl, n, ws, ⟨Sd, Sr, TF.out⟩, by omega⟩⟩
end Go.Proofs.YtefnkjajjidfaaaGreatDoor
namespace Go.Proofs.YtefnkjajjidfaaaGreatDoor
open Go.RowKit


section
variable {P : Program} {ops : Array Oper} {o : Oper} {a : Act} {w w' : World} {Q : Exit → Act → World → Prop} {K : Act → World → Prop}
theorem sq_conv (hgd : Region.wanted o (yielded ops a.tmps) = true) (f t : TypeId) {x : Operand} (ho : o.op = .convert f t x) {u v : Value} (hx : a.eval x = u) (hrun : (convert f t u).run P w = .ok v w) (h : K (a.put o.dst v) w) : if Region.wanted o (yielded ops a.tmps) = true then Oper.wp P o a w K Q else K (a.put o.dst undef) w :=
  sq_val hgd (by unfold execOp; simp only [ho, hx, Sem.run_bind, hrun, Result.andThen_ok, Sem.run_pure]) h
end
/-- write number k of a list that was told -/
theorem Told.at {w : World} {B g : Nat} {ws : List Wr} {vs : List Value} (h : Told w B g ws vs) {n : Nat} (hf : Fit n ws) (k : Nat) (hk : k < ws.length) :
    ∃ gb cb, w.cell? ⟨g, k * 2, none⟩ = some (.int .i64 (ws[k].s : Int)) ∧ w.cell? ⟨g, k * 2 + 1, none⟩ = some (.slice (some ⟨gb, 0, none⟩) 64 cb) ∧ BIn w (some ⟨gb, 0, none⟩) 64 ws[k].b := by
  have hkv : k < vs.length := by rw [h.len]; exact hk
  have hd := h.each k hk hkv
  obtain ⟨pb, cb, e, hb, _⟩ := own_in hd (hf.at k hk).2.2
  obtain ⟨gb, ob, rfl, _⟩ := hb.cells (by omega)
  have h00 : ob = 0 := by
    obtain ⟨_, _, e2, _, h3⟩ := own_slice hd
    rw [e] at e2
    simp only [Value.slice.injEq] at e2
    obtain ⟨g3, h4⟩ := h3 ⟨gb, ob, none⟩ e2.1.symm
    simp only [Addr.mk.injEq] at h4
    exact h4.2.1
  subst h00
  exact ⟨gb, cb, h.sect k hk, by rw [h.data k hkv, e], hb⟩
set_option maxHeartbeats 4000000 in
set_option maxRecDepth 100000 in
theorem unchanged_any {w0 w : World} {pd pr n : Nat} {xs : List Int} {ws : List Wr} {Sd Sr : Nat → Prop} (h : Two w0 w pd pr n xs ws Sd Sr) (hk : ws.length ≤ 20) :
    Calls Tryz.prog 11 #[.pointer (some ⟨pd, 0, none⟩), .pointer (some ⟨pr, 0, none⟩)] w fun e w' => e = .returned (.bool true) ∧ Below w.heap.size w w' := by
  have HT : Hid (Two w0 w pd pr n xs ws Sd Sr) := h
  obtain ⟨m, hm⟩ : ∃ m, ws.length = m := ⟨_, rfl⟩
  have HM : Hid (ws.length = m) := hm
  have hm20 : m ≤ 20 := by omega
  clear h
  go_enter Tryz.func11, Tryz.ntmps11
  go_wp2_with fail
  refine (waiting_any HT.out.dk (by omega)).mono ?_
  rintro e w1 ⟨gt, vt, rfl, td, b1⟩
  have TD : Hid (Told w1 w.heap.size gt ws vt) := td
  have DK : Hid (Dsk w1 Sd pd n xs ws) := HT.out.dk.later b1
  have B1 : Hid (Below w.heap.size w w1) := b1
  obtain ⟨g0, L, cap, v, vs, rd0⟩ := HT.out.rf
  have rd := rd0.later b1
  have RDH : Hid (RD w1 Sr pr n xs ws g0 L cap v vs) := rd
  have HBX : Hid (Bytes xs) := rd.db
  have HFIT : Hid (Fit n ws) := rd.fit
  obtain ⟨qv, cv, rfl, -, -⟩ := own_slice rd.wr
  have HR0 : Hid (∀ W, Below w1.heap.size w1 W → W.cell? ⟨pr, 0, none⟩ = some (.slice (some ⟨g0, 0, none⟩) L cap) ∧ W.cell? ⟨pr, 1, none⟩ = some (.slice qv m cv) ∧ BIn W (some ⟨g0, 0, none⟩) L xs) := fun W hW => by
    have r2 := rd.later hW
    obtain ⟨q', c', e', hb, -, -, -⟩ := own_in r2.dur r2.db
    cases e'
    rw [← hm]
    exact ⟨r2.cell0, r2.cell1, hb⟩
  rw [hm]
  clear rd0 rd td b1 hm
  have hs0 : ((strOfNums xs).toList == (strOfNums xs).toList) = true := by simp
  go_wp2_with fail
  refine wp_region_noPanic ?_
  refine wp_region_held_drew (S := fun w' => Below w1.heap.size w1 w') (by kernel_rfl) (below_drawn 1) (fun hHeld => ?_)
  have D2 : Hid (Below w1.heap.size w1 w1.drew) := hHeld
  generalize w1.drew = wd at *
  refine wpAnyH_take (i := 0) (v := ?vae1) (by simp; rfl) (by kernel_rfl) (by kernel_rfl) (by kernel_rfl) (fun _ _ _ h => h) (Or.inl ⟨by rfl, ?yae1⟩) hHeld ?rae1
  case yae1 => intro w hSw; clear hSw; go_simp; with_reducible rfl
  simp only [Act.put, List.setIfInBounds_toArray, List.set_cons_zero, List.set_cons_succ]
  refine wpAnyH_take (i := 3) (v := ?vae2) (by simp; rfl) (by kernel_rfl) (by kernel_rfl) (by kernel_rfl) (fun _ _ _ h => h) (Or.inl ⟨by rfl, ?yae2⟩) hHeld ?rae2
  case yae2 => intro w hSw; clear hSw; go_simp; with_reducible rfl
  simp only [Act.put, List.setIfInBounds_toArray, List.set_cons_zero, List.set_cons_succ]
  refine wpAnyH_take (i := 4) (v := ?vae3) (by simp; rfl) (by kernel_rfl) (by kernel_rfl) (by kernel_rfl) (fun _ _ _ h => h) (Or.inl ⟨by rfl, ?yae3⟩) hHeld ?rae3
  case yae3 => intro w hSw; clear hSw; go_simp; with_reducible rfl
  simp only [Act.put, List.setIfInBounds_toArray, List.set_cons_zero, List.set_cons_succ]
  refine wpAnyH_take (i := 5) (v := ?vae4) (by simp; rfl) (by kernel_rfl) (by kernel_rfl) (by kernel_rfl) (fun _ _ _ h => h) (Or.inl ⟨by rfl, ?yae4⟩) hHeld ?rae4
  case yae4 => intro w hSw; clear hSw; go_simp; with_reducible rfl
  simp only [Act.put, List.setIfInBounds_toArray, List.set_cons_zero, List.set_cons_succ]
  refine wpAnyH_take (i := 6) (v := ?vae5) (by simp; rfl) (by kernel_rfl) (by kernel_rfl) (by kernel_rfl) (fun _ _ _ h => h) (Or.inl ⟨by rfl, ?yae5⟩) hHeld ?rae5
  case yae5 => intro w hSw; have z := (HR0.out _ hSw).1; clear hSw; go_simp; with_reducible rfl
  simp only [Act.put, List.setIfInBounds_toArray, List.set_cons_zero, List.set_cons_succ]
  refine wpAnyH_take (i := 7) (v := ?vae6) (by simp; rfl) (by kernel_rfl) (by kernel_rfl) (by kernel_rfl) (fun _ _ _ h => h) (Or.inl ⟨by rfl, ?yae6⟩) hHeld ?rae6
  case yae6 => intro w hSw; have z := (HR0.out _ hSw).2.2.str cap; clear hSw; go_simp; with_reducible rfl
  simp only [Act.put, List.setIfInBounds_toArray, List.set_cons_zero, List.set_cons_succ]
  refine wpAnyH_ready (rs := [1]) (by kernel_rfl) (by simp) ?_
  refine AllReadyH.cons (by simp; rfl) (fun Kc hKc => ?_) AllReadyH.nil
  go_simp
  refine (image_any (DK.out.later D2.out)).mono ?_
  rintro e wi ⟨vi, rfl, oi, bi⟩
  obtain ⟨qi, ci, rfl, ii, -, -, -⟩ := own_in oi HBX.out
  have II : Hid (BIn wi qi (64 * n) xs) := ii
  have D3 : Hid (Below w1.heap.size w1 wi) := below_then D2.out bi
  refine hKc.out _ _ D3.out (fun hHeld => ?_)
  clear hKc Kc oi ii bi
  refine wpAnyH_ready (rs := [2]) (by kernel_rfl) (by simp) ?_
  refine AllReadyH.cons (by simp; rfl) (fun Kc hKc => ?_) AllReadyH.nil
  refine sq_conv (by rfl) 24 9 rfl rfl (II.out.str ci) ?_
  refine hKc.out _ _ D3.out (fun hHeld => ?_)
  clear hKc Kc
  simp only [Act.put, List.setIfInBounds_toArray, List.set_cons_zero, List.set_cons_succ]
  refine wpAnyH_take (i := 8) (v := ?vae7) (by simp; rfl) (by kernel_rfl) (by kernel_rfl) (by kernel_rfl) (fun _ _ _ h => h) (Or.inl ⟨by rfl, ?yae7⟩) hHeld ?rae7
  case yae7 => intro w hSw; clear hSw; go_simp; with_reducible rfl
  simp only [Act.put, List.setIfInBounds_toArray, List.set_cons_zero, List.set_cons_succ]
  refine wpAnyH_take (i := 9) (v := ?vae8) (by simp; rfl) (by kernel_rfl) (by kernel_rfl) (by kernel_rfl) (fun _ _ _ h => h) (Or.inl ⟨by rfl, ?yae8⟩) hHeld ?rae8
  case yae8 => intro w hSw; clear hSw; go_simp; with_reducible rfl
  simp only [Act.put, List.setIfInBounds_toArray, List.set_cons_zero, List.set_cons_succ]
  refine wpAnyH_take (i := 10) (v := ?vae9) (by simp; rfl) (by kernel_rfl) (by kernel_rfl) (by kernel_rfl) (fun _ _ _ h => h) (Or.inl ⟨by rfl, ?yae9⟩) hHeld ?rae9
  case yae9 => intro w hSw; clear hSw; go_simp; with_reducible rfl
  simp only [Act.put, List.setIfInBounds_toArray, List.set_cons_zero, List.set_cons_succ]
  refine wpAnyH_take (i := 11) (v := ?vae10) (by simp; rfl) (by kernel_rfl) (by kernel_rfl) (by kernel_rfl) (fun _ _ _ h => h) (Or.inl ⟨by rfl, ?yae10⟩) hHeld ?rae10
  case yae10 => intro w hSw; clear hSw; go_simp; with_reducible rfl
  simp only [Act.put, List.setIfInBounds_toArray, List.set_cons_zero, List.set_cons_succ]
  refine wpAnyH_take (i := 12) (v := ?vae11) (by simp; rfl) (by kernel_rfl) (by kernel_rfl) (by kernel_rfl) (fun _ _ _ h => h) (Or.inl ⟨by rfl, ?yae11⟩) hHeld ?rae11
  case yae11 => intro w hSw; clear hSw; go_simp; with_reducible rfl
  simp only [Act.put, List.setIfInBounds_toArray, List.set_cons_zero, List.set_cons_succ]
  refine wpAnyH_take (i := 13) (v := ?vae12) (by simp; rfl) (by kernel_rfl) (by kernel_rfl) (by kernel_rfl) (fun _ _ _ h => h) (Or.inl ⟨by rfl, ?yae12⟩) hHeld ?rae12
  case yae12 => intro w hSw; clear hSw; go_simp; with_reducible rfl
  simp only [Act.put, List.setIfInBounds_toArray, List.set_cons_zero, List.set_cons_succ]
  refine wpAnyH_take (i := 14) (v := ?vae13) (by simp; rfl) (by kernel_rfl) (by kernel_rfl) (by kernel_rfl) (fun _ _ _ h => h) (Or.inl ⟨by rfl, ?yae13⟩) hHeld ?rae13
  case yae13 => intro w hSw; clear hSw; go_simp; with_reducible rfl
  simp only [Act.put, List.setIfInBounds_toArray, List.set_cons_zero, List.set_cons_succ]
  refine wpAnyH_take (i := 15) (v := ?vae14) (by simp; rfl) (by kernel_rfl) (by kernel_rfl) (by kernel_rfl) (fun _ _ _ h => h) (Or.inl ⟨by rfl, ?yae14⟩) hHeld ?rae14
  case yae14 => intro w hSw; have z := (HR0.out _ hSw).2.1; clear hSw; go_simp; with_reducible rfl
  simp only [Act.put, List.setIfInBounds_toArray, List.set_cons_zero, List.set_cons_succ]
  refine wpAnyH_take (i := 16) (v := ?vae15) (by simp; rfl) (by kernel_rfl) (by kernel_rfl) (by kernel_rfl) (fun _ _ _ h => h) (Or.inl ⟨by rfl, ?yae15⟩) hHeld ?rae15
  case yae15 => intro w hSw; clear hSw; go_simp; with_reducible rfl
  simp only [Act.put, List.setIfInBounds_toArray, List.set_cons_zero, List.set_cons_succ]
  refine wpAnyH_take (i := 17) (v := ?vae16) (by simp; rfl) (by kernel_rfl) (by kernel_rfl) (by kernel_rfl) (fun _ _ _ h => h) (Or.inl ⟨by rfl, ?yae16⟩) hHeld ?rae16
  case yae16 => intro w hSw; clear hSw; go_simp; with_reducible rfl
  simp only [Act.put, List.setIfInBounds_toArray, List.set_cons_zero, List.set_cons_succ]
  refine wpAnyH_take (i := 18) (v := ?vae17) (by simp; rfl) (by kernel_rfl) (by kernel_rfl) (by kernel_rfl) (fun _ _ _ h => h) (Or.inl ⟨by rfl, ?yae17⟩) hHeld ?rae17
  case yae17 => intro w hSw; clear hSw; go_simp; with_reducible rfl
  simp only [Act.put, List.setIfInBounds_toArray, List.set_cons_zero, List.set_cons_succ]
  clear hHeld
  refine wpAnyH_done (by kernel_rfl) (NoPanic.normal ?_) _
  clear II DK D2 hs0
  go_wp2_with fail
  go_loopw [30] (fun i wr => ∃ k : Nat, k ≤ m ∧ i = .int .i64 k ∧ Hid (Below w1.heap.size w1 wr)) (fun i _ => m - (intOf i).toNat)
  case atStart => exact ⟨0, Nat.zero_le _, rfl, D3.out⟩
  case round =>
    obtain ⟨k, hkm, rfl, Br⟩ := hrel
    clear D3
    obtain ⟨wv, hwv⟩ : ∃ wv, wv = wr := ⟨_, rfl⟩
    subst hwv
    by_cases hlt : k < m
    · have hkw : k < ws.length := by rw [HM.out]; exact hlt
      have td := TD.out.later Br.out
      have rd := RDH.out.later Br.out
      obtain ⟨gb, cb, f0, f1, f2⟩ := td.at HFIT.out k hkw
      obtain ⟨gv, cv', gd, cd, ev, f3, f4, f5, -⟩ := rd.at k hkw
      have ev' : qv = some ⟨gv, 0, none⟩ := by cases ev; rfl
      subst ev'
      obtain ⟨x, hx⟩ : ∃ x, x = ws[k] := ⟨_, rfl⟩
      rw [← hx] at f0 f2 f3 f5
      have HK7 : Hid (∀ W, Below wv.heap.size wv W → W.cell? ⟨gt, k * 2, none⟩ = some (.int .i64 (x.s : Int)) ∧ W.cell? ⟨gt, k * 2 + 1, none⟩ = some (.slice (some ⟨gb, 0, none⟩) 64 cb) ∧ BIn W (some ⟨gb, 0, none⟩) 64 x.b ∧ W.cell? ⟨pr, 1, none⟩ = some (.slice (some ⟨gv, 0, none⟩) m cv) ∧ W.cell? ⟨gv, k * 2, none⟩ = some (.int .i64 (x.s : Int)) ∧ W.cell? ⟨gv, k * 2 + 1, none⟩ = some (.slice (some ⟨gd, 0, none⟩) 64 cd) ∧ BIn W (some ⟨gd, 0, none⟩) 64 x.b) := fun W hW =>
        ⟨(hW.cell (p := ⟨gt, k * 2, none⟩) (World.block_lt_of_cell? wv _ f0)).trans f0, (hW.cell (p := ⟨gt, k * 2 + 1, none⟩) (World.block_lt_of_cell? wv _ f1)).trans f1, f2.later hW, (HR0.out _ (below_then Br.out hW)).2.1, (hW.cell (p := ⟨gv, k * 2, none⟩) (World.block_lt_of_cell? wv _ f3)).trans f3, (hW.cell (p := ⟨gv, k * 2 + 1, none⟩) (World.block_lt_of_cell? wv _ f4)).trans f4, f5.later hW⟩
      have i1 : (k : Int) < (m : Int) := by omega
      have i0 : (0 : Int) ≤ (k : Int) := by omega
      have hs1 : (((x.s : Nat) : Int) != (x.s : Int)) = false := by simp
      have hs2 : ((strOfNums x.b).toList == (strOfNums x.b).toList) = true := by simp
      clear td rd f0 f1 f2 f3 f4 f5 ev hx
      go_wp2_with fail
      refine wp_region_noPanic ?_
      refine wp_region_held_drew (S := fun w' => Below wv.heap.size wv w') (by kernel_rfl) (below_drawn 1) (fun hHeld => ?_)
      have D7 : Hid (Below wv.heap.size wv wv.drew) := hHeld
      generalize wv.drew = we at *
      refine wpAnyH_take (i := 0) (v := ?vaf18) (by simp; rfl) (by kernel_rfl) (by kernel_rfl) (by kernel_rfl) (fun _ _ _ h => h) (Or.inl ⟨by rfl, ?yaf18⟩) hHeld ?raf18
      case yaf18 => intro w hSw; clear hSw; go_simp; with_reducible rfl
      simp only [Act.put, List.setIfInBounds_toArray, List.set_cons_zero, List.set_cons_succ]
      refine wpAnyH_take (i := 1) (v := ?vaf19) (by simp; rfl) (by kernel_rfl) (by kernel_rfl) (by kernel_rfl) (fun _ _ _ h => h) (Or.inl ⟨by rfl, ?yaf19⟩) hHeld ?raf19
      case yaf19 => intro w hSw; clear hSw; go_simp; with_reducible rfl
      simp only [Act.put, List.setIfInBounds_toArray, List.set_cons_zero, List.set_cons_succ]
      refine wpAnyH_take (i := 2) (v := ?vaf20) (by simp; rfl) (by kernel_rfl) (by kernel_rfl) (by kernel_rfl) (fun _ _ _ h => h) (Or.inl ⟨by rfl, ?yaf20⟩) hHeld ?raf20
      case yaf20 => intro w hSw; clear hSw; go_simp; with_reducible rfl
      simp only [Act.put, List.setIfInBounds_toArray, List.set_cons_zero, List.set_cons_succ]
      refine wpAnyH_take (i := 3) (v := ?vaf21) (by simp; rfl) (by kernel_rfl) (by kernel_rfl) (by kernel_rfl) (fun _ _ _ h => h) (Or.inl ⟨by rfl, ?yaf21⟩) hHeld ?raf21
      case yaf21 => intro w hSw; clear hSw; go_simp; with_reducible rfl
      simp only [Act.put, List.setIfInBounds_toArray, List.set_cons_zero, List.set_cons_succ]
      refine wpAnyH_take (i := 4) (v := ?vaf22) (by simp; rfl) (by kernel_rfl) (by kernel_rfl) (by kernel_rfl) (fun _ _ _ h => h) (Or.inl ⟨by rfl, ?yaf22⟩) hHeld ?raf22
      case yaf22 => intro w hSw; have z := (HK7.out _ hSw).1; clear hSw; go_simp; with_reducible rfl
      simp only [Act.put, List.setIfInBounds_toArray, List.set_cons_zero, List.set_cons_succ]
      refine wpAnyH_take (i := 5) (v := ?vaf23) (by simp; rfl) (by kernel_rfl) (by kernel_rfl) (by kernel_rfl) (fun _ _ _ h => h) (Or.inl ⟨by rfl, ?yaf23⟩) hHeld ?raf23
      case yaf23 => intro w hSw; clear hSw; go_simp; with_reducible rfl
      simp only [Act.put, List.setIfInBounds_toArray, List.set_cons_zero, List.set_cons_succ]
      refine wpAnyH_take (i := 6) (v := ?vaf24) (by simp; rfl) (by kernel_rfl) (by kernel_rfl) (by kernel_rfl) (fun _ _ _ h => h) (Or.inl ⟨by rfl, ?yaf24⟩) hHeld ?raf24
      case yaf24 => intro w hSw; clear hSw; go_simp; with_reducible rfl
      simp only [Act.put, List.setIfInBounds_toArray, List.set_cons_zero, List.set_cons_succ]
      refine wpAnyH_take (i := 7) (v := ?vaf25) (by simp; rfl) (by kernel_rfl) (by kernel_rfl) (by kernel_rfl) (fun _ _ _ h => h) (Or.inl ⟨by rfl, ?yaf25⟩) hHeld ?raf25
      case yaf25 => intro w hSw; clear hSw; go_simp; with_reducible rfl
      simp only [Act.put, List.setIfInBounds_toArray, List.set_cons_zero, List.set_cons_succ]
      refine wpAnyH_take (i := 8) (v := ?vaf26) (by simp; rfl) (by kernel_rfl) (by kernel_rfl) (by kernel_rfl) (fun _ _ _ h => h) (Or.inl ⟨by rfl, ?yaf26⟩) hHeld ?raf26
      case yaf26 => intro w hSw; have z := (HK7.out _ hSw).2.2.2.1; clear hSw; go_simp; with_reducible rfl
      simp only [Act.put, List.setIfInBounds_toArray, List.set_cons_zero, List.set_cons_succ]
      refine wpAnyH_take (i := 9) (v := ?vaf27) (by simp; rfl) (by kernel_rfl) (by kernel_rfl) (by kernel_rfl) (fun _ _ _ h => h) (Or.inl ⟨by rfl, ?yaf27⟩) hHeld ?raf27
      case yaf27 => intro w hSw; clear hSw; go_simp; with_reducible rfl
      simp only [Act.put, List.setIfInBounds_toArray, List.set_cons_zero, List.set_cons_succ]
      refine wpAnyH_take (i := 10) (v := ?vaf28) (by simp; rfl) (by kernel_rfl) (by kernel_rfl) (by kernel_rfl) (fun _ _ _ h => h) (Or.inl ⟨by rfl, ?yaf28⟩) hHeld ?raf28
      case yaf28 => intro w hSw; clear hSw; go_simp; with_reducible rfl
      simp only [Act.put, List.setIfInBounds_toArray, List.set_cons_zero, List.set_cons_succ]
      refine wpAnyH_take (i := 11) (v := ?vaf29) (by simp; rfl) (by kernel_rfl) (by kernel_rfl) (by kernel_rfl) (fun _ _ _ h => h) (Or.inl ⟨by rfl, ?yaf29⟩) hHeld ?raf29
      case yaf29 => intro w hSw; clear hSw; go_simp; with_reducible rfl
      simp only [Act.put, List.setIfInBounds_toArray, List.set_cons_zero, List.set_cons_succ]
      refine wpAnyH_take (i := 12) (v := ?vaf30) (by simp; rfl) (by kernel_rfl) (by kernel_rfl) (by kernel_rfl) (fun _ _ _ h => h) (Or.inl ⟨by rfl, ?yaf30⟩) hHeld ?raf30
      case yaf30 => intro w hSw; have z := (HK7.out _ hSw).2.2.2.2.1; clear hSw; go_simp; with_reducible rfl
      simp only [Act.put, List.setIfInBounds_toArray, List.set_cons_zero, List.set_cons_succ]
      refine wpAnyH_take (i := 13) (v := ?vaf31) (by simp; rfl) (by kernel_rfl) (by kernel_rfl) (by kernel_rfl) (fun _ _ _ h => h) (Or.inl ⟨by rfl, ?yaf31⟩) hHeld ?raf31
      case yaf31 => intro w hSw; clear hSw; go_simp; with_reducible rfl
      simp only [Act.put, List.setIfInBounds_toArray, List.set_cons_zero, List.set_cons_succ]
      refine wpAnyH_take (i := 14) (v := ?vaf32) (by simp; rfl) (by kernel_rfl) (by kernel_rfl) (by kernel_rfl) (fun _ _ _ h => h) (Or.inl ⟨by rfl, ?yaf32⟩) hHeld ?raf32
      case yaf32 => intro w hSw; clear hSw; go_simp; with_reducible rfl
      simp only [Act.put, List.setIfInBounds_toArray, List.set_cons_zero, List.set_cons_succ]
      refine wpAnyH_take (i := 15) (v := ?vaf33) (by simp; rfl) (by kernel_rfl) (by kernel_rfl) (by kernel_rfl) (fun _ _ _ h => h) (Or.inl ⟨by rfl, ?yaf33⟩) hHeld ?raf33
      case yaf33 => intro w hSw; clear hSw; go_simp; with_reducible rfl
      simp only [Act.put, List.setIfInBounds_toArray, List.set_cons_zero, List.set_cons_succ]
      refine wpAnyH_take (i := 16) (v := ?vaf34) (by simp; rfl) (by kernel_rfl) (by kernel_rfl) (by kernel_rfl) (fun _ _ _ h => h) (Or.inl ⟨by rfl, ?yaf34⟩) hHeld ?raf34
      case yaf34 => intro w hSw; clear hSw; go_simp; with_reducible rfl
      simp only [Act.put, List.setIfInBounds_toArray, List.set_cons_zero, List.set_cons_succ]
      refine wpAnyH_take (i := 17) (v := ?vaf35) (by simp; rfl) (by kernel_rfl) (by kernel_rfl) (by kernel_rfl) (fun _ _ _ h => h) (Or.inl ⟨by rfl, ?yaf35⟩) hHeld ?raf35
      case yaf35 => intro w hSw; clear hSw; go_simp; with_reducible rfl
      simp only [Act.put, List.setIfInBounds_toArray, List.set_cons_zero, List.set_cons_succ]
      refine wpAnyH_take (i := 18) (v := ?vaf36) (by simp; rfl) (by kernel_rfl) (by kernel_rfl) (by kernel_rfl) (fun _ _ _ h => h) (Or.inl ⟨by rfl, ?yaf36⟩) hHeld ?raf36
      case yaf36 => intro w hSw; clear hSw; go_simp; with_reducible rfl
      simp only [Act.put, List.setIfInBounds_toArray, List.set_cons_zero, List.set_cons_succ]
      refine wpAnyH_take (i := 19) (v := ?vaf37) (by simp; rfl) (by kernel_rfl) (by kernel_rfl) (by kernel_rfl) (fun _ _ _ h => h) (Or.inl ⟨by rfl, ?yaf37⟩) hHeld ?raf37
      case yaf37 => intro w hSw; have z := (HK7.out _ hSw).2.1; clear hSw; go_simp; with_reducible rfl
      simp only [Act.put, List.setIfInBounds_toArray, List.set_cons_zero, List.set_cons_succ]
      refine wpAnyH_take (i := 20) (v := ?vaf38) (by simp; rfl) (by kernel_rfl) (by kernel_rfl) (by kernel_rfl) (fun _ _ _ h => h) (Or.inl ⟨by rfl, ?yaf38⟩) hHeld ?raf38
      case yaf38 => intro w hSw; have z := (HK7.out _ hSw).2.2.1.str cb; clear hSw; go_simp; with_reducible rfl
      simp only [Act.put, List.setIfInBounds_toArray, List.set_cons_zero, List.set_cons_succ]
      refine wpAnyH_take (i := 21) (v := ?vaf39) (by simp; rfl) (by kernel_rfl) (by kernel_rfl) (by kernel_rfl) (fun _ _ _ h => h) (Or.inl ⟨by rfl, ?yaf39⟩) hHeld ?raf39
      case yaf39 => intro w hSw; clear hSw; go_simp; with_reducible rfl
      simp only [Act.put, List.setIfInBounds_toArray, List.set_cons_zero, List.set_cons_succ]
      refine wpAnyH_take (i := 22) (v := ?vaf40) (by simp; rfl) (by kernel_rfl) (by kernel_rfl) (by kernel_rfl) (fun _ _ _ h => h) (Or.inl ⟨by rfl, ?yaf40⟩) hHeld ?raf40
      case yaf40 => intro w hSw; clear hSw; go_simp; with_reducible rfl
      simp only [Act.put, List.setIfInBounds_toArray, List.set_cons_zero, List.set_cons_succ]
      refine wpAnyH_take (i := 23) (v := ?vaf41) (by simp; rfl) (by kernel_rfl) (by kernel_rfl) (by kernel_rfl) (fun _ _ _ h => h) (Or.inl ⟨by rfl, ?yaf41⟩) hHeld ?raf41
      case yaf41 => intro w hSw; clear hSw; go_simp; with_reducible rfl
      simp only [Act.put, List.setIfInBounds_toArray, List.set_cons_zero, List.set_cons_succ]
      refine wpAnyH_take (i := 24) (v := ?vaf42) (by simp; rfl) (by kernel_rfl) (by kernel_rfl) (by kernel_rfl) (fun _ _ _ h => h) (Or.inl ⟨by rfl, ?yaf42⟩) hHeld ?raf42
      case yaf42 => intro w hSw; have z := (HK7.out _ hSw).2.2.2.1; clear hSw; go_simp; with_reducible rfl
      simp only [Act.put, List.setIfInBounds_toArray, List.set_cons_zero, List.set_cons_succ]
      refine wpAnyH_take (i := 25) (v := ?vaf43) (by simp; rfl) (by kernel_rfl) (by kernel_rfl) (by kernel_rfl) (fun _ _ _ h => h) (Or.inl ⟨by rfl, ?yaf43⟩) hHeld ?raf43
      case yaf43 => intro w hSw; clear hSw; go_simp; with_reducible rfl
      simp only [Act.put, List.setIfInBounds_toArray, List.set_cons_zero, List.set_cons_succ]
      refine wpAnyH_take (i := 26) (v := ?vaf44) (by simp; rfl) (by kernel_rfl) (by kernel_rfl) (by kernel_rfl) (fun _ _ _ h => h) (Or.inl ⟨by rfl, ?yaf44⟩) hHeld ?raf44
      case yaf44 => intro w hSw; clear hSw; go_simp; with_reducible rfl
      simp only [Act.put, List.setIfInBounds_toArray, List.set_cons_zero, List.set_cons_succ]
      refine wpAnyH_take (i := 27) (v := ?vaf45) (by simp; rfl) (by kernel_rfl) (by kernel_rfl) (by kernel_rfl) (fun _ _ _ h => h) (Or.inl ⟨by rfl, ?yaf45⟩) hHeld ?raf45
      case yaf45 => intro w hSw; clear hSw; go_simp; with_reducible rfl
      simp only [Act.put, List.setIfInBounds_toArray, List.set_cons_zero, List.set_cons_succ]
      refine wpAnyH_take (i := 28) (v := ?vaf46) (by simp; rfl) (by kernel_rfl) (by kernel_rfl) (by kernel_rfl) (fun _ _ _ h => h) (Or.inl ⟨by rfl, ?yaf46⟩) hHeld ?raf46
      case yaf46 => intro w hSw; have z := (HK7.out _ hSw).2.2.2.2.2.1; clear hSw; go_simp; with_reducible rfl
      simp only [Act.put, List.setIfInBounds_toArray, List.set_cons_zero, List.set_cons_succ]
      refine wpAnyH_take (i := 29) (v := ?vaf47) (by simp; rfl) (by kernel_rfl) (by kernel_rfl) (by kernel_rfl) (fun _ _ _ h => h) (Or.inl ⟨by rfl, ?yaf47⟩) hHeld ?raf47
      case yaf47 => intro w hSw; have z := (HK7.out _ hSw).2.2.2.2.2.2.str cd; clear hSw; go_simp; with_reducible rfl
      simp only [Act.put, List.setIfInBounds_toArray, List.set_cons_zero, List.set_cons_succ]
      refine wpAnyH_take (i := 30) (v := ?vaf48) (by simp; rfl) (by kernel_rfl) (by kernel_rfl) (by kernel_rfl) (fun _ _ _ h => h) (Or.inl ⟨by rfl, ?yaf48⟩) hHeld ?raf48
      case yaf48 => intro w hSw; clear hSw; go_simp; with_reducible rfl
      simp only [Act.put, List.setIfInBounds_toArray, List.set_cons_zero, List.set_cons_succ]
      refine wpAnyH_take (i := 31) (v := ?vaf49) (by simp; rfl) (by kernel_rfl) (by kernel_rfl) (by kernel_rfl) (fun _ _ _ h => h) (Or.inl ⟨by rfl, ?yaf49⟩) hHeld ?raf49
      case yaf49 => intro w hSw; clear hSw; go_simp; with_reducible rfl
      simp only [Act.put, List.setIfInBounds_toArray, List.set_cons_zero, List.set_cons_succ]
      clear hHeld
      refine wpAnyH_done (by kernel_rfl) (NoPanic.normal ?_) _
      have B7 : Hid (Below w1.heap.size w1 we) := below_then Br.out D7.out
      clear Br D7 HK7 hs1 hs2
      go_wp2_with fail
      go_roundw
      case rel => exact ⟨k + 1, by omega, by go_num, B7.out⟩
      case measure => simp [intOf]; omega
    · have hnl : ¬ (k : Int) < (m : Int) := by omega
      have FF : Hid (Below w.heap.size w wv) := below_then B1.out Br.out
      go_wp2_with fail
      go_ret
      exact ⟨rfl, FF.out⟩
end Go.Proofs.YtefnkjajjidfaaaGreatDoor
namespace Go.Proofs.YtefnkjajjidfaaaGreatDoor
open Go.RowKit


/-- the mark of a colour -/
def mk (i : Nat) : Im := ⟨1000 + (i : Int), zs 32⟩
theorem mk_wf {i : Nat} (h : i ≤ 1000) : (mk i).Wf := ⟨by unfold i64 mk; constructor <;> simp <;> omega, zs_len 32, zs_bytes 32⟩
/-- an element of a row written over, at a place that may lie behind the list -/
theorem IOwn.over {W : World} {B g n c : Nat} {l : List Im} (h : IOwn W B (.slice (some ⟨g, 0, none⟩) n c) l) (hw : ImsWf l) (i : Im) (hi : i.Wf) (k : Nat) {cur : Array Value} (hg : W.heap[g]? = some (.cells cur 57 (0, 0))) (hk : k * 33 + 33 ≤ cur.size) :
    ∃ l', IOwn (W.setRow g (cur.toList.take (k * 33) ++ icells i ++ cur.toList.drop (k * 33 + 33)).toArray) B (.slice (some ⟨g, 0, none⟩) n c) l' ∧ l'.length = l.length ∧ ∀ y ∈ l', y ∈ l ∨ y = i := by
  rcases h.2 with ⟨e, _⟩ | ⟨g', cap, cur', e, h0, hg', h1, h2, h3, h4⟩
  · cases e
  · cases e
    have ec : cur' = cur := by rw [hg] at hg'; simpa using hg'.symm
    subst ec
    by_cases hkn : k < l.length
    · obtain ⟨W', hr, ho, -⟩ := h.put hw i hi k hkn
      obtain ⟨i0, hi0, hz0, hz1, hz2⟩ := info_parts infoI
      have hst := run_storeCells_at Tryz.prog g (k * 33) 57 (icells i) 0 cur' W hg (by rw [icells_len hi.len]; omega) (icells_ones i)
      rw [Nat.add_zero, icells_len hi.len] at hst
      have hr2 : (Instr.storeAt 57 (.pointer (some ⟨g, k * 33, none⟩)) (.agg (icells i).toArray)).run Tryz.prog W = .ok () (W.setRow g (cur'.toList.take (k * 33) ++ icells i ++ cur'.toList.drop (k * 33 + 33)).toArray) := by
        simp [Instr.storeAt, Instr.sureAddr, storeVar, sizeOf, typeInfo, hi0, hz1, Value.cells, icells_len hi.len, hst]
      rw [hr] at hr2
      injection hr2 with _ e2
      subst e2
      refine ⟨_, ho, by simp; omega, fun y hy => ?_⟩
      rcases List.mem_append.1 hy with hy | hy
      · rcases List.mem_append.1 hy with hy | hy
        · exact .inl (List.mem_of_mem_take hy)
        · exact .inr (List.mem_singleton.1 hy)
      · exact .inl (List.mem_of_mem_drop hy)
    · refine ⟨l, ⟨h.1, .inr ⟨g, c, _, rfl, h0, setRow_heap W g cur' _ 57 _ hg, h1, h2, ?_, ?_⟩⟩, rfl, fun y hy => .inl hy⟩
      · simp only [List.size_toArray, List.length_append, List.length_take, List.length_drop, Array.length_toList, icells_len hi.len]
        omega
      · rw [← h4]
        show List.take _ (_ ++ _ ++ _) = _
        rw [List.append_assoc, List.take_append_of_le_length (by rw [List.length_take]; have e9 : cur'.toList.length = cur'.size := Array.length_toList; omega), List.take_take, Nat.min_eq_left (by omega)]
theorem all_mk {l : List Im} {n i : Nat} (hl : l.length = n) (h : ∀ y ∈ l, y = mk i) : l = List.replicate n (mk i) := List.eq_replicate_iff.2 ⟨hl, h⟩
/-- lists, each of one colour; those of different colours in different blocks -/
structure Fam (W : World) (B : Nat) (fs : List (Value × Nat)) : Prop where
  own : ∀ x ∈ fs, ∃ n, IOwn W B x.1 (List.replicate n (mk x.2))
  sep : ∀ x ∈ fs, ∀ y ∈ fs, x.2 ≠ y.2 → ∀ g, x.1.ownBlock = some g → y.1.ownBlock ≠ some g
  le : ∀ x ∈ fs, x.2 ≤ 1000
theorem rep_wf (n : Nat) {i : Nat} (h : i ≤ 1000) : ImsWf (List.replicate n (mk i)) := fun x hx => by rw [(List.mem_replicate.1 hx).2]; exact mk_wf h
theorem Fam.later {W W' : World} {B : Nat} {fs : List (Value × Nat)} (h : Fam W B fs) (hb : Below W.heap.size W W') : Fam W' B fs :=
  ⟨fun x hx => by obtain ⟨n, o⟩ := h.own x hx; exact ⟨n, o.later hb⟩, h.sep, h.le⟩
theorem Fam.kept {W W' : World} {B : Nat} {fs : List (Value × Nat)} {row : Option Nat} (h : Fam W B fs) (hg : W.grownBy W' row) (hr : ∀ x ∈ fs, x.1.ownBlock = none ∨ x.1.ownBlock ≠ row) : Fam W' B fs :=
  ⟨fun x hx => by obtain ⟨n, o⟩ := h.own x hx; exact ⟨n, o.kept hg (hr x hx)⟩, h.sep, h.le⟩
end Go.Proofs.YtefnkjajjidfaaaGreatDoor
namespace Go.Proofs.YtefnkjajjidfaaaGreatDoor
open Go.RowKit


def vlen : Value → Nat
  | .slice _ n _ => n
  | _ => 0
theorem vlen_own {w : World} {B s n : Nat} {e : TypeId} {v : Value} {xs : List Value} (h : w.ownsRow B e s v n xs) : vlen v = n := by
  rcases h.2 with ⟨rfl, rfl⟩ | ⟨g, cap, cur, rfl, _⟩ <;> rfl
/-- only rows of one kind have been written into -/
structure Only (e : TypeId) (W W' : World) : Prop where
  size : W.heap.size ≤ W'.heap.size
  block : ∀ (k : Nat) (cur : Array Value) (f : TypeId), W.heap[k]? = some (.cells cur f (0, 0)) → f ≠ e → W'.heap[k]? = W.heap[k]?
theorem Only.of {e : TypeId} {W W' : World} (h : Below W.heap.size W W') : Only e W W' := ⟨h.size, fun k _ _ hk _ => h.block k (Array.getElem?_eq_some_iff.1 hk).1⟩
theorem Only.trans {e : TypeId} {W W' W'' : World} (h : Only e W W') (k : Only e W' W'') : Only e W W'' :=
  ⟨Nat.le_trans h.size k.size, fun j cur f hj hf => (k.block j cur f ((h.block j cur f hj hf).trans hj) hf).trans (h.block j cur f hj hf)⟩
theorem Only.row {e f : TypeId} {W W' : World} (h : Only e W W') (hf : f ≠ e) {B s n : Nat} {v : Value} {xs : List Value} (o : W.ownsRow B f s v n xs) : W'.ownsRow B f s v n xs := by
  rcases o.2 with ⟨e1, e2⟩ | ⟨g, cap, cur, e1, h0, hg, r⟩
  · exact ⟨o.1, .inl ⟨e1, e2⟩⟩
  · exact ⟨o.1, .inr ⟨g, cap, cur, e1, h0, (h.block g cur f hg hf).trans hg, r⟩⟩
/-- **rows of one kind, each of one colour**; D: which cells have been marked; rows of different colours lie in different blocks -/
structure Col (e : TypeId) (sz : Nat) (Pr : Nat → Nat → Value → Prop) (D : Nat → Nat → Prop) (W : World) (B : Nat) (F : Value → Nat → Prop) : Prop where
  own : ∀ v c, F v c → ∃ xs, W.ownsRow B e sz v (vlen v) xs ∧ ∀ (m : Nat) (u : Value), xs[m]? = some u → D c m → Pr c (m % sz) u
  sep : ∀ v c, F v c → ∀ v' c', F v' c' → c ≠ c' → ∀ g, v.ownBlock = some g → v'.ownBlock ≠ some g
section
variable {e : TypeId} {sz : Nat} {Pr : Nat → Nat → Value → Prop} {D D' : Nat → Nat → Prop} {W W' : World} {B : Nat} {F F' : Value → Nat → Prop}
theorem Col.later (h : Col e sz Pr D W B F) (hb : Below W.heap.size W W') : Col e sz Pr D W' B F :=
  ⟨fun v c hv => by obtain ⟨xs, o, m⟩ := h.own v c hv; exact ⟨xs, o.kept (grown_of_below hb) (by cases hh : v.ownBlock <;> simp), m⟩, h.sep⟩
theorem Col.only {f : TypeId} (h : Col e sz Pr D W B F) (hb : Only f W W') (hf : e ≠ f) : Col e sz Pr D W' B F :=
  ⟨fun v c hv => by obtain ⟨xs, o, m⟩ := h.own v c hv; exact ⟨xs, hb.row hf o, m⟩, h.sep⟩
theorem Col.grown {row : Option Nat} (h : Col e sz Pr D W B F) (hg : W.grownBy W' row) (hr : ∀ v c, F v c → v.ownBlock = none ∨ v.ownBlock ≠ row) : Col e sz Pr D W' B F :=
  ⟨fun v c hv => by obtain ⟨xs, o, m⟩ := h.own v c hv; exact ⟨xs, o.kept hg (hr v c hv), m⟩, h.sep⟩
theorem Col.sub (h : Col e sz Pr D W B F) (hs : ∀ v c, F' v c → F v c) : Col e sz Pr D W B F' :=
  ⟨fun v c hv => h.own v c (hs v c hv), fun v c hv v' c' hv' => h.sep v c (hs v c hv) v' c' (hs v' c' hv')⟩
theorem Col.weak (h : Col e sz Pr D W B F) (hD : ∀ v c, F v c → ∀ m, m < vlen v * sz → D' c m → D c m) : Col e sz Pr D' W B F :=
  ⟨fun v c hv => by
    obtain ⟨xs, o, k⟩ := h.own v c hv
    exact ⟨xs, o, fun m u hu hd => k m u hu (hD v c hv m (by rw [← o.1]; exact (List.getElem?_eq_some_iff.1 hu).1) hd)⟩, h.sep⟩
theorem Col.add (h : Col e sz Pr D W B F) {v : Value} {c : Nat} {xs : List Value} (o : W.ownsRow B e sz v (vlen v) xs) (hm : ∀ (m : Nat) (u : Value), xs[m]? = some u → D c m → Pr c (m % sz) u) (hs : ∀ v' c', F v' c' → c ≠ c' → ∀ g, v.ownBlock = some g → v'.ownBlock ≠ some g) : Col e sz Pr D W B (fun v' c' => (v' = v ∧ c' = c) ∨ F v' c') := by
  refine ⟨fun v' c' hv => ?_, fun v1 c1 h1 v2 c2 h2 hne g hg hg2 => ?_⟩
  · rcases hv with ⟨rfl, rfl⟩ | hv
    · exact ⟨xs, o, hm⟩
    · exact h.own v' c' hv
  · rcases h1 with ⟨rfl, rfl⟩ | h1 <;> rcases h2 with ⟨rfl, rfl⟩ | h2
    · exact hne rfl
    · exact hs v2 c2 h2 hne g hg hg2
    · exact hs v1 c1 h1 (fun e => hne e.symm) g hg2 hg
    · exact h.sep v1 c1 h1 v2 c2 h2 hne g hg hg2
theorem Col.lt (h : Col e sz Pr D W B F) {v : Value} {c : Nat} (hv : F v c) {g : Nat} (hg : v.ownBlock = some g) : B ≤ g ∧ g < W.heap.size := by
  obtain ⟨xs, o, -⟩ := h.own v c hv
  exact o.lt g hg
/-- some cells of a row written over -/
theorem Col.write (h : Col e sz Pr D W B F) {v : Value} {c : Nat} (hx : F v c) {g : Nat} (hg : v.ownBlock = some g) {cur : Array Value} (hc : W.heap[g]? = some (.cells cur e (0, 0))) (o : Nat) (cs : List Value) (hfit : o + cs.length ≤ cur.size) (hP : ∀ (j : Nat) (u : Value), cs[j]? = some u → Pr c ((o + j) % sz) u) (hD : ∀ v' c', F v' c' → ∀ m, D' c' m → D c' m ∨ (v'.ownBlock = some g ∧ o ≤ m ∧ m < o + cs.length)) :
    Col e sz Pr D' (W.setRow g (cur.toList.take o ++ cs ++ cur.toList.drop (o + cs.length)).toArray) B F := by
  have hsz : (cur.toList.take o ++ cs ++ cur.toList.drop (o + cs.length)).length = cur.size := by
    simp only [List.length_append, List.length_take, List.length_drop, Array.length_toList]; omega
  have hto : (cur.toList.take o).length = o := by rw [List.length_take, Array.length_toList]; omega
  refine ⟨fun v' c' hy => ?_, h.sep⟩
  obtain ⟨xs, ho, hm⟩ := h.own v' c' hy
  rcases ho.2 with ⟨e1, e2⟩ | ⟨g', cap, cur', e1, h0, hg', h1, h2, h3, h4⟩
  · refine ⟨xs, ⟨ho.1, .inl ⟨e1, e2⟩⟩, fun m u hu => ?_⟩
    have hl := (List.getElem?_eq_some_iff.1 hu).1
    rw [ho.1, e2, Nat.zero_mul] at hl
    omega
  · by_cases hgg : g' = g
    · subst hgg
      have ec : cur' = cur := by rw [hc] at hg'; simpa using hg'.symm
      subst ec
      have hyc : c' = c := Classical.byContradiction fun hne => h.sep v c hx v' c' hy (fun e => hne e.symm) g' hg (by rw [e1]; rfl)
      subst hyc
      refine ⟨(cur'.toList.take o ++ cs ++ cur'.toList.drop (o + cs.length)).take (vlen v' * sz), ⟨?_, .inr ⟨g', cap, _, e1, h0, setRow_heap W g' cur' _ e _ hc, h1, h2, ?_, rfl⟩⟩, fun m u hu hd => ?_⟩
      · rw [List.length_take, hsz]
        have := Nat.mul_le_mul_right sz h1
        omega
      · rw [List.size_toArray, hsz]; exact h3
      · rw [List.getElem?_take] at hu
        split at hu
        · rename_i hlt
          rcases Nat.lt_or_ge m o with a | a
          · rw [List.append_assoc, List.getElem?_append_left (by omega), List.getElem?_take, if_pos a] at hu
            refine hm m u (by rw [← h4, List.getElem?_take, if_pos hlt]; exact hu) ?_
            rcases hD v' c' hy m hd with k | ⟨_, k, _⟩
            · exact k
            · omega
          · rcases Nat.lt_or_ge m (o + cs.length) with b | b
            · rw [List.append_assoc, List.getElem?_append_right (by omega), hto, List.getElem?_append_left (by omega)] at hu
              have := hP (m - o) u hu
              rw [show o + (m - o) = m by omega] at this
              exact this
            · rw [List.getElem?_append_right (by rw [List.length_append, hto]; exact b), List.length_append, hto, List.getElem?_drop, show o + cs.length + (m - (o + cs.length)) = m by omega] at hu
              refine hm m u (by rw [← h4, List.getElem?_take, if_pos hlt]; exact hu) ?_
              rcases hD v' c' hy m hd with k | ⟨_, _, k⟩
              · exact k
              · omega
        · cases hu
    · refine ⟨xs, ⟨ho.1, .inr ⟨g', cap, cur', e1, h0, (setRow_other W g g' _ hgg).trans hg', h1, h2, h3, h4⟩⟩, fun m u hu hd => hm m u hu ?_⟩
      rcases hD v' c' hy m hd with k | ⟨k, _⟩
      · exact k
      · rw [e1] at k
        simp [Value.ownBlock] at k
        exact absurd k hgg
theorem only_setRow {g : Nat} {cur : Array Value} (hc : W.heap[g]? = some (.cells cur e (0, 0))) (cs : Array Value) : Only e W (W.setRow g cs) :=
  ⟨by simp, fun k cur' f hk hf => setRow_other W g k _ (fun ek => by subst ek; rw [hc] at hk; cases hk; exact hf rfl)⟩
/-- one element appended, that has been laid just before -/
theorem Col.app {P : Program} {t : TypeId} {z : Value} {bys : Nat} {i0 : TypeInfo} (ht : P.underlying t = some (.slice e)) (hi0 : P.info? e = some i0) (hz0 : i0.zero = some z) (hz1 : i0.size = sz) (hz2 : i0.bytes = bys) (hzs : z.cells.size = sz) (hsz : 0 < sz) (hby : bys ≤ 1000)
    (h : Col e sz Pr (fun _ _ => True) W B F) {v : Value} {c : Nat} (hx : F v c) (cs : List Value) (hn : cs.length = sz) (h1 : ∀ u ∈ cs, u.oneCell' = true) (hP : ∀ (j : Nat) (u : Value), cs[j]? = some u → Pr c j u) (hm : vlen v ≤ 3000000) (hB : B ≤ W.heap.size) :
    ∃ q c' W', (Builtin.append_ #[t, t] t #[v, .slice (some ⟨W.heap.size, 0, none⟩) 1 1]).run P (W.alloc (.cells cs.toArray e)) = .ok (.slice q (vlen v + 1) c') W' ∧ Col e sz Pr (fun _ _ => True) W' B (fun v' k' => (v' = .slice q (vlen v + 1) c' ∧ k' = c) ∨ F v' k') ∧ Below B W W' ∧ Only e W W' := by
  have h65 : (4000000 : Nat) ≤ maxLen := by decide
  obtain ⟨xs, ho, hmk⟩ := h.own v c hx
  have hnew : ∀ j u, cs[j]? = some u → (W.alloc (.cells cs.toArray e)).cell? ((⟨W.heap.size, 0, none⟩ : Addr).add j) = some u := fun j u hu => by
    rw [Addr.add_mid, Nat.zero_add, LAt.cell (LAt.new e W cs) j]; exact hu
  have hn' : cs.length = 1 * sz := by rw [hn, Nat.one_mul]
  have hsz1 : (W.alloc (.cells cs.toArray e)).heap.size = W.heap.size + 1 := by simp
  have hbm : (vlen v + 1) * bys ≤ 140737488355328 := by
    have := Nat.mul_le_mul (show vlen v + 1 ≤ 3000001 by omega) hby
    omega
  obtain ⟨v', W', hrun, hown', hgrow, -, -⟩ := run_append_own_at (P := P) (W.alloc (.cells cs.toArray e)) B t t e i0 z sz bys ht hi0 hz0 hz1 hz2 hzs hsz v (vlen v) xs (ho.alloc _) ⟨W.heap.size, 0, none⟩ 1 1 cs hn' hnew h1 (by omega) hbm (by omega)
  have hmk' : ∀ (m : Nat) (u : Value), (xs ++ cs)[m]? = some u → True → Pr c (m % sz) u := fun m u hu _ => by
    rcases Nat.lt_or_ge m xs.length with a | a
    · rw [List.getElem?_append_left a] at hu
      exact hmk m u hu trivial
    · rw [List.getElem?_append_right a] at hu
      have hl := (List.getElem?_eq_some_iff.1 hu).1
      have := hP _ u hu
      have em : m % sz = m - xs.length := by
        rw [ho.1] at a hl ⊢
        rw [hn] at hl
        obtain ⟨d, rfl⟩ := Nat.exists_eq_add_of_le a
        rw [Nat.add_sub_cancel_left] at hl ⊢
        rw [Nat.mul_comm, Nat.mul_add_mod, Nat.mod_eq_of_lt hl]
      rw [em]; exact this
  have ba := below_alloc W (.cells cs.toArray e)
  have bel : ∀ o, Below W.heap.size W ((W.alloc (.cells cs.toArray e)).drew.alloc o) := fun o => by
    have b2 : Below (W.alloc (.cells cs.toArray e)).heap.size (W.alloc (.cells cs.toArray e)) (W.alloc (.cells cs.toArray e)).drew := below_drawn 1
    exact below_then (below_then ba b2) (below_alloc (W.alloc (.cells cs.toArray e)).drew o)
  have fresh : ∀ q n' c', v' = .slice q n' c' → n' = vlen v + 1 → v'.ownBlock = some (W.heap.size + 1) → Below W.heap.size W W' → ∃ q c' W', (Builtin.append_ #[t, t] t #[v, .slice (some ⟨W.heap.size, 0, none⟩) 1 1]).run P (W.alloc (.cells cs.toArray e)) = .ok (.slice q (vlen v + 1) c') W' ∧ Col e sz Pr (fun _ _ => True) W' B (fun v' k' => (v' = .slice q (vlen v + 1) c' ∧ k' = c) ∨ F v' k') ∧ Below B W W' ∧ Only e W W' := by
    intro q n' c' e1 e2 e3 hb
    subst e1; subst e2
    refine ⟨q, c', W', hrun, (h.later hb).add hown' hmk' (fun v2 c2 h2 _ g hg hg2 => ?_), hb.mono hB, Only.of hb⟩
    have := (h.lt h2 hg2).2
    rw [e3] at hg
    cases hg
    omega
  rcases ho.2 with ⟨rfl, e0⟩ | ⟨g, cap, cur, ev, hb, hg, k1, k2, k3, k4⟩
  · have hr := run_append_nil (P := P) (W.alloc (.cells cs.toArray e)) t t e i0 z ht hi0 hz0 ⟨W.heap.size, 0, none⟩ 1 1 cs (by rw [hz1]; exact hn') hnew (by omega) (by omega) (by rw [hz2]; omega)
    rw [hrun] at hr
    injection hr with e1 e2
    exact fresh _ _ _ e1 rfl (by rw [e1]; simp [Value.ownBlock]) (by rw [e2]; exact bel _)
  · by_cases room : vlen v + 1 ≤ cap
    · have hg1 : (W.alloc (.cells cs.toArray e)).heap[g]? = some (.cells cur e (0, 0)) := (ba.block g (Array.getElem?_eq_some_iff.1 hg).1).trans hg
      have hfit : vlen v * sz + cs.length ≤ cur.size := by rw [k3, hn]; have := Nat.mul_le_mul_right sz room; rw [Nat.add_mul, Nat.one_mul] at this; exact this
      have hr := run_append_room (P := P) (W.alloc (.cells cs.toArray e)) t t e i0 ht hi0 g (vlen v) cap cur hg1 ⟨W.heap.size, 0, none⟩ 1 1 cs (by rw [hz1]; exact hn') hnew h1 room (by rw [hz1]; exact hfit)
      rw [hz1, ← ev, hrun] at hr
      injection hr with e1 e2
      subst e1
      subst e2
      have hvb : v.ownBlock = some g := by rw [ev]; rfl
      have hc2 := (h.later ba).write (D' := fun _ _ => True) hx hvb hg1 (vlen v * sz) cs hfit (fun j u hu => by
        have hj := (List.getElem?_eq_some_iff.1 hu).1
        rw [Nat.mul_comm, Nat.mul_add_mod, Nat.mod_eq_of_lt (by omega)]
        exact hP j u hu) (fun _ _ _ _ _ => .inl trivial)
      refine ⟨_, _, _, hrun, hc2.add hown' hmk' (fun v2 c2 h2 hne g2 hg2 => ?_), ?_, ?_⟩
      · exact h.sep v c hx v2 c2 h2 hne g2 (by rw [hvb]; exact hg2)
      · exact below_setRow (ba.mono hB) hb _
      · exact (Only.of ba).trans (only_setRow hg1 _)
    · have holds : ∀ j u, xs[j]? = some u → (W.alloc (.cells cs.toArray e)).cell? ((⟨g, 0, none⟩ : Addr).add j) = some u := (ho.alloc _).cells (g := g) (by rw [ev]; rfl)
      have hr := run_append_grow (P := P) (W.alloc (.cells cs.toArray e)) t t e i0 z ht hi0 hz0 ⟨g, 0, none⟩ (vlen v) cap xs (by rw [hz1]; exact ho.1) holds ⟨W.heap.size, 0, none⟩ 1 1 cs (by rw [hz1]; exact hn') hnew (by omega) (by omega) (growslice_fits (by omega) (by rw [hz2]; exact hbm))
      rw [← ev, hrun] at hr
      injection hr with e1 e2
      exact fresh _ _ _ e1 rfl (by rw [e1]; simp [Value.ownBlock]) (by rw [e2]; exact bel _)
end
/-- an image's mark; a transaction's -/
def Pim (c j : Nat) (v : Value) : Prop := (icells (mk c))[j]? = some v
def Ptx (c j : Nat) (v : Value) : Prop := j = 0 → v = .int .u64 (c : Int)
theorem col_images {W : World} {B : Nat} {F : Value → Nat → Prop} (h : Col 57 33 Pim (fun _ _ => True) W B F) {v : Value} {c : Nat} (hv : F v c) : IOwn W B v (List.replicate (vlen v) (mk c)) := by
  obtain ⟨xs, o, hm⟩ := h.own v c hv
  have hml : (icells (mk c)).length = 33 := icells_len (zs_len 32)
  have hlen : (IC (List.replicate (vlen v) (mk c))).length = vlen v * 33 := by
    have := flat_length (m := 33) ((List.replicate (vlen v) (mk c)).map icells) (fun x hx => by
      obtain ⟨i, hi, rfl⟩ := List.mem_map.1 hx
      rw [(List.mem_replicate.1 hi).2]; exact hml)
    rw [List.length_map, List.length_replicate] at this
    exact this
  have e : xs = IC (List.replicate (vlen v) (mk c)) := by
    refine List.ext_getElem? fun m => ?_
    rcases Nat.lt_or_ge m xs.length with a | a
    · have hu : xs[m]? = some xs[m] := List.getElem?_eq_getElem a
      have hp := hm m _ hu trivial
      have hk : m / 33 < vlen v := by rw [o.1] at a; omega
      have := flat_at (m := 33) ((List.replicate (vlen v) (mk c)).map icells) (fun x hx => by
        obtain ⟨i, hi, rfl⟩ := List.mem_map.1 hx
        rw [(List.mem_replicate.1 hi).2]; exact hml) (m / 33) (by simpa using hk) (m % 33) (Nat.mod_lt _ (by omega))
      rw [show 33 * (m / 33) + m % 33 = m by omega] at this
      rw [IC, this, hu]
      simp only [List.getElem_map, List.getElem_replicate]
      exact hp.symm
    · rw [List.getElem?_eq_none a, List.getElem?_eq_none (by rw [hlen, ← o.1]; exact a)]
  subst e
  show World.ownsRow _ _ _ _ _ _ _
  rw [List.length_replicate]
  exact o
theorem Col.pos {W : World} {B : Nat} {F : Value → Nat → Prop} (h : Col 59 2 Ptx (fun _ _ => True) W B F) {g n cp : Nat} {c : Nat} (hv : F (.slice (some ⟨g, 0, none⟩) n cp) c) (k : Nat) (hk : k < n) : W.cell? ⟨g, k * 2, none⟩ = some (.int .u64 (c : Int)) := by
  obtain ⟨xs, o, hm⟩ := h.own _ c hv
  have hl : k * 2 < xs.length := by rw [o.1]; show k * 2 < n * 2; omega
  have hu : xs[k * 2]? = some xs[k * 2] := List.getElem?_eq_getElem hl
  have hc := o.cells (g := g) rfl _ _ hu
  rw [Addr.add_mid, Nat.zero_add] at hc
  rw [hc, hm _ _ hu trivial (by omega)]
end Go.Proofs.YtefnkjajjidfaaaGreatDoor
namespace Go.Proofs.YtefnkjajjidfaaaGreatDoor
open Go.RowKit


theorem infoL : (Tryz.prog.info? 52).map (fun i => (i.zero, i.size, i.bytes)) = some (some (.slice none 0 0), 1, 24) := by kernel_rfl
theorem build_list (w : World) (q : Option Addr) (n m : Nat) : (Instr.buildSlice 100 1 #[(0, .slice q n m)]).run Tryz.prog w = .ok (.slice (some ⟨w.heap.size, 0, none⟩) 1 1) (w.alloc (.cells #[.slice q n m] 52)) := by
  obtain ⟨i0, hi, hz0, hz1, hz2⟩ := info_parts infoL
  refine run_buildSlice w 100 52 1 _ _ i0 _ Tryz.underlying100 hi hz0 (by rw [hz1]; decide) (by rw [hz1]; decide) ?_
  rw [hz1]
  have hA : ∀ A : Array Value, A.size = 1 → Instr.fill (fun i => some (i * 1, 1)) A [(0, .slice q n m)] = some #[.slice q n m] := by
    intro A hA
    have a0 := part_fill 0 [.slice q n m] A.toList (by simp; omega)
    simp only [Instr.fill, Value.cells, List.size_toArray, Nat.zero_mul]
    rw [if_neg (by simp [hA])]
    have a0' : (#[Value.slice q n m]).zipIdx.foldl (fun cs x => match x with | (c, j) => cs.setIfInBounds (0 + j) c) A = ((A.toList.take 0 ++ [Value.slice q n m] ++ A.toList.drop (0 + 1))).toArray := a0
    rw [a0', List.drop_eq_nil_of_le (by simp [hA])]
    simp
  exact hA _ (by simp)
/-- a list of images laid into a row of lists -/
theorem app_list {W : World} {B : Nat} {v : Value} {vs : List Value} (h : W.ownsRow B 52 1 v vs.length vs) (hL : vs.length ≤ 3000000) (hB : B ≤ W.heap.size) (q : Option Addr) (n c : Nat) :
    ∃ q' c' W', (Builtin.append_ #[100, 100] 100 #[v, .slice (some ⟨W.heap.size, 0, none⟩) 1 1]).run Tryz.prog (W.alloc (.cells #[.slice q n c] 52)) = .ok (.slice q' (vs.length + 1) c') W' ∧ W'.ownsRow B 52 1 (.slice q' (vs.length + 1) c') (vs ++ [Value.slice q n c]).length (vs ++ [Value.slice q n c]) ∧ (W.alloc (.cells #[.slice q n c] 52)).grownBy W' v.ownBlock := by
  obtain ⟨i0, hi0, hz0, hz1, hz2⟩ := info_parts infoL
  have h65 : (4000000 : Nat) ≤ maxLen := by decide
  obtain ⟨v', W', hrun, hown', hgrow, -⟩ := run_append_own (P := Tryz.prog) (W.alloc (.cells #[.slice q n c] 52)) B 100 100 52 i0 _ 1 24 Tryz.underlying100 hi0 hz0 hz1 hz2 rfl (by decide) v vs.length vs (h.alloc _) ⟨W.heap.size, 0, none⟩ 1 1 [.slice q n c] rfl (fun j u hu => by
    rw [Addr.add_mid, Nat.zero_add]; exact (LAt.cell (LAt.new 52 W [.slice q n c]) j).trans hu) (fun u hu => by
    rw [List.mem_singleton.1 hu]; rfl) (by omega) (by omega) (by simp; omega)
  obtain ⟨g', c', rfl⟩ := ownsRow_succ hown'
  refine ⟨_, c', W', hrun, ?_, hgrow⟩
  rw [List.length_append, List.length_singleton]
  exact hown'
/-- a list of such a row -/
theorem list_at {W : World} {B : Nat} {p : Option Addr} {n c : Nat} {vs : List Value} (h : W.ownsRow B 52 1 (.slice p n c) vs.length vs) {k : Nat} {u : Value} (hk : vs[k]? = some u) : ∃ g, p = some ⟨g, 0, none⟩ ∧ W.cell? ⟨g, k, none⟩ = some u ∧ g < W.heap.size := by
  have hkl := (List.getElem?_eq_some_iff.1 hk).1
  rcases h.2 with ⟨_, e⟩ | ⟨g, cap, cur, e, h0, hg, _⟩
  · omega
  · injection e with e1 e2 e3
    subst e1
    refine ⟨g, rfl, ?_, (h.lt g rfl).2⟩
    have := h.cells (g := g) rfl k u hk
    rw [Addr.add_mid, Nat.zero_add] at this
    exact this
/-- the images of a transaction of ours -/
theorem XOwn.sl {w : World} {B : Nat} {p : Option Addr} {n c : Nat} {l : List TX} {vs : List Value} (h : XOwn 59 w B (.slice p n c) l vs) {k : Nat} (hk : k < l.length) : ∃ g, p = some ⟨g, 0, none⟩ ∧ ∃ q m c2, vs[k]? = some (.slice q m c2) ∧ w.cell? ⟨g, k * 2 + 1, none⟩ = some (.slice q m c2) ∧ g < w.heap.size := by
  have hkv : k < vs.length := by rw [h.len]; exact hk
  obtain ⟨t, ht⟩ : ∃ t, l[k]? = some t := ⟨_, List.getElem?_eq_getElem hk⟩
  have hu : vs[k]? = some vs[k] := List.getElem?_eq_getElem hkv
  obtain ⟨q, c2, e2, -, -, -⟩ := IOwn.in (h.each k t _ ht hu) (h.wf t (List.mem_of_getElem? ht)).ims
  rcases h.row.2 with ⟨_, e⟩ | ⟨g, cap, cur, e, h0, hg, _⟩
  · omega
  · have hz : ((l.map (·.p)).zip vs)[k]? = some (t.p, vs[k]) := by
      rw [List.getElem?_zip_eq_some]
      exact ⟨by rw [List.getElem?_map, ht]; rfl, hu⟩
    have a := TC_at _ hz 1 (by omega)
    injection e with e1 _ _
    subst e1
    have := h.row.cells (g := g) rfl (2 * k + 1) vs[k] a
    rw [Addr.add_mid, Nat.zero_add, Nat.mul_comm] at this
    exact ⟨g, rfl, q, _, c2, by rw [hu, e2], by rw [this, e2], (h.row.lt g rfl).2⟩
theorem own_at_ne {W : World} {f e : TypeId} {g B s n : Nat} {cs : List Value} {v : Value} {xs : List Value} (h : LAt f W g cs) (k : W.ownsRow B e s v n xs) (hne : f ≠ e) : some g ≠ v.ownBlock := fun ev => by
  rcases k.2 with ⟨rfl, _⟩ | ⟨g', cap', cur', rfl, _, hg', _⟩
  · cases ev
  · simp only [Value.ownBlock, Option.some.injEq] at ev
    subst ev
    rw [LAt, hg'] at h
    cases h
    exact hne rfl
/-- what stands -/
structure Ap (w0 : World) (B0 Ba Bb : Nat) (ga gb : List Value) (Bl : Nat) (vl : Value) (vs : List Value) (D D2 : Nat → Nat → Prop) (F G : Value → Nat → Prop) (W : World) : Prop where
  im : Col 57 33 Pim D W B0 F
  tx : Col 59 2 Ptx D2 W B0 G
  li : W.ownsRow Bl 52 1 vl vs.length vs
  low : Below B0 w0 W
  sz : B0 ≤ W.heap.size
  ba : LAt 39 W Ba ga
  bb : LAt 39 W Bb gb
theorem Only.at {e f : TypeId} {W W' : World} (h : Only e W W') (hf : f ≠ e) {g : Nat} {cs : List Value} (k : LAt f W g cs) : LAt f W' g cs := (h.block g _ f k hf).trans k
section
variable {w0 W W' : World} {B0 Ba Bb Bl : Nat} {ga gb : List Value} {vl : Value} {vs : List Value} {D D' D2 : Nat → Nat → Prop} {F F' G G' : Value → Nat → Prop}
theorem Ap.later (h : Ap w0 B0 Ba Bb ga gb Bl vl vs D D2 F G W) (hb : Below W.heap.size W W') : Ap w0 B0 Ba Bb ga gb Bl vl vs D D2 F G W' :=
  ⟨h.im.later hb, h.tx.later hb, h.li.kept (grown_of_below hb) (by cases hh : vl.ownBlock <;> simp), h.low.trans (hb.mono h.sz), Nat.le_trans h.sz hb.size, LAt.later h.ba hb, LAt.later h.bb hb⟩
/-- one image marked -/
theorem ap_mark (h : Ap w0 B0 Ba Bb ga gb Bl vl vs D D2 F G W) {g n c i : Nat} (hx : F (.slice (some ⟨g, 0, none⟩) n c) i) (hu : ∀ v, F v i → v = .slice (some ⟨g, 0, none⟩) n c) (k : Nat) (hk : k < n) (hD : ∀ c' m, D' c' m → D c' m ∨ (c' = i ∧ k * 33 ≤ m ∧ m < k * 33 + 33)) :
    ∃ W', (Instr.storeAt 57 (.pointer (some ⟨g, k * 33, none⟩)) (.agg (icells (mk i)).toArray)).run Tryz.prog W = .ok () W' ∧ Ap w0 B0 Ba Bb ga gb Bl vl vs D' D2 F G W' := by
  obtain ⟨i0, hi0, hz0, hz1, hz2⟩ := info_parts infoI
  have hml : (icells (mk i)).length = 33 := icells_len (zs_len 32)
  obtain ⟨xs, ho, -⟩ := h.im.own _ _ hx
  rcases ho.2 with ⟨e, _⟩ | ⟨g', cap, cur, e, h0, hg, h1, h2, h3, h4⟩
  · cases e
  · have e' : g = g' ∧ n = vlen (.slice (some ⟨g, 0, none⟩) n c) ∧ c = cap := by simpa using e
    obtain ⟨rfl, -, rfl⟩ := e'
    have hfit : k * 33 + (icells (mk i)).length ≤ cur.size := by
      rw [hml, h3]
      have : n ≤ c := h1
      omega
    have hst := run_storeCells_at Tryz.prog g (k * 33) 57 (icells (mk i)) 0 cur W hg (by rw [Nat.add_zero]; exact hfit) (icells_ones _)
    rw [Nat.add_zero] at hst
    have hr2 : (Instr.storeAt 57 (.pointer (some ⟨g, k * 33, none⟩)) (.agg (icells (mk i)).toArray)).run Tryz.prog W = .ok () (W.setRow g (cur.toList.take (k * 33) ++ icells (mk i) ++ cur.toList.drop (k * 33 + 33)).toArray) := by
      rw [hml] at hst
      simp [Instr.storeAt, Instr.sureAddr, storeVar, sizeOf, typeInfo, hi0, hz1, Value.cells, hml, hst]
    refine ⟨_, hr2, ⟨?_, ?_, ?_, ?_, ?_, (only_setRow hg _).at (by decide) h.ba, (only_setRow hg _).at (by decide) h.bb⟩⟩
    · have := h.im.write (D' := D') hx rfl hg (k * 33) (icells (mk i)) hfit (fun j u hj => by
        have hjl := (List.getElem?_eq_some_iff.1 hj).1
        rw [Nat.mul_comm, Nat.mul_add_mod, Nat.mod_eq_of_lt (by omega)]
        exact hj) (fun v' c' hv m hd => by
        rcases hD c' m hd with k' | ⟨rfl, k1, k2⟩
        · exact .inl k'
        · rw [hu v' hv]; exact .inr ⟨rfl, k1, by rw [hml]; exact k2⟩)
      rw [hml] at this
      exact this
    · exact h.tx.only (only_setRow hg _) (by decide)
    · exact (only_setRow hg _).row (by decide) h.li
    · exact below_setRow h.low h0 _
    · have := h.sz; simp; exact this
/-- one position marked -/
theorem Ap.posit (h : Ap w0 B0 Ba Bb ga gb Bl vl vs D D2 F G W) {g n c i : Nat} (hx : G (.slice (some ⟨g, 0, none⟩) n c) i) (hu : ∀ v, G v i → v = .slice (some ⟨g, 0, none⟩) n c) (k : Nat) (hk : k < n) (hD : ∀ c' m, D' c' m → D2 c' m ∨ (c' = i ∧ k * 2 ≤ m ∧ m < k * 2 + 1)) :
    Ap w0 B0 Ba Bb ga gb Bl vl vs D D' F G (W.setCell ⟨g, k * 2, none⟩ (.int .u64 (i : Int))) := by
  obtain ⟨xs, ho, -⟩ := h.tx.own _ _ hx
  rcases ho.2 with ⟨e, _⟩ | ⟨g', cap, cur, e, h0, hg, h1, h2, h3, h4⟩
  · cases e
  · have e' : g = g' ∧ n = vlen (.slice (some ⟨g, 0, none⟩) n c) ∧ c = cap := by simpa using e
    obtain ⟨rfl, -, rfl⟩ := e'
    have hfit : k * 2 + [Value.int .u64 (i : Int)].length ≤ cur.size := by
      rw [h3]
      have : n ≤ c := h1
      show k * 2 + 1 ≤ _
      omega
    have hw : W.setCell ⟨g, k * 2, none⟩ (.int .u64 (i : Int)) = W.setRow g (cur.toList.take (k * 2) ++ [Value.int .u64 (i : Int)] ++ cur.toList.drop (k * 2 + [Value.int .u64 (i : Int)].length)).toArray := by
      rw [setCell_eq_setRow W g (k * 2) cur _ (0, 0) _ hg]
      congr 1
      apply Array.toList_inj.1
      have hl : k * 2 < cur.toList.length := by rw [Array.length_toList]; exact hfit
      rw [Array.toList_setIfInBounds, List.set_eq_take_append_cons_drop, if_pos hl]
      simp
    rw [hw]
    refine ⟨?_, ?_, ?_, ?_, ?_, (only_setRow hg _).at (by decide) h.ba, (only_setRow hg _).at (by decide) h.bb⟩
    · exact h.im.only (only_setRow hg _) (by decide)
    · refine h.tx.write (D' := D') hx rfl hg (k * 2) _ hfit (fun j u hj => ?_) (fun v' c' hv m hd => ?_)
      · cases j with
        | zero => cases hj; exact fun _ => rfl
        | succ j => cases hj
      · rcases hD c' m hd with k' | ⟨rfl, k1, k2⟩
        · exact .inl k'
        · rw [hu v' hv]; exact .inr ⟨rfl, k1, k2⟩
    · exact (only_setRow hg _).row (by decide) h.li
    · exact below_setRow h.low h0 _
    · have := h.sz; simp; exact this
/-- one image more -/
theorem ap_app (h : Ap w0 B0 Ba Bb ga gb Bl vl vs (fun _ _ => True) D2 F G W) {q : Option Addr} {n c i : Nat} (hx : F (.slice q n c) i) (hn : n ≤ 3000000) :
    ∃ q' c' W', (Builtin.append_ #[52, 52] 52 #[.slice q n c, .slice (some ⟨W.heap.size, 0, none⟩) 1 1]).run Tryz.prog (W.alloc (.cells (icells (mk i)).toArray 57)) = .ok (.slice q' (n + 1) c') W' ∧ Ap w0 B0 Ba Bb ga gb Bl vl vs (fun _ _ => True) D2 (fun v' k' => (v' = .slice q' (n + 1) c' ∧ k' = i) ∨ F v' k') G W' ∧ Only 57 W W' := by
  obtain ⟨i0, hi0, hz0, hz1, hz2⟩ := info_parts infoI
  have hml : (icells (mk i)).length = 33 := icells_len (zs_len 32)
  obtain ⟨q', c', W', hr, hc, hb, ho⟩ := Col.app (P := Tryz.prog) Tryz.underlying52 hi0 hz0 hz1 hz2 rfl (by decide) (by decide) h.im hx (icells (mk i)) hml (icells_ones _) (fun j u hu => hu) hn h.sz
  exact ⟨q', c', W', hr, ⟨hc, h.tx.only ho (by decide), ho.row (by decide) h.li, h.low.trans hb, Nat.le_trans h.sz hb.size, ho.at (by decide) h.ba, ho.at (by decide) h.bb⟩, ho⟩
/-- one transaction more -/
theorem Ap.appT (h : Ap w0 B0 Ba Bb ga gb Bl vl vs D (fun _ _ => True) F G W) {q : Option Addr} {n c i : Nat} (hx : G (.slice q n c) i) (hn : n ≤ 3000000) :
    ∃ q' c' W', (Builtin.append_ #[37, 37] 37 #[.slice q n c, .slice (some ⟨W.heap.size, 0, none⟩) 1 1]).run Tryz.prog (W.alloc (.cells #[.int .u64 (i : Int), .slice none 0 0] 59)) = .ok (.slice q' (n + 1) c') W' ∧ Ap w0 B0 Ba Bb ga gb Bl vl vs D (fun _ _ => True) F (fun v' k' => (v' = .slice q' (n + 1) c' ∧ k' = i) ∨ G v' k') W' ∧ Only 59 W W' := by
  obtain ⟨i0, hi0, hz0, hz1, hz2⟩ := info_parts infoT
  obtain ⟨q', c', W', hr, hc, hb, ho⟩ := Col.app (P := Tryz.prog) Tryz.underlying37 hi0 hz0 hz1 hz2 rfl (by decide) (by decide) h.tx hx [.int .u64 (i : Int), .slice none 0 0] rfl (fun u hu => by
    simp only [List.mem_cons, List.not_mem_nil, or_false] at hu
    rcases hu with rfl | rfl <;> rfl) (fun j u hu => by
    cases j with
    | zero => cases hu; exact fun _ => rfl
    | succ j => exact fun e => by cases e) hn h.sz
  exact ⟨q', c', W', hr, ⟨h.im.only ho (by decide), hc, ho.row (by decide) h.li, h.low.trans hb, Nat.le_trans h.sz hb.size, ho.at (by decide) h.ba, ho.at (by decide) h.bb⟩, ho⟩
/-- a list more in a row of lists that is not this one -/
theorem Ap.other (h : Ap w0 B0 Ba Bb ga gb Bl vl vs D D2 F G W) {Bg : Nat} (hB : B0 ≤ Bg) (hl : ∀ g, vl.ownBlock = some g → g < Bg) {v : Value} {ls : List Value} (ho : W.ownsRow Bg 52 1 v ls.length ls) (hg : W.grownBy W' v.ownBlock) : Ap w0 B0 Ba Bb ga gb Bl vl vs D D2 F G W' := by
  have hne : vl.ownBlock = none ∨ vl.ownBlock ≠ v.ownBlock := by
    cases hv : vl.ownBlock with
    | none => exact .inl rfl
    | some g => exact .inr fun e => by have := (ho.lt g e.symm).1; have := hl g hv; omega
  refine ⟨h.im.grown hg fun u c hu => ?_, h.tx.grown hg fun u c hu => ?_, h.li.kept hg hne, h.low.grown hg h.sz fun j ej => Nat.le_trans hB (ho.lt j ej).1, Nat.le_trans h.sz hg.size, ?_, ?_⟩
  · obtain ⟨xs, o, -⟩ := h.im.own u c hu
    exact own_ne o ho (by decide)
  · obtain ⟨xs, o, -⟩ := h.tx.own u c hu
    exact own_ne o ho (by decide)
  · exact (hg.block Ba h.ba.lt (own_at_ne h.ba ho (by decide))).trans h.ba
  · exact (hg.block Bb h.bb.lt (own_at_ne h.bb ho (by decide))).trans h.bb
end

theorem Col.form {e : TypeId} {sz : Nat} {Pr : Nat → Nat → Value → Prop} {D : Nat → Nat → Prop} {W : World} {B : Nat} {F : Value → Nat → Prop} (h : Col e sz Pr D W B F) {v : Value} {c : Nat} (hv : F v c) : ∃ q n cp, v = .slice q n cp ∧ (0 < n → ∃ g, q = some ⟨g, 0, none⟩) := by
  obtain ⟨xs, o, -⟩ := h.own v c hv
  rcases o.2 with ⟨e1, e2⟩ | ⟨g, cap, cur, e1, _⟩
  · exact ⟨none, 0, 0, e1, fun h => absurd h (Nat.lt_irrefl 0)⟩
  · exact ⟨_, _, cap, e1, fun _ => ⟨g, rfl⟩⟩
theorem Col.posx {W : World} {B : Nat} {F : Value → Nat → Prop} (h : Col 59 2 Ptx (fun _ _ => True) W B F) {q : Option Addr} {n cp : Nat} {c : Nat} (hv : F (.slice q n cp) c) (k : Nat) (hk : k < n) : ∃ g, q = some ⟨g, 0, none⟩ ∧ W.cell? ⟨g, k * 2, none⟩ = some (.int .u64 (c : Int)) := by
  obtain ⟨q', n', c', e, hq⟩ := h.form hv
  cases e
  obtain ⟨g, rfl⟩ := hq (by omega)
  exact ⟨g, rfl, h.pos hv k hk⟩
theorem Col.cellAt {D : Nat → Nat → Prop} {W : World} {B : Nat} {F : Value → Nat → Prop} (h : Col 59 2 Ptx D W B F) {g n cp c : Nat} (hv : F (.slice (some ⟨g, 0, none⟩) n cp) c) (k : Nat) (hk : k < n) : ∃ u, W.cell? ⟨g, k * 2, none⟩ = some u ∧ W.frozen? ⟨g, k * 2, none⟩ = false := by
  obtain ⟨xs, o, -⟩ := h.own _ c hv
  have hl : k * 2 < xs.length := by rw [o.1]; show k * 2 < n * 2; omega
  have hc := o.cells (g := g) rfl _ _ (List.getElem?_eq_getElem hl)
  rw [Addr.add_mid, Nat.zero_add] at hc
  refine ⟨_, hc, ?_⟩
  rcases o.2 with ⟨e, _⟩ | ⟨g', cap, cur, e, _, hg, _⟩
  · cases e
  · injection e with e1 _ _
    cases e1
    exact frozen_of_row W g (k * 2) _ 59 hg
theorem Col.even {W : World} {B : Nat} {F : Value → Nat → Prop} {D : Nat → Nat → Prop} (h : Col 59 2 Ptx D W B F) (hD : ∀ v c, F v c → ∀ m, m < vlen v * 2 → m % 2 = 0 → D c m) : Col 59 2 Ptx (fun _ _ => True) W B F :=
  ⟨fun v c hv => by
    obtain ⟨xs, o, k⟩ := h.own v c hv
    exact ⟨xs, o, fun m u hu _ e => k m u hu (hD v c hv m (by rw [← o.1]; exact (List.getElem?_eq_some_iff.1 hu).1) e) e⟩, h.sep⟩
/-- lists that were grown, laid into a row of lists -/
structure Lgr (w0 : World) (B0 Ba Bb : Nat) (ga gb : List Value) (Bl : Nat) (vl : Value) (vs : List Value) (F G : Value → Nat → Prop) (Bg : Nat) (vg : Value) (ls : List Value) (W : World) : Prop where
  ap : Ap w0 B0 Ba Bb ga gb Bl vl vs (fun _ _ => True) (fun _ _ => True) F G W
  vf : ∀ (c : Nat) (u : Value), vs[c]? = some u → F u c
  row : W.ownsRow Bg 52 1 vg ls.length ls
  col : ∀ (m : Nat) (u : Value), ls[m]? = some u → F u (m % vs.length)
  bg : Bg ≤ W.heap.size
section
variable {w0 W W' : World} {B0 Ba Bb Bl Bg : Nat} {ga gb : List Value} {vl vg : Value} {vs ls : List Value} {F G : Value → Nat → Prop}
theorem Lgr.later (h : Lgr w0 B0 Ba Bb ga gb Bl vl vs F G Bg vg ls W) (hb : Below W.heap.size W W') : Lgr w0 B0 Ba Bb ga gb Bl vl vs F G Bg vg ls W' :=
  ⟨h.ap.later hb, h.vf, h.row.kept (grown_of_below hb) (by cases hh : vg.ownBlock <;> simp), h.col, Nat.le_trans h.bg hb.size⟩
theorem Lgr.app (h : Lgr w0 B0 Ba Bb ga gb Bl vl vs F G Bg vg ls W) {q : Option Addr} {n c i : Nat} (hx : F (.slice q n c) i) (hn : n ≤ 3000000) :
    ∃ q' c' W' F', (Builtin.append_ #[52, 52] 52 #[.slice q n c, .slice (some ⟨W.heap.size, 0, none⟩) 1 1]).run Tryz.prog (W.alloc (.cells (icells ⟨1000 + (i : Int), zs 32⟩).toArray 57)) = .ok (.slice q' (n + 1) c') W' ∧ Lgr w0 B0 Ba Bb ga gb Bl vl vs F' G Bg vg ls W' ∧ F' (.slice q' (n + 1) c') i := by
  obtain ⟨q', c', W', hr, ha, ho⟩ := ap_app h.ap hx hn
  exact ⟨q', c', W', _, hr, ⟨ha, fun c u hu => .inr (h.vf c u hu), ho.row (by decide) h.row, fun m u hu => .inr (h.col m u hu), Nat.le_trans h.bg ho.size⟩, .inl ⟨rfl, rfl⟩⟩
theorem Lgr.appT (h : Lgr w0 B0 Ba Bb ga gb Bl vl vs F G Bg vg ls W) {q : Option Addr} {n c i : Nat} (hx : G (.slice q n c) i) (hn : n ≤ 3000000) :
    ∃ q' c' W' G', (Builtin.append_ #[37, 37] 37 #[.slice q n c, .slice (some ⟨W.heap.size, 0, none⟩) 1 1]).run Tryz.prog (W.alloc (.cells #[.int .u64 (i : Int), .slice none 0 0] 59)) = .ok (.slice q' (n + 1) c') W' ∧ Lgr w0 B0 Ba Bb ga gb Bl vl vs F G' Bg vg ls W' ∧ G' (.slice q' (n + 1) c') i ∧ ∀ v k, G v k → G' v k := by
  obtain ⟨q', c', W', hr, ha, ho⟩ := h.ap.appT hx hn
  exact ⟨q', c', W', _, hr, ⟨ha, h.vf, ho.row (by decide) h.row, h.col, Nat.le_trans h.bg ho.size⟩, .inl ⟨rfl, rfl⟩, fun v k hv => .inr hv⟩
theorem Lgr.push (h : Lgr w0 B0 Ba Bb ga gb Bl vl vs F G Bg vg ls W) (hB : B0 ≤ Bg) (hl : ∀ g, vl.ownBlock = some g → g < Bg) {q : Option Addr} {n c : Nat} (hx : F (.slice q n c) (ls.length % vs.length)) (hn : ls.length ≤ 3000000) :
    ∃ q' c' W', (Builtin.append_ #[100, 100] 100 #[vg, .slice (some ⟨W.heap.size, 0, none⟩) 1 1]).run Tryz.prog (W.alloc (.cells #[.slice q n c] 52)) = .ok (.slice q' (ls.length + 1) c') W' ∧ Lgr w0 B0 Ba Bb ga gb Bl vl vs F G Bg (.slice q' (ls.length + 1) c') (ls ++ [.slice q n c]) W' := by
  obtain ⟨q', c', W', hr, ho, hg⟩ := app_list h.row hn h.bg q n c
  have ba := below_alloc W (.cells #[.slice q n c] 52)
  refine ⟨q', c', W', hr, ⟨(h.ap.later ba).other hB hl (h.row.alloc _) hg, h.vf, ho, fun m u hu => ?_, Nat.le_trans (Nat.le_trans h.bg ba.size) hg.size⟩⟩
  rcases Nat.lt_or_ge m ls.length with a | a
  · rw [List.getElem?_append_left a] at hu
    exact h.col m u hu
  · rw [List.getElem?_append_right a] at hu
    have hm : m - ls.length = 0 := by have := (List.getElem?_eq_some_iff.1 hu).1; simp at this; omega
    rw [hm] at hu
    cases hu
    rw [show m = ls.length by omega]
    exact hx
/-- a list that was grown, looked at -/
theorem lg_look (h : Lgr w0 B0 Ba Bb ga gb Bl vl vs F G Bg vg ls W) (hL : vs.length ≤ 1000) {k : Nat} {u : Value} (hk : ls[k]? = some u) (h0 : 0 < vs.length) : ∃ q m c, u = .slice q m c ∧ MIn W q m (List.replicate m (mk (k % vs.length))) ∧ m ≤ maxLen := by
  have hF := h.col k u hk
  obtain ⟨q, m, c, rfl, -⟩ := h.ap.im.form hF
  have ho := col_images h.ap.im hF
  have hlt := Nat.mod_lt k h0
  obtain ⟨p, c', e, hm, h1, h2⟩ := IOwn.in ho (rep_wf _ (by omega))
  injection e with e1 e2 e3
  subst e1
  rw [List.length_replicate] at hm h1
  exact ⟨q, m, c, rfl, hm, by have : m ≤ c' := h1; omega⟩
end
end Go.Proofs.YtefnkjajjidfaaaGreatDoor
