/-
  Layer 15: lists in a list, each one grown; turned. Layer 15: a list in a list is grown by one place: what a region does to the lists. Layer 15: turned.
-/
import Derived.Test.YtkgjmejpbklabaaGreatN9
import Derived.Deep.CutBlock
import Derived.Test.YtkgjmejpbklabaaGreatZa
namespace Go.Proofs.YtkgjmejpbklabaaGreat
open Go.RowKit
open B (IIn I64)
/-- lists of the call's own in a list of its own, all apart -/
structure Rws (w : World) (base g n : Nat) (vs : List Value) (bk : List (List Nat)) : Prop where
  lv : vs.length = n
  lb : bk.length = n
  top : w.ownsRow base 72 1 (.slice (some ⟨g, 0, none⟩) n n) n vs
  row : ∀ i, i < n → w.ownsRow base 3 1 (vs.getD i nils) (bk.getD i []).length (I64 (nz (bk.getD i [])))
  apart : ∀ i j b, i < n → j < n → (vs.getD i nils).ownBlock = some b → (vs.getD j nils).ownBlock = some b → i = j
theorem Rws.start {w : World} {base g n : Nat} (h : w.ownsRow base 72 1 (.slice (some ⟨g, 0, none⟩) n n) n (List.replicate n nils)) : Rws w base g n (List.replicate n nils) (List.replicate n []) := by
  have e1 : ∀ i, (List.replicate n nils).getD i nils = nils := fun i => by by_cases h : i < n <;> simp [List.getD, h]
  have e2 : ∀ i, (List.replicate n ([] : List Nat)).getD i [] = [] := fun i => by by_cases h : i < n <;> simp [List.getD, h]
  refine ⟨by simp, by simp, h, fun i _ => ?_, fun i j b _ _ h1 => ?_⟩
  · rw [e1, e2]; exact World.ownsRow_nil _ _ _ _
  · rw [e1] at h1; cases h1
theorem Rws.keeps {w w' : World} {base g n : Nat} {vs : List Value} {bk : List (List Nat)} (h : Rws w base g n vs bk) (hk : ∀ k, base ≤ k → k < w.heap.size → w'.heap[k]? = w.heap[k]?) : Rws w' base g n vs bk :=
  { h with
    top := O.own_keeps h.top fun k hk2 => hk k (h.top.lt k hk2).1 (h.top.lt k hk2).2
    row := fun i hi => O.own_keeps (h.row i hi) fun k hk2 => hk k ((h.row i hi).lt k hk2).1 ((h.row i hi).lt k hk2).2 }
theorem Rws.later {w w' : World} {base g n : Nat} {vs : List Value} {bk : List (List Nat)} (h : Rws w base g n vs bk) (hb : RowKit.Below w.heap.size w w') : Rws w' base g n vs bk := h.keeps fun k _ hk => hb.block k hk
/-- one list is grown by one place, and put back -/
theorem Rws.put {w w' : World} {base g n : Nat} {vs : List Value} {bk : List (List Nat)} (h : Rws w base g n vs bk) {i x : Nat} (hi : i < n) {v' : Value} (ho : w'.ownsRow base 3 1 v' ((bk.getD i []).length + 1) (I64 (nz (bk.getD i [])) ++ [.int .i64 (x : Int)]))
    (hk : Kept (fun b => (vs.getD i nils).ownBlock = some b) w w') (hv : ∀ b, v'.ownBlock = some b → (vs.getD i nils).ownBlock = some b ∨ w.heap.size ≤ b) :
    Rws (w'.setCell ⟨g, i, none⟩ v') base g n (vs.set i v') (bk.set i (bk.getD i [] ++ [x])) := by
  have hg : ∀ j, j < n → (vs.getD j nils).ownBlock ≠ some g := fun j hj hc => O.own_ne (h.row j hj) h.top (by decide) hc rfl
  have ht : w'.ownsRow base 72 1 (.slice (some ⟨g, 0, none⟩) n n) n vs := O.own_far h.top hk fun b hb hc => hg i hi (by simp [Value.ownBlock] at hb; rw [hb]; exact hc)
  have hs : Kept (· = g) w' (w'.setCell ⟨g, i, none⟩ v') := Kept.setCell g i v'
  have hvg : v'.ownBlock ≠ some g := fun hc => O.own_ne ho ht (by decide) hc rfl
  have e1 : ∀ j, (vs.set i v').getD j nils = if i = j then v' else vs.getD j nils := fun j => by
    rw [getD_set]
    by_cases hj : i = j
    · rw [if_pos ⟨hj, by rw [h.lv]; exact hi⟩, if_pos hj]
    · rw [if_neg (fun hc => hj hc.1), if_neg hj]
  have e2 : ∀ j, (bk.set i (bk.getD i [] ++ [x])).getD j [] = if i = j then bk.getD i [] ++ [x] else bk.getD j [] := fun j => by
    rw [getD_set]
    by_cases hj : i = j
    · rw [if_pos ⟨hj, by rw [h.lb]; exact hi⟩, if_pos hj]
    · rw [if_neg (fun hc => hj hc.1), if_neg hj]
  refine ⟨by simp [h.lv], by simp [h.lb], O.own_set ht rfl i v', fun j hj => ?_, fun j l b hj hl h1 h2 => ?_⟩
  · rw [e1, e2]
    by_cases hij : i = j
    · rw [if_pos hij, if_pos hij, List.length_append, nz_append, I64_append]
      exact O.own_far ho hs fun b hb e => hvg (e ▸ hb)
    · rw [if_neg hij, if_neg hij]
      refine O.own_far (O.own_far (h.row j hj) hk fun b hb hc => hij (h.apart i j b hi hj hc hb)) hs fun b hb e => hg j hj (e ▸ hb)
  · rw [e1] at h1 h2
    have old : ∀ m, m < n → i ≠ m → (vs.getD m nils).ownBlock = some b → v'.ownBlock = some b → False := fun m hm hne h3 h4 => by
      rcases hv b h4 with h5 | h5
      · exact hne (h.apart i m b hi hm h5 h3)
      · have := ((h.row m hm).lt b h3).2; omega
    by_cases hij : i = j
    · rw [if_pos hij] at h1
      by_cases hil : i = l
      · rw [← hij, hil]
      · rw [if_neg hil] at h2
        exact (old l hl hil h2 h1).elim
    · rw [if_neg hij] at h1
      by_cases hil : i = l
      · rw [if_pos hil] at h2
        exact (old j hj hij h1 h2).elim
      · rw [if_neg hil] at h2
        exact h.apart j l b hj hl h1 h2
/-- read as a graph's lists -/
theorem Rws.nin {w : World} {base g n : Nat} {vs : List Value} {bk : List (List Nat)} (h : Rws w base g n vs bk) : NIn (fun k => base ≤ k ∧ k < w.heap.size) w (.slice (some ⟨g, 0, none⟩) n n) bk := by
  have hg := h.top.lt g rfl
  refine ⟨g, n, by rw [h.lb], hg, hg.2, fun i hi => ?_⟩
  rw [h.lb] at hi
  have hr := h.row i hi
  obtain ⟨p, c, e, hI, _, _, hlt⟩ := B.ints_in hr
  refine ⟨p, c, ?_, hI, fun a ha h0 => ?_⟩
  · rw [O.own_cell h.top (show vs[i]? = some (.slice p (bk.getD i []).length c) by rw [← e]; simp [List.getD, show i < vs.length by rw [h.lv]; exact hi])]
  · have := hlt a ha
    exact ⟨this.1, this.2⟩
end Go.Proofs.YtkgjmejpbklabaaGreat
namespace Go.Proofs.YtkgjmejpbklabaaGreat
open Go.RowKit
open B (IIn I64)
/-- behind 'append' onto one of the lists, and behind its being put back -/
theorem Rws.grown {we w' : World} {base g n u i : Nat} {vs : List Value} {bk : List (List Nat)} {v' : Value} (h : Rws we base g n vs bk) (hu : u < n) (ho : w'.ownsRow base 3 1 v' ((bk.getD u []).length + 1) (I64 (nz (bk.getD u [])) ++ [.int .i64 (i : Int)]))
    (hk : Kept (fun b => (vs.getD u nils).ownBlock = some b) (we.alloc (Obj.cells #[Value.int .i64 (i : Int)] 3)) w') (hv : v'.ownBlock = (vs.getD u nils).ownBlock ∨ v'.ownBlock = some (we.alloc (Obj.cells #[Value.int .i64 (i : Int)] 3)).heap.size) :
    (∀ b (x y : Value), GBx we b x y → GBx w' b x y) ∧ w'.ownsRow base 72 1 (.slice (some ⟨g, 0, none⟩) n n) n vs ∧ Rws (w'.setCell ⟨g, u, none⟩ v') base g n (vs.set u v') (bk.set u (bk.getD u [] ++ [i])) ∧ (∀ b (x y : Value), GBx we b x y → GBx (w'.setCell ⟨g, u, none⟩ v') b x y) ∧
      (∀ (w0 : World), RowKit.Below w0.heap.size w0 we → w0.heap.size ≤ base → RowKit.Below w0.heap.size w0 (w'.setCell ⟨g, u, none⟩ v')) := by
  have hrw := h.row u hu
  have hkw : Kept (fun b => (vs.getD u nils).ownBlock = some b) we w' := (Kept.of_below _ (below_alloc we _)).trans hk fun _ _ h => h
  have hvw : ∀ b, v'.ownBlock = some b → (vs.getD u nils).ownBlock = some b ∨ we.heap.size ≤ b := fun b hb => by
    rcases hv with h | h
    · exact .inl (h ▸ hb)
    · rw [hb] at h; simp at h; exact .inr (by omega)
  have hg1 : ∀ b (x y : Value), GBx we b x y → GBx w' b x y := fun b x y hb => hb.far hkw fun hc => O.own_not hrw hb (by decide) hc
  have htop : w'.ownsRow base 72 1 (.slice (some ⟨g, 0, none⟩) n n) n vs := O.own_far h.top hkw fun z hz hc => by
    simp [Value.ownBlock] at hz
    subst hz
    exact O.own_ne hrw h.top (by decide) hc rfl
  refine ⟨hg1, htop, h.put hu ho hkw hvw, fun b x y hb => (hg1 b x y hb).far (Kept.setCell g u v') fun e => ?_, fun w0 hb0 hle => ?_⟩
  · subst e
    exact O.own_not htop (hg1 _ _ _ hb) (by decide) rfl
  · have h1 : RowKit.Below w0.heap.size w0 w' := Kept.into hkw hb0 (fun b hb hc => by have := (hrw.lt b hc).1; omega) (Nat.le_refl _)
    exact h1.setCell (Nat.le_trans hle (h.top.lt g rfl).1) v'
theorem Rws.cell {w : World} {base g n : Nat} {vs : List Value} {bk : List (List Nat)} (h : Rws w base g n vs bk) {u : Nat} (hu : u < n) : ∃ pv cv, vs.getD u nils = .slice pv (bk.getD u []).length cv ∧ vs[u]? = some (.slice pv (bk.getD u []).length cv) ∧ w.cell? ⟨g, u, none⟩ = some (.slice pv (bk.getD u []).length cv) := by
  obtain ⟨pv, cv, ev⟩ := O.own_shape (h.row u hu)
  have hvu : vs[u]? = some (.slice pv (bk.getD u []).length cv) := by rw [← ev]; simp [List.getD, show u < vs.length by rw [h.lv]; exact hu]
  exact ⟨pv, cv, ev, hvu, O.own_cell h.top hvu⟩
end Go.Proofs.YtkgjmejpbklabaaGreat
namespace Go.Proofs.YtkgjmejpbklabaaGreat
open Go.RowKit
open B (IIn I64)
theorem heap4 (w : World) (a b c d : Obj) : ((((w.alloc a).alloc b).alloc c).alloc d).heap[w.heap.size]? = some a ∧ ((((w.alloc a).alloc b).alloc c).alloc d).heap[w.heap.size + 1]? = some b ∧ ((((w.alloc a).alloc b).alloc c).alloc d).heap[w.heap.size + 1 + 1]? = some c ∧ ((((w.alloc a).alloc b).alloc c).alloc d).heap[w.heap.size + 1 + 1 + 1]? = some d := by
  have h1 : ∀ (v : World) (o : Obj) (k : Nat), k < v.heap.size → (v.alloc o).heap[k]? = v.heap[k]? := fun v o k hk => RowKit.Below.heap_alloc v o k hk
  have h2 : ∀ (v : World) (o : Obj), (v.alloc o).heap.size = v.heap.size + 1 := fun v o => by simp
  have h3 : ∀ (v : World) (o : Obj) (k : Nat), v.heap.size = k → (v.alloc o).heap[k]? = some o := fun v o k e => by rw [← e]; exact heap_alloc_new v o
  refine ⟨?_, ?_, ?_, ?_⟩
  · rw [h1 _ _ _ (by simp only [h2]; omega), h1 _ _ _ (by simp only [h2]; omega), h1 _ _ _ (by simp only [h2]; omega), h3 _ _ _ rfl]
  · rw [h1 _ _ _ (by simp only [h2]; omega), h1 _ _ _ (by simp only [h2]; omega), h3 _ _ _ (by simp only [h2])]
  · rw [h1 _ _ _ (by simp only [h2]; omega), h3 _ _ _ (by simp only [h2])]
  · rw [h3 _ _ _ (by simp only [h2])]
theorem below4 (w : World) (a b c d : Obj) : RowKit.Below w.heap.size w ((((w.alloc a).alloc b).alloc c).alloc d).drew :=
  (below_then (below_then (below_then (below_alloc w a) (below_alloc _ b)) (below_alloc _ c)) (below_alloc _ d)).trans (below_dr _ _ 1)
theorem own_rep {W : World} {base g n : Nat} (hn : n ≤ 9000) (hb : base ≤ g) (h : W.heap[g]? = some (Obj.cells (Array.replicate n (Value.slice none 0 0)) 72)) : W.ownsRow base 72 1 (.slice (some ⟨g, 0, none⟩) n n) n (List.replicate n nils) :=
  ⟨by simp, .inr ⟨g, n, _, rfl, hb, h, Nat.le_refl _, Nat.le_trans (show n ≤ 10000 by omega) (by decide), by simp, by simp⟩⟩
set_option maxHeartbeats 2000000 in
set_option maxRecDepth 100000 in
theorem turned_at {S : Nat → Prop} {w : World} {tp : Option Addr} {tn tc : Nat} {nv : Value} {nx : List (List Nat)} {n : Nat} (hn : nx.length = n) (hz : n ≤ 9000) (hNX : NIn S w nv nx) (hwf : ∀ i v, v ∈ nx.getD i [] → v < n) (hnd : ∀ i, (nx.getD i []).Nodup) :
    Calls Tryz.prog 27 #[.agg #[.slice tp tn tc, nv]] w fun e w' => ∃ nv' bk, e = .returned (.agg #[.slice tp tn tc, nv']) ∧ Tnd nx bk ∧ NIn (fun k => w.heap.size ≤ k ∧ k < w'.heap.size) w' nv' bk ∧ RowKit.Below w.heap.size w w' := by
  obtain ⟨g, cg, enx, hrow⟩ := hNX.row
  rw [hn] at enx
  subst enx
  have hmk := fun w => make_intss w n (by omega)
  go_enter Tryz.func27, Tryz.ntmps27
  go_upto_region 1 with fail
  go_cut [3] from 8 to 14 (fun v W => ∃ g3 g4 : Nat, v = .pointer (some ⟨g3, 0, none⟩) ∧ Hid (RowKit.Below w.heap.size w W) ∧ Hid (GBx W w.heap.size (.slice tp tn tc) (.slice (some ⟨g, 0, none⟩) n cg)) ∧ Hid (GBx W (w.heap.size + 1) nils nils) ∧ Hid (GBx W g3 (.slice tp tn tc) (.slice (some ⟨g4, 0, none⟩) n n)) ∧ Hid (W.ownsRow w.heap.size 72 1 (.slice (some ⟨g4, 0, none⟩) n n) n (List.replicate n nils)) ∧ w.heap.size + 1 < g3)
  case first =>
    go_region
    · have h4 := heap4 w (Obj.cells #[Value.slice tp tn tc, Value.slice (some ⟨g, 0, none⟩) n cg] 70) (Obj.cells #[nils, nils] 70) (Obj.cells (Array.replicate n nils) 72) (Obj.cells #[Value.slice tp tn tc, Value.slice (some ⟨w.heap.size + 1 + 1, 0, none⟩) n n] 70)
      have HB : Hid (RowKit.Below w.heap.size w _) := below4 w (Obj.cells #[Value.slice tp tn tc, Value.slice (some ⟨g, 0, none⟩) n cg] 70) (Obj.cells #[nils, nils] 70) (Obj.cells (Array.replicate n nils) 72) (Obj.cells #[Value.slice tp tn tc, Value.slice (some ⟨w.heap.size + 1 + 1, 0, none⟩) n n] 70)
      have H4 : Hid (_ ∧ _ ∧ _ ∧ _) := h4
      clear h4
      go_wp2_with fail
      go_meet
      case rel => exact ⟨_, w.heap.size + 1 + 1, rfl, HB, H4.out.1, H4.out.2.1, H4.out.2.2.2, own_rep hz (by omega) H4.out.2.2.1, by omega⟩
    · have h4 := heap4 w (Obj.cells #[Value.slice tp tn tc, Value.slice (some ⟨g, 0, none⟩) n cg] 70) (Obj.cells #[nils, nils] 70) (Obj.cells #[Value.slice tp tn tc, Value.slice (some ⟨w.heap.size + 1 + 1 + 1, 0, none⟩) n n] 70) (Obj.cells (Array.replicate n nils) 72)
      have HB : Hid (RowKit.Below w.heap.size w _) := below4 w (Obj.cells #[Value.slice tp tn tc, Value.slice (some ⟨g, 0, none⟩) n cg] 70) (Obj.cells #[nils, nils] 70) (Obj.cells #[Value.slice tp tn tc, Value.slice (some ⟨w.heap.size + 1 + 1 + 1, 0, none⟩) n n] 70) (Obj.cells (Array.replicate n nils) 72)
      have H4 : Hid (_ ∧ _ ∧ _ ∧ _) := h4
      clear h4
      go_wp2_with fail
      go_meet
      case rel => exact ⟨_, w.heap.size + 1 + 1 + 1, rfl, HB, H4.out.1, H4.out.2.1, H4.out.2.2.1, own_rep hz (by omega) H4.out.2.2.2, by omega⟩
  case rest =>
    obtain ⟨g3, g4, rfl, HB0, HG0, HV0, HT0, HO0, hg3⟩ := hcut
    clear hmk
    have HNN : Hid (nx.length = n) := hn
    have HROW : Hid (∀ i, i < n → ∃ p k, ∀ W : World, RowKit.Below w.heap.size w W → W.cell? ⟨g, i, none⟩ = some (.slice p (nx.getD i []).length k) ∧ IIn W p (nx.getD i []).length (nz (nx.getD i []))) := fun i hi => by
      obtain ⟨p, k, h⟩ := hrow i (by omega)
      exact ⟨p, k, fun W hW => h W fun k _ hlt => hW.block k hlt⟩
    clear hn hrow hNX
    have hc1 := HG0.out.c1
    go_wp2_with fail
    clear hc1
    go_loopw [18] (fun v W => ∃ (i : Nat) (vs : List Value) (bk : List (List Nat)), v = .int .i64 (i : Int) ∧ i ≤ n ∧ Hid (RowKit.Below w.heap.size w W) ∧ Hid (GBx W (w.heap.size + 1) nils nils) ∧ Hid (GBx W g3 (.slice tp tn tc) (.slice (some ⟨g4, 0, none⟩) n n)) ∧ Hid (Rws W w.heap.size g4 n vs bk) ∧ Hid (Tni nx i 0 bk)) (fun v _ => n - (intV v).toNat)
    case atStart => exact ⟨0, _, _, rfl, by omega, HB0, HV0, HT0, Rws.start HO0.out, by have := Tni.start nx; rw [HNN.out] at this; exact this⟩
    case round =>
      obtain ⟨i, vs, bk, rfl, hi, HB, HV, HT, HR, HTN⟩ := hrel
      by_cases hin : i < n
      · obtain ⟨pr, kr, hrow⟩ := HROW.out i hin
        have hcr := (hrow wr HB.out).1
        have HRW : Hid (∀ W : World, RowKit.Below w.heap.size w W → IIn W pr (nx.getD i []).length (nz (nx.getD i []))) := fun W hW => (hrow W hW).2
        obtain ⟨row, hRo⟩ : ∃ row, row = nx.getD i [] := ⟨_, rfl⟩
        have HWF : Hid (∀ v, v ∈ row → v < n) := by rw [hRo]; exact hwf i
        have HRO : Hid (nx.getD i [] = row) := hRo.symm
        have hrl : row.length ≤ 9000 := by
          have := nodup_lt (n := n) (hnd i) fun v hv => hwf i v hv
          rw [hRo]; omega
        rw [← hRo] at HRW hcr
        clear hrow hRo
        have HTN0 : Hid (Tni nx i 0 bk) := HTN
        go_wp2_with fail
        clear hcr
        go_loopw [25] (fun v W => ∃ (j : Nat) (vs : List Value) (bk : List (List Nat)), v = .int .i64 (j : Int) ∧ j ≤ row.length ∧ Hid (RowKit.Below w.heap.size w W) ∧ Hid (GBx W (w.heap.size + 1) nils nils) ∧ Hid (GBx W g3 (.slice tp tn tc) (.slice (some ⟨g4, 0, none⟩) n n)) ∧ Hid (Rws W w.heap.size g4 n vs bk) ∧ Hid (Tni nx i j bk)) (fun v _ => row.length - (intV v).toNat)
        case atStart => exact ⟨0, vs, bk, rfl, by omega, HB, HV, HT, HR, HTN0⟩
        case round =>
          obtain ⟨j, vs2, bk2, rfl, hj, HB2, HV2, HT2, HR2, HTN2⟩ := hrel
          by_cases hjr : j < row.length
          · obtain ⟨u, hu⟩ : ∃ u, row[j]? = some u := ⟨row[j], by rw [List.getElem?_eq_getElem hjr]⟩
            have hun : u < n := HWF.out u (List.mem_of_getElem? hu)
            have HU : Hid ((nx.getD i [])[j]? = some u) := by show _ = _; rw [HRO.out]; exact hu
            obtain ⟨rb, ro, rfl, hcr⟩ := (HRW.out wr HB2.out).cells (by omega)
            have hcu : wr.cell? ⟨rb, ro + j, none⟩ = some (.int .i64 (u : Int)) := by rw [hcr j hjr, nz_getD]; simp [List.getD, hu]
            obtain ⟨lv, hlv⟩ : ∃ lv, lv = (bk2.getD u []).length := ⟨_, rfl⟩
            have hlb : lv ≤ 9000 := by
              have := nodup_lt (n := n) (HTN2.out.2.2 u) fun x hx => by
                rcases (HTN2.out.2.1 x u).1 hx with h1 | h1 <;> omega
              omega
            obtain ⟨pv, cv, hev, hvu, hcv⟩ := HR2.out.cell hun
            have HVU : Hid (vs2[u]? = some (.slice pv (bk2.getD u []).length cv)) := hvu
            clear hvu
            rw [← hlv] at hev hcv
            have HLV : Hid (lv = (bk2.getD u []).length ∧ vs2.getD u nils = .slice pv lv cv) := ⟨hlv, hev⟩
            clear hcr hu hlv hev
            go_wp2_with fail
            have hHeld : (fun W : World => W.cell? ⟨g3, 1, none⟩ = some (.slice (some ⟨g4, 0, none⟩) n n) ∧ W.cell? ⟨g4, u, none⟩ = some (.slice pv lv cv)) wr.drew := ⟨HT2.out.c1, hcv⟩
            refine wp_region_noPanic ?_
            refine wp_region_last 12 (fun W : World => W.cell? ⟨g3, 1, none⟩ = some (.slice (some ⟨g4, 0, none⟩) n n) ∧ W.cell? ⟨g4, u, none⟩ = some (.slice pv lv cv)) (by kernel_rfl) ?_
            have HBe : Hid (RowKit.Below w.heap.size w wr.drew) := HB2.out.trans (below_dr _ _ 1)
            have HVe : Hid (GBx wr.drew (w.heap.size + 1) nils nils) := HV2.out
            have HTe : Hid (GBx wr.drew g3 (.slice tp tn tc) (.slice (some ⟨g4, 0, none⟩) n n)) := HT2.out
            have HRe : Hid (Rws wr.drew w.heap.size g4 n vs2 bk2) := HR2.out.later (below_dr _ _ 1)
            clear HB2 HV2 HT2 HR2 hcv hcu
            generalize wr.drew = we at *
            refine wpAnyL_take (i := 0) (v := ?va1) (by simp; rfl) (by kernel_rfl) (by kernel_rfl) (by kernel_rfl) (by kernel_rfl) (fun _ _ _ h => h) (Or.inl ⟨by rfl, ?ya1⟩) hHeld ?ra1
            case ya1 => intro w hSw; clear hSw; go_simp; with_reducible rfl
            simp only [Act.put, List.setIfInBounds_toArray, List.set_cons_zero, List.set_cons_succ]
            refine wpAnyL_take (i := 1) (v := ?va2) (by simp; rfl) (by kernel_rfl) (by kernel_rfl) (by kernel_rfl) (by kernel_rfl) (fun _ _ _ h => h) (Or.inl ⟨by rfl, ?ya2⟩) hHeld ?ra2
            case ya2 => intro w hSw; obtain ⟨z1, z2⟩ := hSw; go_simp; with_reducible rfl
            simp only [Act.put, List.setIfInBounds_toArray, List.set_cons_zero, List.set_cons_succ]
            refine wpAnyL_take (i := 2) (v := ?va3) (by simp; rfl) (by kernel_rfl) (by kernel_rfl) (by kernel_rfl) (by kernel_rfl) (fun _ _ _ h => h) (Or.inl ⟨by rfl, ?ya3⟩) hHeld ?ra3
            case ya3 => intro w hSw; clear hSw; go_simp; with_reducible rfl
            simp only [Act.put, List.setIfInBounds_toArray, List.set_cons_zero, List.set_cons_succ]
            refine wpAnyL_take (i := 3) (v := ?va4) (by simp; rfl) (by kernel_rfl) (by kernel_rfl) (by kernel_rfl) (by kernel_rfl) (fun _ _ _ h => h) (Or.inl ⟨by rfl, ?ya4⟩) hHeld ?ra4
            case ya4 => intro w hSw; clear hSw; go_simp; with_reducible rfl
            simp only [Act.put, List.setIfInBounds_toArray, List.set_cons_zero, List.set_cons_succ]
            refine wpAnyL_take (i := 4) (v := ?va5) (by simp; rfl) (by kernel_rfl) (by kernel_rfl) (by kernel_rfl) (by kernel_rfl) (fun _ _ _ h => h) (Or.inl ⟨by rfl, ?ya5⟩) hHeld ?ra5
            case ya5 => intro w hSw; obtain ⟨z1, z2⟩ := hSw; go_simp; with_reducible rfl
            simp only [Act.put, List.setIfInBounds_toArray, List.set_cons_zero, List.set_cons_succ]
            refine wpAnyL_take (i := 5) (v := ?va6) (by simp; rfl) (by kernel_rfl) (by kernel_rfl) (by kernel_rfl) (by kernel_rfl) (fun _ _ _ h => h) (Or.inl ⟨by rfl, ?ya6⟩) hHeld ?ra6
            case ya6 => intro w hSw; clear hSw; go_simp; with_reducible rfl
            simp only [Act.put, List.setIfInBounds_toArray, List.set_cons_zero, List.set_cons_succ]
            refine wpAnyL_take (i := 6) (v := ?va7) (by simp; rfl) (by kernel_rfl) (by kernel_rfl) (by kernel_rfl) (by kernel_rfl) (fun _ _ _ h => h) (Or.inl ⟨by rfl, ?ya7⟩) hHeld ?ra7
            case ya7 => intro w hSw; clear hSw; go_simp; with_reducible rfl
            simp only [Act.put, List.setIfInBounds_toArray, List.set_cons_zero, List.set_cons_succ]
            refine wpAnyL_take (i := 7) (v := ?va8) (by simp; rfl) (by kernel_rfl) (by kernel_rfl) (by kernel_rfl) (by kernel_rfl) (fun _ _ _ h => h) (Or.inl ⟨by rfl, ?ya8⟩) hHeld ?ra8
            case ya8 => intro w hSw; obtain ⟨z1, z2⟩ := hSw; go_simp; with_reducible rfl
            simp only [Act.put, List.setIfInBounds_toArray, List.set_cons_zero, List.set_cons_succ]
            refine wpAnyL_take (i := 8) (v := ?va9) (by simp; rfl) (by kernel_rfl) (by kernel_rfl) (by kernel_rfl) (by kernel_rfl) (fun _ _ _ h => h) (Or.inl ⟨by rfl, ?ya9⟩) hHeld ?ra9
            case ya9 => intro w hSw; clear hSw; go_simp; with_reducible rfl
            simp only [Act.put, List.setIfInBounds_toArray, List.set_cons_zero, List.set_cons_succ]
            refine wpAnyL_ready (rs := [9]) (by kernel_rfl) (by simp) ?_
            refine AllReadyL.cons (by simp; rfl) (fun Kc hKc => ?_) AllReadyL.nil
            go_simp
            have SA : (fun W : World => W.cell? ⟨g3, 1, none⟩ = some (.slice (some ⟨g4, 0, none⟩) n n) ∧ W.cell? ⟨g4, u, none⟩ = some (.slice pv lv cv)) (we.alloc (Obj.cells #[Value.int .i64 (i : Int)] 3)) := ⟨(HTe.out.later (below_alloc we _)).c1, (below_alloc we _).cell (p := ⟨g4, u, none⟩) (HRe.out.top.lt g4 rfl).2 ▸ hHeld.2⟩
            refine hKc.out _ _ (fun _ => SA) ?_
            clear hHeld hKc Kc
            have hHeld := SA
            clear SA

            refine wpAnyL_ready (rs := [10]) (by kernel_rfl) (by simp) ?_
            refine AllReadyL.cons (by simp; rfl) (fun Kc hKc => ?_) AllReadyL.nil
            have HOW : Hid ((we.alloc (Obj.cells #[Value.int .i64 (i : Int)] 3)).ownsRow w.heap.size 3 1 (.slice pv lv cv) lv (I64 (nz (bk2.getD u [])))) := by
              have := O.own_later (HRe.out.row u hun) (below_alloc we (Obj.cells #[Value.int .i64 (i : Int)] 3))
              rw [HLV.out.2, ← HLV.out.1] at this
              exact this
            refine O.step_own_any (v := .slice pv lv cv) (u := .slice (some ⟨we.heap.size, 0, none⟩) 1 1) (n := lv) (m := 1) (base := w.heap.size) (base' := 0) rfl (.tmp 36) (.tmp 38) O.elI rfl rfl HOW.out rfl (O.own_one (base := 0) (e := 3) (size := 1) (cs := [Value.int .i64 (i : Int)]) we rfl (Nat.zero_le _)) (O.one_one rfl) (by omega) (by have := HBe.out.size; simp; omega) ?_
            intro v' w' ho hk hv
            have hgr := HRe.out.grown (u := u) (i := i) (v' := v') (w' := w') hun (by rw [← HLV.out.1]; exact ho) (by rw [HLV.out.2]; exact hk) (by rw [HLV.out.2]; exact hv)
            obtain ⟨hg1, htop, hR3, hg2, hB3⟩ := hgr
            have HB3 : Hid (RowKit.Below w.heap.size w (w'.setCell ⟨g4, u, none⟩ v')) := hB3 w HBe.out (Nat.le_refl _)
            have HV3 : Hid (GBx (w'.setCell ⟨g4, u, none⟩ v') (w.heap.size + 1) nils nils) := hg2 _ _ _ HVe.out
            have HT3 : Hid (GBx (w'.setCell ⟨g4, u, none⟩ v') g3 (.slice tp tn tc) (.slice (some ⟨g4, 0, none⟩) n n)) := hg2 _ _ _ HTe.out
            have HR3 : Hid (Rws (w'.setCell ⟨g4, u, none⟩ v') w.heap.size g4 n (vs2.set u v') (bk2.set u (bk2.getD u [] ++ [i]))) := hR3
            have hcv3 : w'.cell? ⟨g4, u, none⟩ = some (.slice pv lv cv) := O.own_cell htop (by rw [HVU.out, HLV.out.1])
            have hfv3 : w'.frozen? ⟨g4, u, none⟩ = false := O.own_free htop u
            have SA : (fun W : World => W.cell? ⟨g3, 1, none⟩ = some (.slice (some ⟨g4, 0, none⟩) n n) ∧ W.cell? ⟨g4, u, none⟩ = some (.slice pv lv cv)) w' := ⟨(hg1 _ _ _ HTe.out).c1, hcv3⟩
            obtain ⟨p', c', rfl⟩ := O.own_shape ho
            refine hKc.out _ _ (fun _ => SA) ?_
            clear hHeld hKc Kc ho hk hv hg1 htop hR3 hg2 hB3 HOW HRe HTe HVe HBe
            have hHeld := SA
            clear SA
            simp only [Act.put, List.setIfInBounds_toArray, List.set_cons_zero, List.set_cons_succ]

            refine wpAnyL_take (i := 11) (v := ?va10) (by simp; rfl) (by kernel_rfl) (by kernel_rfl) (by kernel_rfl) (by kernel_rfl) (fun _ _ _ h => h) (Or.inl ⟨by rfl, ?ya10⟩) hHeld ?ra10
            case ya10 => intro w hSw; clear hSw; go_simp; with_reducible rfl
            simp only [Act.put, List.setIfInBounds_toArray, List.set_cons_zero, List.set_cons_succ]
            refine wpAnyL_ready (rs := [12]) (by kernel_rfl) (by simp) ?_
            refine AllReadyL.cons (by simp; rfl) (fun Kc hKc => ?_) AllReadyL.nil
            go_simp
            refine hKc.out _ _ (fun h => absurd rfl h) ?_
            clear hHeld hKc Kc

            refine wpAnyL_done (by kernel_rfl) (NoPanic.normal ?_) _
            have HTN3 : Hid (Tni nx i (j + 1) (bk2.set u (bk2.getD u [] ++ [i]))) := HTN2.out.put HU.out (by have := HNN.out; omega) (hnd i)
            go_wp2_with fail
            go_roundw
            case rel => exact ⟨j + 1, _, _, rfl, by omega, HB3, HV3, HT3, HR3, HTN3⟩
            case measure => simp [intV]; omega

          · have hje : j = row.length := by omega
            have HTN3 : Hid (Tni nx (i + 1) 0 bk2) := by
              have := HTN2.out
              rw [hje, ← HRO.out] at this
              exact this.next
            clear hje
            go_wp2_with fail
            go_roundw
            case rel => exact ⟨i + 1, vs2, bk2, rfl, by omega, HB2, HV2, HT2, HR2, HTN3⟩
            case measure => simp [intV]; omega
      · have HTN3 : Hid (Tnd nx bk) := by
          have := HTN.out
          rw [show i = n by omega, ← HNN.out] at this
          exact this.done
        have c0 := HT.out.c0
        have c1 := HT.out.c1
        have d0 := HV.out.c0
        have d1 := HV.out.c1
        have f0 : wr.frozen? ⟨w.heap.size + 1, 0, none⟩ = false := by simp [World.frozen?, show wr.heap[w.heap.size + 1]? = _ from HV.out]
        have f1 : wr.frozen? ⟨w.heap.size + 1, 1, none⟩ = false := by simp [World.frozen?, show wr.heap[w.heap.size + 1]? = _ from HV.out]
        have hgs : w.heap.size ≤ g4 := (HR.out.top.lt g4 rfl).1
        have hne : w.heap.size + 1 ≠ g4 := fun e => O.own_not HR.out.top HV.out (by decide) (by rw [e]; rfl)
        have HW : Hid (Kept (· = w.heap.size + 1) wr ((wr.setCell ⟨w.heap.size + 1, 0, none⟩ (Value.slice tp tn tc)).setCell ⟨w.heap.size + 1, 1, none⟩ (Value.slice (some ⟨g4, 0, none⟩) n n))) := (Kept.setCell (w := wr) (w.heap.size + 1) 0 _).trans (Kept.setCell (w.heap.size + 1) 1 _) fun _ _ h => h
        have HBX : Hid (GBx ((wr.setCell ⟨w.heap.size + 1, 0, none⟩ (Value.slice tp tn tc)).setCell ⟨w.heap.size + 1, 1, none⟩ (Value.slice (some ⟨g4, 0, none⟩) n n)) (w.heap.size + 1) (.slice tp tn tc) (.slice (some ⟨g4, 0, none⟩) n n)) := by
          have h0 : wr.heap[w.heap.size + 1]? = some (.cells #[nils, nils] 70 (0, 0)) := HV.out
          show _ = _
          have h1 : (wr.setCell ⟨w.heap.size + 1, 0, none⟩ (Value.slice tp tn tc)).heap[w.heap.size + 1]? = some (.cells #[.slice tp tn tc, nils] 70 (0, 0)) := by
            rw [setCell_eq_setRow wr (w.heap.size + 1) 0 _ 70 (0, 0) _ h0, setRow_heap wr (w.heap.size + 1) _ _ 70 _ h0]; rfl
          rw [setCell_eq_setRow _ (w.heap.size + 1) 1 _ 70 (0, 0) _ h1, setRow_heap _ (w.heap.size + 1) _ _ 70 _ h1]; rfl
        have HBB : Hid (RowKit.Below w.heap.size w ((wr.setCell ⟨w.heap.size + 1, 0, none⟩ (Value.slice tp tn tc)).setCell ⟨w.heap.size + 1, 1, none⟩ (Value.slice (some ⟨g4, 0, none⟩) n n))) := (HB.out.setCell (by simp) _).setCell (by simp) _
        have HNI : Hid (NIn (fun k => w.heap.size ≤ k ∧ k < ((wr.setCell ⟨w.heap.size + 1, 0, none⟩ (Value.slice tp tn tc)).setCell ⟨w.heap.size + 1, 1, none⟩ (Value.slice (some ⟨g4, 0, none⟩) n n)).heap.size) ((wr.setCell ⟨w.heap.size + 1, 0, none⟩ (Value.slice tp tn tc)).setCell ⟨w.heap.size + 1, 1, none⟩ (Value.slice (some ⟨g4, 0, none⟩) n n)) (.slice (some ⟨g4, 0, none⟩) n n) bk) := by
          have h1 : Rws ((wr.setCell ⟨w.heap.size + 1, 0, none⟩ (Value.slice tp tn tc)).setCell ⟨w.heap.size + 1, 1, none⟩ (Value.slice (some ⟨g4, 0, none⟩) n n)) w.heap.size g4 n vs bk := { HR.out with
            top := O.own_far HR.out.top HW.out fun b hb e => hne (by simp [Value.ownBlock] at hb; omega)
            row := fun i hi => O.own_far (HR.out.row i hi) HW.out fun b hb e => O.own_not (HR.out.row i hi) HV.out (by decide) (by rw [← e]; exact hb) }
          exact h1.nin
        go_wp2_with fail
        generalize ((wr.setCell ⟨w.heap.size + 1, 0, none⟩ (Value.slice tp tn tc)).setCell ⟨w.heap.size + 1, 1, none⟩ (Value.slice (some ⟨g4, 0, none⟩) n n)) = wf at *
        (try simp only [Exit.inBlock, Exit.then])
        refine bodyPost_ret (results_cell_row (p := 2) (ty := 70) rfl _ _ (w.heap.size + 1) 70 #[.slice tp tn tc, .slice (some ⟨g4, 0, none⟩) n n] (0, 0) _ (by rfl) HBX.out Tryz.underlying70 rfl rfl) rfl ?_
        exact ⟨_, bk, rfl, HTN3.out, HNI.out, HBB.out⟩
end Go.Proofs.YtkgjmejpbklabaaGreat
