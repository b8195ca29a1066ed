/-
  Layer 17: CacheNames.
-/
import Derived.Test.YthcpnfelnonhnaaQc
namespace Go.Proofs.Ythcpnfelnonhnaa
open Go.RowKit

/-- two entries as a slice -/
theorem build_en2 {ts te : TypeId} (T : ET ts te) (w : World) (i j : En) (hi' : i.v.length = 32) (hj' : j.v.length = 32) : (Instr.buildSlice ts 2 #[(0, .agg (ecells i).toArray), (1, .agg (ecells j).toArray)]).run Try.prog w = .ok (.slice (some ⟨w.heap.size, 0, none⟩) 2 2) (w.alloc (.cells (EC [i, j]).toArray te)) := by
  obtain ⟨i0, hi, hz0, hz1, hz2⟩ := info_parts T.inf
  refine run_buildSlice w ts te 2 _ _ i0 _ T.ut hi hz0 (by rw [hz1]; decide) (by rw [hz1]; decide) ?_
  rw [hz1]
  have hl : (ecells i).length = 34 := ecells_len hi'
  have hm : (ecells j).length = 34 := ecells_len hj'
  have hA : ∀ A : Array Value, A.size = 68 → Instr.fill (fun i => some (i * 34, 34)) A [(0, .agg (ecells i).toArray), (1, .agg (ecells j).toArray)] = some (EC [i, j]).toArray := by
    intro A hA
    have hAl : A.toList.length = 68 := by rw [← hA]; exact Array.length_toList
    have a0 := part_fill 0 (ecells i) A.toList (by omega)
    have a0' : (ecells i).toArray.zipIdx.foldl (fun cs x => match x with | (c, j) => cs.setIfInBounds (0 + j) c) A = ((A.toList.take 0 ++ ecells i ++ A.toList.drop (0 + (ecells i).length))).toArray := a0
    have a1 := part_fill 34 (ecells j) (A.toList.take 0 ++ ecells i ++ A.toList.drop (0 + (ecells i).length)) (by simp only [List.length_append, List.length_take, List.length_drop]; omega)
    have a1' : (ecells j).toArray.zipIdx.foldl (fun cs x => match x with | (c, j) => cs.setIfInBounds (34 + j) c) (A.toList.take 0 ++ ecells i ++ A.toList.drop (0 + (ecells i).length)).toArray = _ := a1
    simp only [Instr.fill, Value.cells, List.size_toArray, Nat.zero_mul, Nat.one_mul]
    rw [if_neg (by simp [hl, hA]), a0', if_neg (by simp [hm, hl, hA]), a1']
    congr 2
    have e0 : A.toList.take 0 ++ ecells i = ecells i := by simp
    rw [e0, List.take_append_of_le_length (by omega), List.take_of_length_le (by omega), List.drop_append, List.drop_of_length_le (by omega), List.nil_append, List.drop_of_length_le (by simp only [List.length_drop]; omega), List.append_nil]
    simp [EC]
  exact hA _ (by simp)
theorem wpList_sliceN_is {P : Program} {ops : Array Oper} {rest : List Oper} {o : Oper} {a : Act} {w w' : World} {Q : Exit → Act → World → Prop} (hgd : Region.wanted o (yielded ops a.tmps) = true) (ty n : Nat) {ps : Array (Nat × Operand)} (ho : o.op = .buildSlice ty n ps) {vs : List (Nat × Value)} {v : Value} (hx : ps.toList.map (fun (i, x) => (i, a.eval x)) = vs) (hrun : (Instr.buildSlice ty n vs.toArray).run P w = .ok v w') (h : wpList P ops Q rest (a.put o.dst v) w') : wpList P ops Q (o :: rest) a w :=
  wpList_val hgd (by unfold execOp; simp only [ho]; rw [show ps.map (fun (i, x) => (i, a.eval x)) = vs.toArray by rw [← hx, ← Array.toList_map]]; simp only [Sem.run_bind, hrun, Result.andThen_ok, Sem.run_pure]) h
/-- a value with one byte -/
def vk (k : Int) : List Int := k :: zs 31
theorem vk_len (k : Int) : (vk k).length = 32 := rfl
theorem vk_bytes {k : Int} (h : 0 ≤ k ∧ k < 256) : Bytes (vk k) := fun x hx => by
  rcases List.mem_cons.1 hx with rfl | hx
  · exact h
  · exact zs_bytes 31 x hx
theorem buildk (w : World) (k : Int) : (Instr.build 28 #[(0, .int .u8 k)]).run Try.prog w = .ok (.agg (U8 (vk k)).toArray) w := run_build w 28 _ _ (by kernel_rfl)
theorem min_of_lat {W : World} {g : Nat} {l : List Im} (h : LAt 31 W g (IC l)) (hw : ImsWf l) : MIn W (some ⟨g, 0, none⟩) l.length l := ⟨rfl, hw, fun _ => ⟨g, 0, rfl, fun j u hj => by rw [Nat.zero_add, LAt.cell h]; exact hj⟩⟩
theorem ein_of_lat {W : World} {g : Nat} {te : TypeId} {l : List En} (h : LAt te W g (EC l)) (hw : EnsWf l) : EIn W (some ⟨g, 0, none⟩) l.length l := ⟨rfl, hw, fun _ => ⟨g, 0, rfl, fun j u hj => by rw [Nat.zero_add, LAt.cell h]; exact hj⟩⟩
/-- what stands in CacheNames -/
structure Nm (w W : World) (Q : Nat) (ve : Value) (L : List En) (nx : Int) (b : Nat) : Prop where
  bel : Below w.heap.size w W
  cac : CAt W Q 3 ve L nx
  lq : w.heap.size ≤ Q
  le : ∀ g, ve.ownBlock = some g → w.heap.size ≤ g
  va : VAt W b (vk 1)
  vb : VAt W (b + 1) (vk 2)
  vd : VAt W (b + 1 + 1) (vk 3)
section
variable {w W W' : World} {Q b : Nat} {ve : Value} {L : List En} {nx : Int}
theorem Nm.later (h : Nm w W Q ve L nx b) (hb : Below W.heap.size W W') : Nm w W' Q ve L nx b := ⟨below_then h.bel hb, h.cac.later hb, h.lq, h.le, LAt.later h.va hb, LAt.later h.vb hb, LAt.later h.vd hb⟩
theorem wrt_val {g : Nat} {v : List Int} {n : Int} {ve' : Value} {L' : List En} {nx' : Int} (h : CAt W Q n ve L nx) (hW : Wrt W W' Q n ve ve' L' nx') (hv : VAt W g v) : VAt W' g v := (hW.kept.block g (LAt.lt hv) (by
  rintro (e | e)
  · have := h.st
    rw [← e, show W.heap[g]? = _ from hv] at this
    simp at this
  · exact O.own_not h.row hv (by decide) e)).trans hv
theorem Nm.put {ve' : Value} {L' : List En} {nx' : Int} (h : Nm w W Q ve L nx b) (hW : Wrt W W' Q 3 ve ve' L' nx') : Nm w W' Q ve' L' nx' b := by
  refine ⟨hW.kept.into h.bel ?_ (Nat.le_refl _), hW.at', h.lq, fun g hg => ?_, wrt_val h.cac hW h.va, wrt_val h.cac hW h.vb, wrt_val h.cac hW h.vd⟩
  · rintro k hk (e | e)
    · have := h.lq; omega
    · have := h.le k e; omega
  · rcases hW.new g hg with e | e
    · exact h.le g e
    · exact Nat.le_trans h.bel.size e
/-- a list that was told -/
structure Nl (W : World) (Q : Nat) (ve : Value) (bl ol m : Nat) (l : List En) : Prop where
  ein : EIn W (some ⟨bl, ol, none⟩) m l
  lt : bl < W.heap.size
  sep : ¬ (bl = Q ∨ ve.ownBlock = some bl)
theorem Nl.later {bl ol m : Nat} {l : List En} (h : Nl W Q ve bl ol m l) (hb : Below W.heap.size W W') : Nl W' Q ve bl ol m l := ⟨h.ein.later hb, Nat.lt_of_lt_of_le h.lt hb.size, h.sep⟩
theorem Nl.put {ve' : Value} {L' : List En} {nx' n : Int} {bl ol m : Nat} {l : List En} (h : Nl W Q ve bl ol m l) (hW : Wrt W W' Q n ve ve' L' nx') : Nl W' Q ve' bl ol m l := by
  refine ⟨h.ein.far hW.kept (fun a ha _ => by cases ha; exact h.sep), Nat.lt_of_lt_of_le h.lt hW.kept.size, ?_⟩
  rintro (e | e)
  · exact h.sep (.inl e)
  · rcases hW.new bl e with e | e
    · exact h.sep (.inr e)
    · have := h.lt; omega
/-- a Put of images that lie in a block of their own -/
theorem Nm.puts {g c : Nat} {l : List Im} {ps e : Int} {L' : List En} {nx' : Int} (h : Nm w W Q ve L nx b) (hk : Okc 3 L nx) (hg : LAt 31 W g (IC l)) (hw : ImsWf l) (hl : l.length ≤ 100) (hp : 0 ≤ ps ∧ ps < 18446744073709551616) (he : putE 3 nx l ps = e) (hL : putL 3 L nx l ps = L') (hx : putX 3 nx l ps = nx') :
    Calls Try.prog 7 #[.pointer (some ⟨Q, 0, none⟩), .slice (some ⟨g, 0, none⟩) l.length c, .int .u64 ps] W fun r w' => r = .returned (.int .i64 e) ∧ ∃ ve', Wrt W w' Q 3 ve ve' L' nx' := by
  have := put_at h.cac hk (c := c) (min_of_lat hg hw) (by omega) (fun a ha _ => by
    cases ha
    rintro (e | e)
    · have h2 := h.cac.st
      have e' : g = Q := e
      rw [← e', show W.heap[g]? = _ from hg] at h2
      simp at h2
    · exact O.own_not h.cac.row hg (by decide) e) hp
  rw [he, hL, hx] at this
  exact this
theorem Nm.put0 {ps e : Int} {L' : List En} {nx' : Int} (h : Nm w W Q ve L nx b) (hk : Okc 3 L nx) (hp : 0 ≤ ps ∧ ps < 18446744073709551616) (he : putE 3 nx [] ps = e) (hL : putL 3 L nx [] ps = L') (hx : putX 3 nx [] ps = nx') :
    Calls Try.prog 7 #[.pointer (some ⟨Q, 0, none⟩), .slice none 0 0, .int .u64 ps] W fun r w' => r = .returned (.int .i64 e) ∧ ∃ ve', Wrt W w' Q 3 ve ve' L' nx' := by
  have := put_at h.cac hk (c := 0) (MIn.nil W none) (by omega) (fun a ha _ => by cases ha) hp
  rw [he, hL, hx] at this
  exact this
end
theorem threeV (w : World) : ∃ u1 u2 u3 z1 z2 z3, (Instr.alloc 28 true (.tuple #[])).run Try.prog w = .ok (.pointer (some ⟨w.heap.size, 0, none⟩)) u1 ∧ (Instr.alloc 28 true (.tuple #[])).run Try.prog u1 = .ok (.pointer (some ⟨w.heap.size + 1, 0, none⟩)) u2 ∧ (Instr.alloc 28 true (.tuple #[])).run Try.prog u2 = .ok (.pointer (some ⟨w.heap.size + 1 + 1, 0, none⟩)) u3 ∧
    (Instr.storeAt 28 (.pointer (some ⟨w.heap.size, 0, none⟩)) (.agg (U8 (vk 1)).toArray)).run Try.prog u3 = .ok () z1 ∧ (Instr.storeAt 28 (.pointer (some ⟨w.heap.size + 1, 0, none⟩)) (.agg (U8 (vk 2)).toArray)).run Try.prog z1 = .ok () z2 ∧ (Instr.storeAt 28 (.pointer (some ⟨w.heap.size + 1 + 1, 0, none⟩)) (.agg (U8 (vk 3)).toArray)).run Try.prog z2 = .ok () z3 ∧
    VAt z3 w.heap.size (vk 1) ∧ VAt z3 (w.heap.size + 1) (vk 2) ∧ VAt z3 (w.heap.size + 1 + 1) (vk 3) ∧ Below w.heap.size w z3 := by
  obtain ⟨u1, hu1⟩ : ∃ u1, u1 = w.alloc (.cells (U8 (zs 32)).toArray 28) := ⟨_, rfl⟩
  obtain ⟨u2, hu2⟩ : ∃ u2, u2 = u1.alloc (.cells (U8 (zs 32)).toArray 28) := ⟨_, rfl⟩
  obtain ⟨u3, hu3⟩ : ∃ u3, u3 = u2.alloc (.cells (U8 (zs 32)).toArray 28) := ⟨_, rfl⟩
  have s1 : u1.heap.size = w.heap.size + 1 := by rw [hu1]; simp
  have s2 : u2.heap.size = w.heap.size + 1 + 1 := by rw [hu2]; simp [s1]
  have b1 : Below w.heap.size w u1 := by rw [hu1]; exact below_alloc _ _
  have b2 : Below u1.heap.size u1 u2 := by rw [hu2]; exact below_alloc _ _
  have b3 : Below u2.heap.size u2 u3 := by rw [hu3]; exact below_alloc _ _
  have v1 : VAt u3 w.heap.size (zs 32) := by
    have : VAt u1 w.heap.size (zs 32) := by rw [hu1]; exact LAt.new _ _ _
    exact LAt.later (LAt.later this b2) b3
  have v2 : VAt u3 (w.heap.size + 1) (zs 32) := by
    have : VAt u2 u1.heap.size (zs 32) := by rw [hu2]; exact LAt.new _ _ _
    rw [s1] at this
    exact LAt.later this b3
  have v3 : VAt u3 (w.heap.size + 1 + 1) (zs 32) := by
    have : VAt u3 u2.heap.size (zs 32) := by rw [hu3]; exact LAt.new _ _ _
    rw [s2] at this
    exact this
  have y2 : VAt (u3.setRow w.heap.size (U8 (vk 1)).toArray) (w.heap.size + 1) (zs 32) := LAt.other v2 _ (by omega)
  have y3 : VAt ((u3.setRow w.heap.size (U8 (vk 1)).toArray).setRow (w.heap.size + 1) (U8 (vk 2)).toArray) (w.heap.size + 1 + 1) (zs 32) := LAt.other (LAt.other v3 _ (by omega)) _ (by omega)
  refine ⟨u1, u2, u3, _, _, _, by rw [hu1]; exact allocV w, by rw [hu2, ← s1]; exact allocV u1, by rw [hu3, ← s2]; exact allocV u2, VAt.store v1 (zs_len 32) (vk_len 1), VAt.store y2 (zs_len 32) (vk_len 2), VAt.store y3 (zs_len 32) (vk_len 3), ?_, ?_, LAt.stored y3 _, ?_⟩
  · exact LAt.other (LAt.other (LAt.stored v1 _) _ (by omega)) _ (by omega)
  · exact LAt.other (LAt.stored y2 _) _ (by omega)
  · exact below_setRow (below_setRow (below_setRow (below_then b1 (below_then b2 b3)) (Nat.le_refl _) _) (by omega) _) (by omega) _
def L1n : List En := [⟨0, vk 1, 7⟩, ⟨2, vk 2, 7⟩]
def L2n : List En := [⟨0, vk 1, 7⟩, ⟨2, vk 3, 9⟩]
def L3n : List En := [⟨0, vk 3, 12⟩, ⟨2, vk 3, 9⟩]
def L4n : List En := [⟨0, vk 3, 12⟩]
theorem en_wf {b k p : Int} (hb : 0 ≤ b ∧ b < 3) (hk : 0 ≤ k ∧ k < 256) (hp : 0 ≤ p ∧ p < 100) : En.Wf ⟨b, vk k, p⟩ := ⟨by constructor <;> (show _ ≤ _) <;> dsimp only <;> omega, rfl, vk_bytes hk, by dsimp only; omega⟩
theorem im_wf {b k : Int} (hb : 0 ≤ b ∧ b < 10) (hk : 0 ≤ k ∧ k < 256) : Im.Wf ⟨b, vk k⟩ := ⟨by constructor <;> (show _ ≤ _) <;> dsimp only <;> omega, rfl, vk_bytes hk⟩
theorem ok2 {a b : En} {nx : Int} (ha : a.Wf) (hb : b.Wf) (h0 : 0 ≤ a.b) (h1 : a.b < b.b) (h2 : b.b < 3) (h3 : 0 ≤ nx ∧ nx < 100) : Okc 3 [a, b] nx := by
  refine ⟨by decide, by decide, List.pairwise_cons.2 ⟨fun y hy => by rw [List.mem_singleton.1 hy]; exact h1, List.pairwise_singleton _ _⟩, fun x hx => ?_, fun x hx => ?_, h3.1, by omega⟩
  · rcases List.mem_cons.1 hx with rfl | hx
    · omega
    · rw [List.mem_singleton.1 hx]; omega
  · rcases List.mem_cons.1 hx with rfl | hx
    · exact ha
    · rw [List.mem_singleton.1 hx]; exact hb
theorem ims2 {a b : Im} (ha : a.Wf) (hb : b.Wf) : ImsWf [a, b] := fun x hx => by
  rcases List.mem_cons.1 hx with rfl | hx
  · exact ha
  · rw [List.mem_singleton.1 hx]; exact hb
theorem ims1 {a : Im} (ha : a.Wf) : ImsWf [a] := fun x hx => by rw [List.mem_singleton.1 hx]; exact ha
theorem wf0 {b : Int} (hb : 0 ≤ b ∧ b < 10) : Im.Wf ⟨b, zs 32⟩ := ⟨by constructor <;> (show _ ≤ _) <;> dsimp only <;> omega, rfl, zs_bytes 32⟩
theorem okL1 : Okc 3 L1n 8 := ok2 (en_wf (by decide) (by decide) (by decide)) (en_wf (by decide) (by decide) (by decide)) (by decide) (by decide) (by decide) (by decide)
theorem okL2 {nx : Int} (h : 0 ≤ nx ∧ nx < 100) : Okc 3 L2n nx := ok2 (en_wf (by decide) (by decide) (by decide)) (en_wf (by decide) (by decide) (by decide)) (by decide) (by decide) (by decide) h
theorem okL3 : Okc 3 L3n 13 := ok2 (en_wf (by decide) (by decide) (by decide)) (en_wf (by decide) (by decide) (by decide)) (by decide) (by decide) (by decide) (by decide)
theorem okL4 : Okc 3 L4n 13 := ⟨by decide, by decide, List.pairwise_singleton _ _, fun x hx => by rw [List.mem_singleton.1 hx]; decide, fun x hx => by rw [List.mem_singleton.1 hx]; exact en_wf (by decide) (by decide) (by decide), by decide, by decide⟩
theorem lat_one {W : World} {g : Nat} {i : Im} (h : LAt 31 W g (icells i)) : LAt 31 W g (IC [i]) := by rw [show IC [i] = icells i by simp [IC]]; exact h
theorem pa : putE 3 0 [⟨0, vk 1⟩, ⟨2, vk 2⟩] 7 = 0 ∧ putL 3 [] 0 [⟨0, vk 1⟩, ⟨2, vk 2⟩] 7 = L1n ∧ putX 3 0 [⟨0, vk 1⟩, ⟨2, vk 2⟩] 7 = 8 := ⟨by kernel_rfl, by kernel_rfl, by kernel_rfl⟩
theorem pb : putE 3 8 [⟨2, vk 3⟩] 9 = 0 ∧ putL 3 L1n 8 [⟨2, vk 3⟩] 9 = L2n ∧ putX 3 8 [⟨2, vk 3⟩] 9 = 10 := ⟨by kernel_rfl, by kernel_rfl, by kernel_rfl⟩
theorem pc : putE 3 10 [] 9 = 30 ∧ putL 3 L2n 10 [] 9 = L2n ∧ putX 3 10 [] 9 = 10 := ⟨by kernel_rfl, by kernel_rfl, by kernel_rfl⟩
theorem pd : putE 3 10 [] 10 = 0 ∧ putL 3 L2n 10 [] 10 = L2n ∧ putX 3 10 [] 10 = 11 := ⟨by kernel_rfl, by kernel_rfl, by kernel_rfl⟩
theorem pe : putE 3 11 [⟨2, zs 32⟩, ⟨0, zs 32⟩] 11 = 53 ∧ putL 3 L2n 11 [⟨2, zs 32⟩, ⟨0, zs 32⟩] 11 = L2n ∧ putX 3 11 [⟨2, zs 32⟩, ⟨0, zs 32⟩] 11 = 11 := ⟨by kernel_rfl, by kernel_rfl, by kernel_rfl⟩
theorem pf : putE 3 11 [⟨3, zs 32⟩] 11 = 51 ∧ putL 3 L2n 11 [⟨3, zs 32⟩] 11 = L2n ∧ putX 3 11 [⟨3, zs 32⟩] 11 = 11 := ⟨by kernel_rfl, by kernel_rfl, by kernel_rfl⟩
theorem pg : putE 3 11 [⟨0, vk 3⟩] 12 = 0 ∧ putL 3 L2n 11 [⟨0, vk 3⟩] 12 = L3n ∧ putX 3 11 [⟨0, vk 3⟩] 12 = 13 := ⟨by kernel_rfl, by kernel_rfl, by kernel_rfl⟩
theorem dr1 : drps L3n L2n = L4n ∧ drpsN L3n L2n = 1 := ⟨by kernel_rfl, by kernel_rfl⟩
theorem dr2 : drps L4n L2n = L4n ∧ drpsN L4n L2n = 0 := ⟨by kernel_rfl, by kernel_rfl⟩
end Go.Proofs.Ythcpnfelnonhnaa
