import Derived.Test.YtdadpepfpiimgaaGreatDoorZ01
import Derived.Deep.AppendLies
import Derived.BigQuiet
import Derived.Laws.AppendOwnNone
import Derived.Deep.MidRow
import Derived.Great.BuildSlice
set_option maxHeartbeats 20000000
set_option maxRecDepth 100000
namespace Go.Proofs.YtdadpepfpiimgaaGreatDoor
open Go.RowKit
structure IIn (w : World) (k : IntKind) (p : Option Addr) (n : Nat) (ss : List Int) : Prop where
  len : ss.length = n
  cells : 0 < n → ∃ b o, p = some ⟨b, o, none⟩ ∧ ∀ i (h : i < ss.length), w.cell? ⟨b, o + i, none⟩ = some (.int k ss[i])
theorem IIn.later {w w' : World} {k : IntKind} {p : Option Addr} {n : Nat} {ss : List Int} (h : IIn w k p n ss) (hb : Below w.heap.size w w') : IIn w' k p n ss := by
  refine ⟨h.len, fun h0 => ?_⟩
  obtain ⟨b, o, rfl, hc⟩ := h.cells h0
  refine ⟨b, o, rfl, fun i hi => ?_⟩
  rw [hb.cell (p := ⟨b, o + i, none⟩) (World.block_lt_of_cell? w ⟨b, o + i, none⟩ (hc i hi))]
  exact hc i hi
abbrev U64 (xs : List Int) : List Value := xs.map (Value.int .u64)
theorem own_later {w w' : World} {base : Nat} {e : TypeId} {size : Nat} {v : Value} {n : Nat} {xs : List Value} (h : w.ownsRow base e size v n xs) (hb : Below w.heap.size w w') : w'.ownsRow base e size v n xs := by
  refine ⟨h.1, ?_⟩
  rcases h.2 with hn | ⟨g, cap, cur, rfl, h1, hg, rest⟩
  · exact .inl hn
  · exact .inr ⟨g, cap, cur, rfl, h1, (hb.block g (Array.getElem?_eq_some_iff.1 hg).1).trans hg, rest⟩
theorem own_mono {w : World} {base base' : Nat} {e : TypeId} {size : Nat} {v : Value} {n : Nat} {xs : List Value} (h : w.ownsRow base e size v n xs) (hb : base' ≤ base) : w.ownsRow base' e size v n xs := by
  refine ⟨h.1, ?_⟩
  rcases h.2 with hn | ⟨g, cap, cur, rfl, h1, rest⟩
  · exact .inl hn
  · exact .inr ⟨g, cap, cur, rfl, Nat.le_trans hb h1, rest⟩
structure ZIn (w : World) (b o m : Nat) (zs : List Nat) : Prop where
  len : zs.length = m
  ok : ∀ i (h : i < zs.length), 1 ≤ zs[i] ∧ zs[i] ≤ 8
  cells : ∀ i (h : i < zs.length), w.cell? ⟨b, o + i, none⟩ = some (.int .i64 (zs[i] : Int))
theorem ZIn.bd {w : World} {b o m : Nat} {zs : List Nat} (h : ZIn w b o m zs) : zs.sum ≤ 8 * m := by
  rw [← h.len]
  refine tot_bd zs fun z hz => ?_
  obtain ⟨i, hi, rfl⟩ := List.getElem_of_mem hz
  exact (h.ok i hi).2
theorem ZIn.later {w w' : World} {b o m : Nat} {zs : List Nat} (h : ZIn w b o m zs) (hb : Below w.heap.size w w') : ZIn w' b o m zs := by
  refine ⟨h.len, h.ok, fun i hi => ?_⟩
  rw [hb.cell (p := ⟨b, o + i, none⟩) (World.block_lt_of_cell? w ⟨b, o + i, none⟩ (h.cells i hi))]
  exact h.cells i hi
theorem made_u64 (N : List Int) (m : Nat) (h : N.length = m) : (madeCells #[Value.int .u64 0] m).toList = U64 (filled N 0) := by
  rw [filled_zero, h, toList_madeCells_one]
  simp [U64]
set_option maxHeartbeats 2000000 in
set_option maxRecDepth 100000 in
theorem fields_pos (b o n c b2 o2 m d : Nat) (xs : List Int) (zs : List Nat) (w : World) (hx : BIn w (some ⟨b, o, none⟩) n xs) (h : ZIn w b2 o2 m zs) (hnc : n ≤ c) (hbig : n ≤ 140737488355328) (hm : m * 8 ≤ 140737488355328) (hs : zs.sum ≤ n) (h0 : 0 < m) :
    Calls Tryz.prog 116 #[.slice (some ⟨b, o, none⟩) n c, .slice (some ⟨b2, o2, none⟩) m d] w fun e w' => ∃ v1 v2, e = .returned (.tuple #[v1, v2, .int .i64 0]) ∧
      w'.ownsRow w.heap.size 37 1 v1 m (U64 (nums xs zs)) ∧ w'.ownsRow w.heap.size 5 1 v2 (n - zs.sum) (U8 (xs.drop zs.sum)) ∧ Below w.heap.size w w' := by
  have hbd := h.bd
  obtain ⟨i0, hi, hz0, hz1, hz2⟩ := info_parts info27
  have HZ : Hid (ZIn w b2 o2 m zs) := h
  have HX : Hid (BIn w (some ⟨b, o, none⟩) n xs) := hx
  have HNL : Hid ((nums xs zs).length = m) := by show _ = _; rw [nums_length, h.len]
  clear h hx
  go_enter Tryz.func116, Tryz.ntmps116
  go_wp2
  go_loop [7, 15] (fun t i => ∃ k : Nat, k ≤ m ∧ i = .int .i64 k ∧ t = .int .i64 (tot zs k)) (fun _ i => m - (intOf i).toNat)
  case atStart => exact ⟨0, Nat.zero_le _, rfl, rfl⟩
  case round =>
    obtain ⟨k, hk, rfl, rfl⟩ := hrel
    have htl := tot_le zs k
    by_cases hlt : k < m
    · have hkl : k < zs.length := by rw [HZ.out.len]; exact hlt
      have hc := HZ.out.cells k hkl
      have hok := HZ.out.ok k hkl
      have HS : Hid (_) := tot_step zs k hkl
      generalize zs[k] = s at *
      have hd : decide (1 ≤ (s : Int) ∧ (s : Int) ≤ 8) = true := decide_eq_true (by omega)
      go_wp2_with (first | (go_at_call 132; refine (isSize_any _ _).mono ?_; rintro e w' ⟨rfl, rfl⟩))
      go_round
      case rel => exact ⟨k + 1, by omega, by go_num, by rw [HS.out]; go_num⟩
      case measure => simp [intOf]; omega
    · have e : tot zs k = zs.sum := tot_all zs k (by rw [HZ.out.len]; omega)
      rw [e]
      clear e htl
      obtain ⟨T, hT⟩ : ∃ T, T = zs.sum := ⟨_, rfl⟩
      rw [← hT] at hbd hs ⊢
      have HT : Hid (T = zs.sum) := hT
      clear hT
      go_wp2_with (first | (at_make; refine wpList_make_full _ rfl _ _ 218 rfl w.heap.size 37 i0 (.int .u64 0) 1 Tryz.underlying218 hi hz0 hz1 .i64 .i64 _ _ m rfl rfl rfl rfl (by rw [hz2]; omega) (by unfold maxLen; omega) (Nat.le_refl _) ?_))
      intro w1 hown hgrow
      rw [made_u64 (nums xs zs) m HNL.out] at hown
      have hb := (Below.refl w.heap.size w).grown hgrow (Nat.le_refl _) (by intro k hk; cases hk)
      clear hgrow
      go_wp2
      go_loopw [10, 35] (fun a i wr => ∃ j : Nat, j ≤ m ∧ i = .int .i64 j ∧ a = .int .i64 (tot zs j) ∧ wr.ownsRow w.heap.size 37 1 (.slice (some ⟨w.heap.size, 0, none⟩) m m) m (U64 (filled (nums xs zs) j)) ∧ Below w.heap.size w wr) (fun _ i _ => m - (intOf i).toNat)
      case atStart => exact ⟨0, Nat.zero_le _, rfl, rfl, hown, hb⟩
      case round =>
        obtain ⟨j, hj, rfl, rfl, hownr, hbr⟩ := hrel
        by_cases hlt : j < m
        · have hkl : j < zs.length := by rw [HZ.out.len]; exact hlt
          have hnl : j < (nums xs zs).length := by rw [HNL.out]; exact hlt
          have hc := (HZ.out.later hbr).cells j hkl
          have hok := HZ.out.ok j hkl
          have hst := tot_step zs j hkl
          have hle := tot_le zs (j + 1)
          rw [← HT.out] at hle
          have hng := nums_get xs zs j hnl hkl
          have hstore := hownr.stored j (.int .u64 ((nums xs zs)[j]))
          have hcell := hownr.cellAt j (by omega)
          have hlen : (U64 (filled (nums xs zs) j)).length = m := by simp [U64, filled_length _ _ (Nat.le_of_lt hnl), HNL.out]
          obtain ⟨u, hu⟩ : ∃ u, wr.cell? ⟨w.heap.size, j, none⟩ = some u := ⟨_, by rw [hcell]; exact List.getElem?_eq_getElem (by omega)⟩
          have hfz := hownr.frozenAt j
          have hset : (U64 (filled (nums xs zs) j)).set j (.int .u64 ((nums xs zs)[j])) = U64 (filled (nums xs zs) (j + 1)) := by
            rw [← filled_step _ _ hnl]
            simp [U64, List.map_set]
          have H1 := hstore.1
          rw [hset] at H1
          have HO : Hid (_) := H1
          have HG : Hid (_) := hstore.2
          have HB : Hid (Below w.heap.size w wr) := hbr
          have HS : Hid (_) := hst
          have HN : Hid (_) := hng
          obtain ⟨A, hA⟩ : ∃ A, A = tot zs j := ⟨_, rfl⟩
          obtain ⟨s, hsz⟩ : ∃ s, s = zs[j] := ⟨_, rfl⟩
          rw [← hsz] at hok hc hst
          rw [← hA] at hst ⊢
          have hAs : A + s ≤ T := by omega
          have HBI : Hid (BIn wr (some ⟨b, o + A, none⟩) s ((xs.drop A).take s)) := ((HX.out.later hbr).drop A (by omega)).take s (by omega)
          have HA : Hid (A = tot zs j) := hA
          have HSZ : Hid (s = zs[j]) := hsz
          clear hA hsz hst hle hng hstore hcell hlen hset H1 hownr hbr hown hb
          have hcA : ¬ c = A := by omega
          have hAc : (A : Int) + s ≤ c := by omega
          go_wp2_with (first | (go_at_call 135; refine (number_any _ _ _ ((xs.drop A).take s) _ (by omega) HBI.out).mono ?_; rintro e w' ⟨rfl, rfl⟩))
          have e : worth ((xs.drop A).take s) = (nums xs zs)[j] := by rw [HN.out, ← HSZ.out, ← HA.out]
          have HE : Hid (_) := e
          clear e
          go_roundw
          case rel =>
            rw [HE.out]
            exact ⟨j + 1, by omega, by go_num, by rw [HS.out, ← HSZ.out, ← HA.out]; go_num, HO.out, HB.out.grown HG.out HB.out.size (by intro q hq; simp at hq; omega)⟩
          case measure => simp [intOf]; omega
        · have e : tot zs j = T := (tot_all zs j (by rw [HZ.out.len]; omega)).trans HT.out.symm
          rw [e]
          rw [filled_all _ _ (by rw [HNL.out]; omega)] at hownr
          have HO : Hid (_) := hownr
          have HB : Hid (Below w.heap.size w wr) := hbr
          have HXr : Hid (BIn wr (some ⟨b, o, none⟩) n xs) := HX.out.later hbr
          clear e hownr hbr hown hb
          by_cases hcT : c = T
          · obtain rfl : T = n := by omega
            obtain rfl : T = c := hcT.symm
            have hd0 : xs.drop T = [] := List.drop_eq_nil_of_le (by rw [HXr.out.len]; omega)
            have HD0 : Hid (_) := hd0
            clear hd0
            go_wp2_with (first | (go_at_call 42; refine (clone_any _ _ _ [] _ BIn.empty (by omega)).mono ?_; rintro e w' ⟨v, rfl, hown2, hbel2⟩))
            go_ret3
            have hsz := HB.out.size
            refine ⟨_, v, rfl, ?_, ?_, HB.out.trans (hbel2.mono HB.out.size)⟩
            · exact own_later (show wr.ownsRow _ _ _ _ _ _ from HO.out) hbel2
            · rw [← HT.out, HD0.out, Nat.sub_self]
              exact own_mono hown2 hsz
          · have HBI : Hid (BIn wr (some ⟨b, o + T, none⟩) (n - T) (xs.drop T)) := HXr.out.drop T (by omega)
            go_wp2_with (first | (go_at_call 42; refine (clone_any _ _ _ (xs.drop T) _ HBI.out (by omega)).mono ?_; rintro e w' ⟨v, rfl, hown2, hbel2⟩))
            go_ret3
            have hsz := HB.out.size
            refine ⟨_, v, rfl, ?_, ?_, HB.out.trans (hbel2.mono HB.out.size)⟩
            · exact own_later (show wr.ownsRow _ _ _ _ _ _ from HO.out) hbel2
            · rw [← HT.out]
              exact own_mono hown2 hsz
end Go.Proofs.YtdadpepfpiimgaaGreatDoor
namespace Go.Proofs.YtdadpepfpiimgaaGreatDoor
open Go.RowKit
theorem BIn.str {w : World} {p : Option Addr} {n : Nat} {xs : List Int} (h : BIn w p n xs) (c : Nat) :
    (convert 27 9 (.slice p n c)).run Tryz.prog w = .ok (.string (strOfNums xs)) w := by
  by_cases h0 : 0 < n
  · obtain ⟨b, o, rfl, hc⟩ := h.cells h0
    exact run_convert_bytes_arg w 27 5 Tryz.underlying27 Tryz.underlying5 b o n c xs h.len hc 9 Tryz.underlying9
  · obtain rfl : n = 0 := by omega
    obtain rfl : xs = [] := List.eq_nil_of_length_eq_zero h.len
    rw [run_convert_bytes_string w 27 9 5 _ 0 c Tryz.underlying27 Tryz.underlying5 Tryz.underlying9]
    cases p <;> simp [Conv.bytesToString, loadCells]
    all_goals rfl
theorem own_in {w : World} {base : Nat} {v : Value} {n : Nat} {xs : List Int} (h : w.ownsRow base 5 1 v n (U8 xs)) (hb : Bytes xs) : ∃ p c, v = .slice p n c ∧ BIn w p n xs ∧ n ≤ c ∧ (p = none → c = 0) ∧ c ≤ maxLen := by
  have hl : xs.length = n := by have := h.1; simpa [U8] using this
  rcases h.2 with ⟨rfl, rfl⟩ | ⟨g, cap, cur, rfl, h1, hg, hnc, hcm, hsz, htake⟩
  · exact ⟨none, 0, rfl, ⟨hl, hb, fun h0 => absurd h0 (Nat.lt_irrefl 0)⟩, Nat.le_refl _, fun _ => rfl, Nat.zero_le _⟩
  · refine ⟨_, cap, rfl, ⟨hl, hb, fun h0 => ⟨g, 0, rfl, fun i hi => ?_⟩⟩, hnc, (fun e => by cases e), hcm⟩
    have := h.cellAt i (by omega)
    rw [Nat.zero_add, this]
    simp [U8, List.getD, List.getElem?_eq_getElem (show i < xs.length by omega)]
theorem own_in64 {w : World} {base : Nat} {v : Value} {n : Nat} {xs : List Int} (h : w.ownsRow base 37 1 v n (U64 xs)) : ∃ p c, v = .slice p n c ∧ IIn w .u64 p n xs ∧ n ≤ c := by
  have hl : xs.length = n := by have := h.1; simpa [U64] using this
  rcases h.2 with ⟨rfl, rfl⟩ | ⟨g, cap, cur, rfl, h1, hg, hnc, hcm, hsz, htake⟩
  · exact ⟨none, 0, rfl, ⟨hl, fun h0 => absurd h0 (Nat.lt_irrefl 0)⟩, Nat.le_refl _⟩
  · refine ⟨_, cap, rfl, ⟨hl, fun h0 => ⟨g, 0, rfl, fun i hi => ?_⟩⟩, hnc⟩
    have := h.cellAt i (by omega)
    rw [Nat.zero_add, this]
    simp [U64, List.getElem?_eq_getElem (show i < xs.length by omega)]
theorem str_list (xs : List Int) : (strOfNums xs).toList = xs.map fun n => UInt8.ofNat n.toNat := by rw [ByteArray.toList_eq]; rfl
theorem below_alloc (w : World) (o : Obj) : Below w.heap.size w (w.alloc o) := (Below.refl _ _).alloc (Nat.le_refl _) o
theorem below_of_alloc {w w' : World} {o : Obj} (h : Below (w.alloc o).heap.size (w.alloc o) w') : Below w.heap.size w w' := (below_alloc w o).trans (h.mono (by simp))
theorem below_then {a b c : World} (h : Below a.heap.size a b) (k : Below b.heap.size b c) : Below a.heap.size a c := h.trans (k.mono h.size)
theorem str_inj {xs ys : List Int} (hx : Bytes xs) (hy : Bytes ys) (h : (strOfNums xs).toList = (strOfNums ys).toList) : xs = ys := by
  rw [str_list, str_list] at h
  have hl : xs.length = ys.length := by have := congrArg List.length h; simpa using this
  apply List.ext_getElem hl
  intro i h1 h2
  have e := congrArg (fun l : List UInt8 => l[i]?) h
  simp only [List.getElem?_map, List.getElem?_eq_getElem h1, List.getElem?_eq_getElem h2, Option.map_some, Option.some.injEq] at e
  have e2 := congrArg UInt8.toNat e
  have b1 := hx.at i h1
  have b2 := hy.at i h2
  simp only [UInt8.toNat_ofNat'] at e2
  omega
theorem str_eq (xs ys : List Int) (hx : Bytes xs) (hy : Bytes ys) : ((strOfNums xs).toList == (strOfNums ys).toList) = decide (xs = ys) := by
  by_cases e : xs = ys
  · subst e; simp
  · rw [decide_eq_false e, beq_eq_false_iff_ne]
    exact fun h => e (str_inj hx hy h)
theorem below_drawn {B : Nat} {w : World} (nq : Nat) : Below B w (w.drewN nq) := ⟨rfl, rfl, rfl, Nat.le_refl _, fun _ _ => rfl⟩
end Go.Proofs.YtdadpepfpiimgaaGreatDoor
namespace Go.Proofs.YtdadpepfpiimgaaGreatDoor
open Go.RowKit
def Half (w : World) : Prop := ∀ i : Nat, i < 16 → w.cell? ⟨1, i, none⟩ = some (.int .u32 ((table.getD i 0 : Nat) : Int))
theorem Half.at {w : World} (h : Half w) (y : Nat) : w.cell? ⟨1, y % 16, none⟩ = some (.int .u32 ((table.getD (y % 16) 0 : Nat) : Int)) := h _ (Nat.mod_lt _ (by omega))
theorem table_lt (y : Nat) : table.getD (y % 16) 0 < 4294967296 := by
  rw [table_hn _ (Nat.mod_lt _ (by omega))]
  exact hn_lt _ _ (by omega)
theorem four_step (w : World) (ht : Half w) (y : Nat) (hy : y < 4294967296) : ∃ t : Nat, w.cell? ⟨1, y % 16, none⟩ = some (.int .u32 (t : Int)) ∧
    bits .xor .u32 ((y : Int) / 16) (t : Int) = ((hn 4 y : Nat) : Int) ∧ bits .and .u32 (y : Int) 15 = ((y % 16 : Nat) : Int) := by
  refine ⟨_, ht.at y, ?_, ?_⟩
  · rw [← hn_four, ← u32_xor_nat (y / 16) _ (by omega) (table_lt y)]
    rfl
  · have := u32_and_nat y 15 hy (by omega)
    rw [nat_mask4] at this
    exact this
set_option maxHeartbeats 400000 in
set_option maxRecDepth 100000 in
theorem push_any (x : Nat) (c : Int) (hx : x < 4294967296) (hc0 : 0 ≤ c) (hc1 : c < 256) (w : World) (ht : Half w) :
    Calls Tryz.prog 112 #[.int .u32 x, .int .u8 c] w fun e w' => e = .returned (.int .u32 (hn 8 (x ^^^ c.toNat) : Nat)) ∧ w = w' := by
  obtain ⟨y, hy⟩ : ∃ y, y = x ^^^ c.toNat := ⟨_, rfl⟩
  have hyl : y < 4294967296 := by rw [hy]; exact xor_lt _ _ hx (by omega)
  have h1 : bits .xor .u32 (x : Int) c = (y : Int) := by
    rw [hy, ← u32_xor_nat x c.toNat hx (by omega)]
    congr 1
    omega
  obtain ⟨t, ht1, ht2, ht3⟩ := four_step w ht y hyl
  obtain ⟨z, hz⟩ : ∃ z, z = hn 4 y := ⟨_, rfl⟩
  have hzl : z < 4294967296 := by rw [hz]; exact hn_lt _ _ hyl
  obtain ⟨s, hs1, hs2, hs3⟩ := four_step w ht z hzl
  rw [← hz] at ht2
  obtain ⟨r, hr⟩ : ∃ r, r = hn 4 z := ⟨_, rfl⟩
  rw [← hr] at hs2
  have HY : Hid (r = hn 8 (x ^^^ c.toNat)) := by
    show r = _
    rw [hr, hz, hy, ← hn_add]
  clear hy hz hr ht
  go_enter Tryz.func112, Tryz.ntmps112
  go_wp2
  go_ret
  refine ⟨?_, rfl⟩
  simp [HY.out]
theorem st_step (x : Nat) (xs : List Int) (k : Nat) (hk : k < xs.length) : st x (xs.take (k + 1)) = hn 8 (st x (xs.take k) ^^^ xs[k].toNat) := by
  rw [List.take_succ_eq_append_getElem hk, st_append]; rfl
theorem st_parts (x : Nat) (ls : List (List Int)) (k : Nat) (hk : k < ls.length) : st x (ls.take (k + 1)).flatten = st (st x (ls.take k).flatten) ls[k] := by
  rw [flat_step ls k hk, st_append]
theorem turn_all (x : Nat) (hx : x < 4294967296) : bits .xor .u32 IntKind.u32.max (x : Int) = ((x ^^^ 4294967295 : Nat) : Int) := by
  rw [Nat.xor_comm, ← u32_xor_nat 4294967295 x (by omega) hx]
  rfl
set_option maxHeartbeats 1000000 in
set_option maxRecDepth 100000 in
theorem of_pos (b o n c : Nat) (vs : List Value) (ls : List (List Int)) (w : World) (h : PIn w (some ⟨b, o, none⟩) n vs ls) (h0 : 0 < n) (hbig : ls.flatten.length ≤ 140737488355328) (hnb : n ≤ 140737488355328) (ht : Half w) :
    Calls Tryz.prog 83 #[.slice (some ⟨b, o, none⟩) n c] w fun e w' => e = .returned (.int .u32 (crc ls.flatten : Nat)) ∧ w = w' := by
  have HV : Hid (vs.length = n) := h.len
  have HL : Hid (ls.length = n) := h.len2
  have HT : Hid (Half w) := ht
  have HB : Hid (∀ l ∈ ls, Bytes l) := by
    intro l hl
    obtain ⟨i, hi, rfl⟩ := List.getElem_of_mem hl
    obtain ⟨p1, n1, c1, _, h1, _⟩ := h.parts i (by rw [h.len, ← h.len2]; exact hi) hi
    exact h1.byte
  have HF : Hid (∀ k, Bytes (ls.take k).flatten) := fun k => Bytes.flatten (fun l hl => HB.out l (List.mem_of_mem_take hl))
  have HBl : Hid (ls.flatten.length ≤ 140737488355328) := hbig
  clear ht hbig
  go_enter Tryz.func83, Tryz.ntmps83
  go_wp2
  go_loop [3, 10] (fun x i => ∃ k : Nat, k ≤ n ∧ i = .int .i64 k ∧ x = .int .u32 (st 4294967295 (ls.take k).flatten : Nat)) (fun _ i => n - (intOf i).toNat)
  case atStart => exact ⟨0, Nat.zero_le _, rfl, rfl⟩
  case round =>
    obtain ⟨k, hk, rfl, rfl⟩ := hrel
    have hlt0 := st_lt 4294967295 (ls.take k).flatten (by omega) (HF.out k)
    by_cases hlt : k < n
    · have hkv : k < vs.length := by rw [HV.out]; exact hlt
      have hkl : k < ls.length := by rw [HL.out]; exact hlt
      obtain ⟨b', o', e, hc0⟩ := h.cells h0
      simp only [Option.some.injEq, Addr.mk.injEq, and_true] at e
      obtain ⟨rfl, rfl⟩ := e
      have hc := hc0 k hkv
      obtain ⟨p1, n1, c1, e1, h1, h2, h3⟩ := h.parts k hkv hkl
      rw [e1] at hc
      have hfl2 := flen_le ls (k + 1)
      have hsl : flen ls (k + 1) = flen ls k + n1 := by rw [flen_step ls k hkl, h1.len]
      have hn1 : n1 ≤ 140737488355328 := by have := HBl.out; omega
      have HS : Hid (st 4294967295 (ls.take (k + 1)).flatten = st (st 4294967295 (ls.take k).flatten) ls[k]) := st_parts _ ls k hkl
      have HP : Hid (BIn w p1 n1 ls[k]) := h1
      have HK : Hid (Bytes ls[k]) := h1.byte
      obtain ⟨y, hy⟩ : ∃ y, y = st 4294967295 (ls.take k).flatten := ⟨_, rfl⟩
      obtain ⟨xs, hxs⟩ : ∃ xs, xs = ls[k] := ⟨_, rfl⟩
      rw [← hxs] at HP HK HS
      rw [← hy] at hlt0 HS ⊢
      clear hc0 hsl hfl2 e1 h1 h2 h3 hy hxs
      by_cases h1p : 0 < n1
      · obtain ⟨b1, o1, rfl, hcs⟩ := HP.out.cells h1p
        have HC : Hid (∀ i, i < n1 → w.cell? ⟨b1, o1 + i, none⟩ = some (.int .u8 (xs.getD i 0))) := hcs
        have HX : Hid (xs.length = n1) := HP.out.len
        clear hcs
        go_wp2
        go_loop [3, 16] (fun x i => ∃ j : Nat, j ≤ n1 ∧ i = .int .i64 j ∧ x = .int .u32 (st y (xs.take j) : Nat)) (fun _ i => n1 - (intOf i).toNat)
        case atStart => exact ⟨0, Nat.zero_le _, rfl, rfl⟩
        case round =>
          obtain ⟨j, hj, rfl, rfl⟩ := hrel
          have hlj := st_lt y (xs.take j) hlt0 (HK.out.take j)
          by_cases hjl : j < n1
          · have hcj := HC.out j hjl
            have hjx : j < xs.length := by rw [HX.out]; exact hjl
            have hb := HK.out.at j hjx
            have HJ : Hid (st y (xs.take (j + 1)) = hn 8 (st y (xs.take j) ^^^ xs[j].toNat)) := st_step y xs j hjx
            rw [show xs.getD j 0 = xs[j] by simp [List.getD, List.getElem?_eq_getElem hjx]] at hcj
            obtain ⟨z, hz⟩ : ∃ z, z = st y (xs.take j) := ⟨_, rfl⟩
            rw [← hz] at hlj HJ ⊢
            obtain ⟨q, hq⟩ : ∃ q, q = xs[j] := ⟨_, rfl⟩
            rw [← hq] at hb HJ hcj
            obtain ⟨hb0, hb1⟩ := hb
            clear hz hq
            go_wp2_with (go_at_call 112; refine (push_any z q hlj hb0 hb1 _ HT.out).mono ?_; rintro e w' ⟨rfl, rfl⟩)
            go_round
            case rel => exact ⟨j + 1, by omega, by go_num, by rw [HJ.out]⟩
            case measure => simp [intOf]; omega
          · have HA : Hid (xs.take j = xs) := List.take_of_length_le (by rw [HX.out]; omega)
            go_wp2
            go_round
            case rel => exact ⟨k + 1, by omega, by go_num, by rw [HS.out, HA.out]⟩
            case measure => simp [intOf]; omega
      · have hz1 : n1 = 0 := by omega
        subst hz1
        have HX : Hid (xs = []) := List.eq_nil_of_length_eq_zero HP.out.len
        go_wp2
        refine wp_loop_rounds 1 ?_
        rw [rounds_succ]
        go_wp2
        go_round
        case rel => exact ⟨k + 1, by omega, by go_num, by rw [HS.out, HX.out]; rfl⟩
        case measure => simp [intOf]; omega
    · have HA : Hid ((ls.take k).flatten = ls.flatten) := flat_all ls k (by rw [HL.out]; omega)
      go_wp2
      go_ret
      refine ⟨?_, rfl⟩
      have e := turn_all _ hlt0
      rw [HA.out] at e
      simp only [HA.out]
      rw [crc, ← e]
      rfl
set_option maxHeartbeats 400000 in
set_option maxRecDepth 100000 in
theorem of_zero (p : Option Addr) (c : Nat) (w : World) :
    Calls Tryz.prog 83 #[.slice p 0 c] w fun e w' => e = .returned (.int .u32 0) ∧ w = w' := by
  go_enter Tryz.func83, Tryz.ntmps83
  go_wp2
  refine wp_loop_rounds 1 ?_
  rw [rounds_succ]
  go_wp2
  go_ret
  exact ⟨rfl, rfl⟩
theorem of_parts (p : Option Addr) (n c : Nat) (vs : List Value) (ls : List (List Int)) (w : World) (h : PIn w p n vs ls) (hbig : ls.flatten.length ≤ 140737488355328) (hnb : n ≤ 140737488355328) (ht : Half w) :
    Calls Tryz.prog 83 #[.slice p n c] w fun e w' => e = .returned (.int .u32 (crc ls.flatten : Nat)) ∧ w = w' := by
  by_cases h0 : 0 < n
  · obtain ⟨b, o, rfl, hc⟩ := h.cells h0
    exact of_pos b o n c vs ls w h h0 hbig hnb ht
  · obtain rfl : n = 0 := by omega
    obtain rfl : ls = [] := List.eq_nil_of_length_eq_zero h.len2
    refine (of_zero p c w).mono ?_
    rintro e w' ⟨rfl, hw⟩
    exact ⟨by rw [show crc ([] : List (List Int)).flatten = 0 from rfl]; rfl, hw⟩
end Go.Proofs.YtdadpepfpiimgaaGreatDoor
namespace Go.Proofs.YtdadpepfpiimgaaGreatDoor
open Go.RowKit
theorem size29 : (Tryz.prog.info? 121).map (·.size) = some 7 := by kernel_rfl
theorem size23 : (Tryz.prog.info? 23).map (·.size) = some 5 := by kernel_rfl
theorem U8_length (xs : List Int) : (U8 xs).length = xs.length := by simp
def ccells (s : Sup) : List Value := [.int .i64 s.bl, .int .i64 s.lc, .int .i64 s.mr, .int .i64 s.hi, .int .i64 s.cl]
def scells (s : Sup) : List Value := [.int .i64 s.bl, .int .i64 s.lc, .int .i64 s.mr, .int .i64 s.hi, .int .i64 s.cl, .int .u64 s.tail, .int .u64 s.life]
theorem scells_len (s : Sup) : (scells s).length = 7 := rfl
theorem ccells_len (s : Sup) : (ccells s).length = 5 := rfl
theorem ccells_ones (s : Sup) : ∀ v ∈ ccells s, v.oneCell' = true := by
  intro v hv
  simp only [ccells, List.mem_cons, List.not_mem_nil, or_false] at hv
  rcases hv with rfl | rfl | rfl | rfl | rfl <;> rfl
theorem ccells_all (s : Sup) : (ccells s).toArray.all (·.oneCell') = true := all_oneCell_toArray (ccells_ones s)
def LAt (t : TypeId) (w : World) (g : Nat) (cs : List Value) : Prop := w.heap[g]? = some (.cells cs.toArray t (0, 0))
theorem LAt.lt {t : TypeId} {w : World} {g : Nat} {cs : List Value} (h : LAt t w g cs) : g < w.heap.size := (Array.getElem?_eq_some_iff.1 h).1
theorem LAt.later {t : TypeId} {w w' : World} {g : Nat} {cs : List Value} (h : LAt t w g cs) (hb : Below w.heap.size w w') : LAt t w' g cs := (hb.block g h.lt).trans h
theorem LAt.new (t : TypeId) (w : World) (cs : List Value) : LAt t (w.alloc (.cells cs.toArray t)) w.heap.size cs := heap_alloc_new w _
theorem LAt.drew {t : TypeId} {w : World} {g : Nat} {cs : List Value} (h : LAt t w g cs) : LAt t w.drew g cs := h
theorem LAt.cell {t : TypeId} {w : World} {g : Nat} {cs : List Value} (h : LAt t w g cs) (j : Nat) : w.cell? ⟨g, j, none⟩ = cs[j]? := by
  rw [cell_of_row w g j cs.toArray t (0, 0) h]; simp
theorem LAt.range {t : TypeId} {w : World} {g : Nat} {cs : List Value} (h : LAt t w g cs) : w.rangeAt g 0 cs := fun j v hv => by
  rw [Nat.zero_add, h.cell j]; exact hv
theorem LAt.store {t : TypeId} {w : World} {g : Nat} {cs ds : List Value} (h : LAt t w g cs) (ht : (Tryz.prog.info? t).map (·.size) = some ds.length) (hl : ds.length = cs.length) (hd : ds.toArray.all (·.oneCell') = true) :
    (Instr.storeAt t (.pointer (some ⟨g, 0, none⟩)) (.agg ds.toArray)).run Tryz.prog w = .ok () (w.setRow g ds.toArray) := by
  simp only [Instr.storeAt, Instr.sureAddr, Sem.run_bind, Sem.run_pure, Result.andThen_ok, run_storeVar_row w g t t cs.toArray ds.toArray h (by rw [ht, List.size_toArray]) (by rw [List.size_toArray, List.size_toArray, hl]) hd]
theorem LAt.stored {t : TypeId} {w : World} {g : Nat} {cs : List Value} (h : LAt t w g cs) (ds : List Value) : LAt t (w.setRow g ds.toArray) g ds := setRow_heap w g _ _ t (0, 0) h
theorem LAt.set {t : TypeId} {w : World} {g : Nat} {cs : List Value} (h : LAt t w g cs) (j : Nat) (v : Value) : LAt t (w.setCell ⟨g, j, none⟩ v) g (cs.set j v) := by
  have := heap_setCell_same w g j _ t v h
  simpa [LAt] using this
abbrev SAt (t : TypeId) (w : World) (g : Nat) (s : Sup) : Prop := LAt t w g (scells s)
abbrev CAt (w : World) (g : Nat) (s : Sup) : Prop := LAt 23 w g (ccells s)
theorem SAt.c5 {t : TypeId} {w : World} {g : Nat} {s : Sup} (h : SAt t w g s) : w.cell? ⟨g, 5, none⟩ = some (.int .u64 s.tail) := LAt.cell h 5
theorem SAt.c6 {t : TypeId} {w : World} {g : Nat} {s : Sup} (h : SAt t w g s) : w.cell? ⟨g, 6, none⟩ = some (.int .u64 s.life) := LAt.cell h 6
theorem CAt.c0 {w : World} {g : Nat} {s : Sup} (h : CAt w g s) : w.cell? ⟨g, 0, none⟩ = some (.int .i64 s.bl) := LAt.cell h 0
theorem CAt.c1 {w : World} {g : Nat} {s : Sup} (h : CAt w g s) : w.cell? ⟨g, 1, none⟩ = some (.int .i64 s.lc) := LAt.cell h 1
theorem CAt.c2 {w : World} {g : Nat} {s : Sup} (h : CAt w g s) : w.cell? ⟨g, 2, none⟩ = some (.int .i64 s.mr) := LAt.cell h 2
theorem CAt.c3 {w : World} {g : Nat} {s : Sup} (h : CAt w g s) : w.cell? ⟨g, 3, none⟩ = some (.int .i64 s.hi) := LAt.cell h 3
theorem CAt.c4 {w : World} {g : Nat} {s : Sup} (h : CAt w g s) : w.cell? ⟨g, 4, none⟩ = some (.int .i64 s.cl) := LAt.cell h 4
theorem SAt.load29 {t : TypeId} {w : World} {g : Nat} {s : Sup} (h : SAt t w g s) : (Instr.loadAt 121 (.pointer (some ⟨g, 0, none⟩))).run Tryz.prog w = .ok (.agg (scells s).toArray) w :=
  run_loadAt_mid w g 0 121 (scells s) _ (LAt.range h) Tryz.underlying121 rfl (by rw [size29, scells_len])
theorem SAt.range5 {t : TypeId} {w : World} {g : Nat} {s : Sup} (h : SAt t w g s) : w.rangeAt g 0 (ccells s) := fun j v hv => by
  have hj : j < 5 := (List.getElem?_eq_some_iff.1 hv).1
  rw [Nat.zero_add, LAt.cell h j, ← hv]
  have : j = 0 ∨ j = 1 ∨ j = 2 ∨ j = 3 ∨ j = 4 := by omega
  rcases this with rfl | rfl | rfl | rfl | rfl <;> rfl
theorem SAt.load23 {t : TypeId} {w : World} {g : Nat} {s : Sup} (h : SAt t w g s) : (Instr.loadAt 23 (.pointer (some ⟨g, 0, none⟩))).run Tryz.prog w = .ok (.agg (ccells s).toArray) w :=
  run_loadAt_mid w g 0 23 (ccells s) _ (SAt.range5 h) Tryz.underlying23 rfl (by rw [size23, ccells_len])
theorem CAt.load23 {w : World} {g : Nat} {s : Sup} (h : CAt w g s) : (Instr.loadAt 23 (.pointer (some ⟨g, 0, none⟩))).run Tryz.prog w = .ok (.agg (ccells s).toArray) w :=
  run_loadAt_mid w g 0 23 (ccells s) _ (LAt.range h) Tryz.underlying23 rfl (by rw [size23, ccells_len])
theorem part_fill (off : Nat) (vs : List Value) (cs : List Value) (h : off + vs.length ≤ cs.length) :
    vs.toArray.zipIdx.foldl (fun cs (x : Value × Nat) => cs.setIfInBounds (off + x.2) x.1) cs.toArray = (cs.take off ++ vs ++ cs.drop (off + vs.length)).toArray := by
  rw [← Array.foldl_toList, Array.toList_zipIdx]
  obtain ⟨h1, h2⟩ := Great.foldl_set off vs 0 cs.toArray
  apply Array.ext_getElem?
  intro k
  have e := h2 k
  simp only [Nat.add_zero, List.size_toArray] at e
  refine Eq.trans e ?_
  rw [List.getElem?_toArray, List.getElem?_toArray]
  by_cases c1 : k < off
  · rw [if_neg (by omega), List.append_assoc, List.getElem?_append_left (by simp; omega), List.getElem?_take, if_pos c1]
  · by_cases c2 : k < off + vs.length
    · rw [if_pos ⟨by omega, c2, by omega⟩, List.append_assoc, List.getElem?_append_right (by simp; omega), List.getElem?_append_left (by simp; omega)]
      congr 1; simp; omega
    · rw [if_neg (by omega), List.getElem?_append_right (by simp; omega), List.getElem?_drop]
      congr 1; simp; omega
def placesOf (P : Program) (t : TypeId) : Option (List (Nat × Nat)) := (P.underlying t).bind fun d => match d with
  | .struct fs => fs.toList.mapM (fun f => (P.info? f.type).map fun i => (f.offset, i.size))
  | _ => none
def plS : List (Nat × Nat) := [(0, 5), (5, 1), (6, 1)]
theorem zero23 : (Tryz.prog.info? 23).bind (·.zero) = some (.agg (ccells sup0).toArray) := by kernel_rfl
theorem built_of (t : TypeId) (ps : List (Nat × Nat)) (z : Value) (parts : List (Nat × Value)) (hp : placesOf Tryz.prog t = some ps) (hz : (Tryz.prog.info? t).bind (·.zero) = some z) : Tryz.prog.built t parts = Instr.fill (ps.toArray[·]?) z.cells parts := by
  unfold Program.built
  unfold placesOf at hp
  cases hu : Tryz.prog.underlying t with
  | none => simp [hu] at hp
  | some d =>
    cases hi : Tryz.prog.info? t with
    | none => simp [hi] at hz
    | some it =>
      simp only [hi, Option.bind_some] at hz
      simp only [hu, Option.bind_some] at hp
      cases d <;> first | (cases hp; done) | (simp only [hz, hp])
theorem fill_step {pl : List (Nat × Nat)} (off n : Nat) (i : Nat) (hp : pl.toArray[i]? = some (off, n)) (v : Value) (vs cs : List Value) (hv : v.cells = vs.toArray) (hn : vs.length = n) (hl : off + n ≤ cs.length) (rest : List (Nat × Value)) :
    Instr.fill (pl.toArray[·]?) cs.toArray ((i, v) :: rest) = Instr.fill (pl.toArray[·]?) (cs.take off ++ vs ++ cs.drop (off + vs.length)).toArray rest := by
  have a0 := part_fill off vs cs (by omega)
  have a1 : vs.toArray.zipIdx.foldl (fun cs x => match x with | (c, j) => cs.setIfInBounds (off + j) c) cs.toArray = (cs.take off ++ vs ++ cs.drop (off + vs.length)).toArray := a0
  simp only [Instr.fill]
  rw [hp]
  dsimp only
  rw [hv]
  simp only [List.size_toArray]
  rw [if_neg (by simp [hn]; omega), a1]
theorem fill_none : Instr.fill (plS.toArray[·]?) (scells sup0).toArray (#[] : Array (Nat × Value)).toList = some (scells sup0).toArray := rfl
section
variable {P : Program} {ops : Array Oper} {rest : List Oper} {o : Oper} {a : Act} {w w' : World} {Q : Exit → Act → World → Prop}
theorem wpList_val (hgd : Region.wanted o (yielded ops a.tmps) = true) {v : Value} (hrun : (execOp a.eval o).run P w = .ok (.value v) w') (h : wpList P ops Q rest (a.put o.dst v) w') : wpList P ops Q (o :: rest) a w :=
  wpList_step fun K hK => by
    rw [if_pos hgd]
    unfold Oper.wp
    rw [hrun]
    exact hK _ _ h
theorem wpList_skp (hgd : Region.wanted o (yielded ops a.tmps) = true) (hrun : (execOp a.eval o).run P w = .ok .skip w') (h : wpList P ops Q rest (a.put o.dst undef) w') : wpList P ops Q (o :: rest) a w :=
  wpList_step fun K hK => by
    rw [if_pos hgd]
    unfold Oper.wp
    rw [hrun]
    exact hK _ _ h
theorem wpList_load_is (hgd : Region.wanted o (yielded ops a.tmps) = true) (ty : TypeId) {x : Operand} (ho : o.op = .load ty x) {p v : Value} (hx : a.eval x = p) (hrun : (Instr.loadAt ty p).run P w = .ok v w)
    (h : wpList P ops Q rest (a.put o.dst v) w) : wpList P ops Q (o :: rest) a w :=
  wpList_val hgd (by unfold execOp; simp only [ho, hx, Sem.run_bind, hrun, Result.andThen_ok, Sem.run_pure]) h
theorem wpList_build_is (hgd : Region.wanted o (yielded ops a.tmps) = true) (ty : TypeId) {ps : Array (Nat × Operand)} (ho : o.op = .build ty ps) {vs : List (Nat × Value)} {v : Value} (hx : ps.toList.map (fun (i, x) => (i, a.eval x)) = vs) (hrun : (Instr.build ty vs.toArray).run P w = .ok v w)
    (h : wpList P ops Q rest (a.put o.dst v) w) : wpList P ops Q (o :: rest) a w :=
  wpList_val hgd (by unfold execOp; simp only [ho]; rw [show ps.map (fun (i, x) => (i, a.eval x)) = vs.toArray by rw [← hx, ← Array.toList_map]]; simp only [Sem.run_bind, hrun, Result.andThen_ok, Sem.run_pure]) h
theorem wpList_eql_is (hgd : Region.wanted o (yielded ops a.tmps) = true) (ty : TypeId) {x y : Operand} {t2 : TypeId} (ho : o.op = .binOp .eql ty x y t2) {xs ys : Array Value} {v : Value} (hx : a.eval x = .agg xs) (hy : a.eval y = .agg ys) (hg : P.eqGuardType P.depth ty = false) (hrun : (binOp .eql ty (.agg xs) (.agg ys)).run P w = .ok v w)
    (h : wpList P ops Q rest (a.put o.dst v) w) : wpList P ops Q (o :: rest) a w :=
  wpList_val hgd (by unfold execOp; simp only [ho, hx, hy, Sem.run_bind, run_eqGuard_agg w .eql ty x y xs ys hg, hrun, Result.andThen_ok, Sem.run_pure]) h
theorem wpList_alloc_is (hgd : Region.wanted o (yielded ops a.tmps) = true) (ty : TypeId) (ho : o.op = .alloc ty) {v : Value} (hrun : (Instr.alloc ty true (.tuple #[])).run P w = .ok v w')
    (h : wpList P ops Q rest (a.put o.dst v) w') : wpList P ops Q (o :: rest) a w :=
  wpList_val hgd (by unfold execOp; simp only [ho, Sem.run_bind, hrun, Result.andThen_ok, Sem.run_pure]) h
theorem wpList_store_is (hgd : Region.wanted o (yielded ops a.tmps) = true) (ty : TypeId) {x y : Operand} (ho : o.op = .store ty x y) {p v : Value} (hx : a.eval x = p) (hy : a.eval y = v) (hrun : (Instr.storeAt ty p v).run P w = .ok () w')
    (h : wpList P ops Q rest (a.put o.dst undef) w') : wpList P ops Q (o :: rest) a w :=
  wpList_skp hgd (by unfold execOp; simp only [ho, hx, hy, Sem.run_bind, hrun, Result.andThen_ok, Sem.run_pure]) h
end
theorem zv (t : TypeId) (z : Value) (hz : (Tryz.prog.info? t).bind (·.zero) = some z) (w : World) : (zeroValue t).run Tryz.prog w = .ok z w := by
  cases hi : Tryz.prog.info? t with
  | none => simp [hi] at hz
  | some it =>
    simp only [hi, Option.bind_some] at hz
    simp [zeroValue, typeInfo, hi, hz]
theorem alloc23 (w : World) : (Instr.alloc 23 true (.tuple #[])).run Tryz.prog w = .ok (.pointer (some ⟨w.heap.size, 0, none⟩)) (w.alloc (.cells (ccells sup0).toArray 23)) := by
  simp only [Instr.alloc, Sem.run_bind, zv 23 _ zero23, Result.andThen_ok]
  simp [newVar, newRow, Value.cells]
theorem below_setRow {B g : Nat} {w w' : World} (h : Below B w w') (hg : B ≤ g) (cs : Array Value) : Below B w (w'.setRow g cs) :=
  ⟨h.os, h.tape, h.output, by rw [size_setRow]; exact h.size, fun k hk => (setRow_other w' g k cs (by omega)).trans (h.block k hk)⟩
theorem world_ext : ∀ (u v : World), u.heap = v.heap → u.tape = v.tape → u.drawn = v.drawn → u.os = v.os → u.output = v.output → u = v
  | ⟨_, _, _, _, _⟩, ⟨_, _, _, _, _⟩, h1, h2, h3, h4, h5 => by
    simp only at h1 h2 h3 h4 h5
    subst h1 h2 h3 h4 h5
    rfl
theorem setRow_alloc (w : World) (a b : Array Value) (t : TypeId) : (w.alloc (.cells a t)).setRow w.heap.size b = w.alloc (.cells b t) := by
  refine world_ext _ _ ?_ rfl rfl rfl rfl
  apply Array.ext_getElem?
  intro k
  by_cases c : k = w.heap.size
  · subst c
    rw [setRow_heap _ _ a b t (0, 0) (heap_alloc_new w _), heap_alloc_new]
  · rw [setRow_other _ _ _ _ c]
    show (w.heap.push _)[k]? = (w.heap.push _)[k]?
    rw [Array.getElem?_push, Array.getElem?_push, if_neg c, if_neg c]
theorem store_new23 (w : World) (s : Sup) : (Instr.storeAt 23 (.pointer (some ⟨w.heap.size, 0, none⟩)) (.agg (ccells s).toArray)).run Tryz.prog (w.alloc (.cells (ccells sup0).toArray 23)) = .ok () (w.alloc (.cells (ccells s).toArray 23)) := by
  rw [(LAt.new 23 w (ccells sup0)).store (ds := ccells s) size23 rfl (ccells_all s), setRow_alloc]
theorem part24 (w : World) (cs : List Value) (o : Nat) (v : Int) (h : cs[o]? = some (.int .u64 v)) : (part 37 cs.toArray o).run Tryz.prog w = .ok (.int .u64 v) w := by
  simp [part, isAgg, run_underlying Tryz.underlying37, h]
theorem results_cell1 {fn : Func} {p : Tmp} {ty : TypeId} (h : fn.results = #[.cell p ty]) (tmps : Array Value) (w : World) (g : Nat) (t : TypeId) (cs : List Value) (d : TypeDesc)
    (hp : tmps.getD p undef = .pointer (some ⟨g, 0, none⟩)) (hg : LAt t w g cs) (hu : Tryz.prog.underlying ty = some d) (hd : d.isRow = true) (hi : (Tryz.prog.info? ty).map (·.size) = some cs.length) :
    (results fn tmps).run Tryz.prog w = .ok (.agg cs.toArray) w := by
  have hp' : tmps[p]?.getD undef = .pointer (some ⟨g, 0, none⟩) := by simpa using hp
  simp [results, h, hp', asAddr, run_loadVar_mid w g 0 ty _ d (LAt.range hg) hu hd hi]
def Flds (w : World) : Prop := ∀ i : Nat, i < 8 → w.cell? ⟨0, 2 * i, none⟩ = some (.int .i64 ((fa.getD i 0 : Nat) : Int)) ∧ w.cell? ⟨0, 2 * i + 1, none⟩ = some (.int .i64 ((fw.getD i 0 : Nat) : Int))
structure Tab (w : World) : Prop where
  half : Half w
  flds : Flds w
theorem Half.later {w w' : World} (h : Half w) (hb : Below w.heap.size w w') : Half w' := fun i hi => by
  have hc := h i hi
  rw [hb.cell (p := ⟨1, i, none⟩) (World.block_lt_of_cell? w _ hc)]
  exact hc
theorem Flds.later {w w' : World} (h : Flds w) (hb : Below w.heap.size w w') : Flds w' := fun i hi => by
  have hc := h i hi
  rw [hb.cell (p := ⟨0, 2 * i, none⟩) (World.block_lt_of_cell? w _ hc.1), hb.cell (p := ⟨0, 2 * i + 1, none⟩) (World.block_lt_of_cell? w _ hc.2)]
  exact hc
theorem Tab.later {w w' : World} (h : Tab w) (hb : Below w.heap.size w w') : Tab w' := ⟨h.half.later hb, h.flds.later hb⟩
end Go.Proofs.YtdadpepfpiimgaaGreatDoor
namespace Go.Proofs.YtdadpepfpiimgaaGreatDoor
open Go.RowKit
set_option maxHeartbeats 400000 in
set_option maxRecDepth 100000 in
theorem within_any (n a b : Int) (w : World) :
    Calls Tryz.prog 72 #[.int .i64 n, .int .i64 a, .int .i64 b] w fun e w' => e = .returned (.bool (decide (a ≤ n ∧ n ≤ b))) ∧ w = w' := by
  go_enter Tryz.func72, Tryz.ntmps72
  go_wp2
  all_goals go_ret
  all_goals (refine ⟨?_, rfl⟩; simp; try omega)
theorem at_ops {P : Program} {ops : Array Oper} {rest : List Oper} {o : Oper} {a : Act} {w : World} {Q : Exit → Act → World → Prop} (h : wpList P ops Q (o :: rest) a w) : wpList P ops Q (o :: rest) a w := h
theorem wpList_min3 {P : Program} {ops : Array Oper} {rest : List Oper} {o : Oper} {a : Act} {w : World} {Q : Exit → Act → World → Prop} (hgd : o.guard = none) (x y z : Operand) (t : TypeId)
    (ho : o.op = .call { callee := .builtin .min, args := #[x, y, z], argTypes := #[t, t, t] }) (p q r m : Int) (hx : a.eval x = .int .i64 p) (hy : a.eval y = .int .i64 q) (hz : a.eval z = .int .i64 r)
    (hm : (if r < (if q < p then q else p) then r else (if q < p then q else p)) = m) (h : wpList P ops Q rest (a.put o.dst (.int .i64 m)) w) : wpList P ops Q (o :: rest) a w := by
  refine wpList_plain hgd fun K hK => ?_
  subst hm
  unfold Oper.wp
  simp [execOp, ho, resolve, invoke, builtin, hx, hy, hz, run_min_int3, Result.andThen]
  exact hK _ _ h
theorem cfg_yes (s : Sup) (h : MayC s) : cfg s = 0 := if_pos h
theorem cfg_no (s : Sup) (h : ¬ MayC s) : cfg s = 3 := if_neg h
theorem top_min (s : Sup) : (s.mr ≤ mrTop s.bl s.lc) ↔ s.mr ≤ 16 ∧ s.mr ≤ s.bl ∧ s.mr ≤ s.lc - 1 := by
  unfold mrTop; split <;> split <;> omega
set_option maxHeartbeats 1000000 in
set_option maxRecDepth 100000 in
theorem config_any (s : Sup) (w : World) :
    Calls Tryz.prog 35 #[.agg (ccells s).toArray] w fun e w' => e = .returned (.int .i64 (cfg s)) ∧ Below w.heap.size w w' := by
  have hA : CAt (w.alloc (.cells (ccells s).toArray 23)) w.heap.size s := LAt.new 23 w (ccells s)
  have c0 := CAt.c0 hA
  have c1 := CAt.c1 hA
  have c2 := CAt.c2 hA
  have c3 := CAt.c3 hA
  have c4 := CAt.c4 hA
  have HB : Hid (Below w.heap.size w (w.alloc (.cells (ccells s).toArray 23))) := below_alloc w _
  clear hA
  go_enter Tryz.func35, Tryz.ntmps35
  have HC1 : Hid (MayC s → cfg s = 0) := cfg_yes s
  have HC0 : Hid (¬ MayC s → cfg s = 3) := cfg_no s
  go_wp2_with fail
  refine (within_any s.bl 1 64 _).mono ?_
  rintro e w1 ⟨rfl, rfl⟩
  by_cases h1 : 1 ≤ s.bl ∧ s.bl ≤ 64
  · rw [decide_eq_true h1]
    go_wp2_with fail
    refine (within_any s.lc 2 64 _).mono ?_
    rintro e w1 ⟨rfl, rfl⟩
    by_cases h2 : 2 ≤ s.lc ∧ s.lc ≤ 64
    · rw [decide_eq_true h2]
      have h2a := h2.1
      have h2b := h2.2
      go_wp2_with ((with_reducible refine at_ops ?_); refine wpList_min3 rfl _ _ _ _ rfl 16 s.bl (s.lc - 1) (mrTop s.bl s.lc) rfl rfl rfl rfl ?_; simp only [Act.put, List.setIfInBounds_toArray, List.set_cons_zero, List.set_cons_succ])
      refine (within_any s.mr 1 (mrTop s.bl s.lc) _).mono ?_
      rintro e w1 ⟨rfl, rfl⟩
      by_cases h3 : 1 ≤ s.mr ∧ s.mr ≤ mrTop s.bl s.lc
      · rw [decide_eq_true h3]
        go_wp2_with fail
        refine (within_any s.hi 1 s.lc _).mono ?_
        rintro e w1 ⟨rfl, rfl⟩
        by_cases h4 : 1 ≤ s.hi ∧ s.hi ≤ s.lc
        · rw [decide_eq_true h4]
          go_wp2_with fail
          refine (within_any s.cl 1 8 _).mono ?_
          rintro e w1 ⟨rfl, rfl⟩
          by_cases h5 : 1 ≤ s.cl ∧ s.cl ≤ 8
          · rw [decide_eq_true h5]
            have HE := HC1.out ⟨h1, h2, ⟨h3.1, (top_min s).1 h3.2⟩, h4, h5⟩
            go_wp2_with fail
            go_ret
            exact ⟨by rw [HE]; rfl, HB.out⟩
          · rw [decide_eq_false h5]
            have HE := HC0.out (fun h => h5 h.2.2.2.2)
            go_wp2_with fail
            go_ret
            exact ⟨by rw [HE]; rfl, HB.out⟩
        · rw [decide_eq_false h4]
          have HE := HC0.out (fun h => h4 h.2.2.2.1)
          go_wp2_with fail
          go_ret
          exact ⟨by rw [HE]; rfl, HB.out⟩
      · rw [decide_eq_false h3]
        have HE := HC0.out (fun h => h3 ⟨h.2.2.1.1, (top_min s).2 h.2.2.1.2⟩)
        go_wp2_with fail
        go_ret
        exact ⟨by rw [HE]; rfl, HB.out⟩
    · rw [decide_eq_false h2]
      have HE := HC0.out (fun h => h2 h.2.1)
      go_wp2_with fail
      go_ret
      exact ⟨by rw [HE]; rfl, HB.out⟩
  · rw [decide_eq_false h1]
    have HE := HC0.out (fun h => h1 h.1)
    go_wp2_with fail
    go_ret
    exact ⟨by rw [HE]; rfl, HB.out⟩
theorem chk_c (s : Sup) (h : ¬ MayC s) : chk s = 3 := by unfold chk; rw [if_neg h]
theorem chk_t (s : Sup) (h1 : MayC s) (h : ¬ MayT s) : chk s = 70 := by unfold chk; rw [if_pos h1, if_neg h]
set_option maxHeartbeats 1000000 in
set_option maxRecDepth 100000 in
theorem check_any (s : Sup) (w : World) :
    Calls Tryz.prog 78 #[.agg (scells s).toArray] w fun e w' => e = .returned (.int .i64 (chk s)) ∧ Below w.heap.size w w' := by
  have HA : Hid (SAt 121 (w.alloc (.cells (scells s).toArray 121)) w.heap.size s) := LAt.new 121 w (scells s)
  have L1 : Hid (_) := SAt.load23 HA.out
  have HB : Hid (Below w.heap.size w (w.alloc (.cells (scells s).toArray 121))) := below_alloc w _
  go_enter Tryz.func78, Tryz.ntmps78
  go_wp2_with (refine wpList_load_is (by rfl) 23 rfl rfl L1.out ?_)
  refine (config_any s _).mono ?_
  rintro e w1 ⟨rfl, b1⟩
  have HA1 : Hid (SAt 121 w1 w.heap.size s) := LAt.later HA.out b1
  have HB1 : Hid (Below w.heap.size w w1) := below_then HB.out b1
  have c5 := SAt.c5 HA1.out
  have c6 := SAt.c6 HA1.out
  clear b1 HA HB L1
  by_cases hc : MayC s
  · rw [cfg_yes s hc]
    by_cases ht : MayT s
    · have h1 := ht.1
      have h2 := ht.2.1
      have h3 := ht.2.2
      have HE : Hid (chk s = 0) := chk_yes s ⟨hc, ht⟩
      clear hc ht
      go_wp2
      go_ret
      exact ⟨by rw [HE.out]; rfl, HB1.out⟩
    · have HE : Hid (chk s = 70) := chk_t s hc ht
      have ht' : 4611686018427387904 < s.tail ∨ s.life < 1 ∨ 4611686018427387904 < s.life := by simp only [MayT] at ht; omega
      clear hc ht
      rcases ht' with h | h | h
      · go_wp2
        go_ret
        exact ⟨by rw [HE.out]; rfl, HB1.out⟩
      · go_wp2
        all_goals go_ret
        all_goals exact ⟨by rw [HE.out]; rfl, HB1.out⟩
      · go_wp2
        all_goals go_ret
        all_goals exact ⟨by rw [HE.out]; rfl, HB1.out⟩
  · rw [cfg_no s hc]
    have HE : Hid (chk s = 3) := chk_c s hc
    clear hc
    go_wp2_with fail
    go_ret
    exact ⟨by rw [HE.out]; rfl, HB1.out⟩
structure Made (w w' : World) (p : Option Addr) (n c : Nat) (xs : List Int) : Prop where
  own : w'.ownsRow w.heap.size 5 1 (.slice p n c) n (U8 xs)
  read : BIn w' p n xs
  le : n ≤ c
  nil : p = none → c = 0
  below : Below w.heap.size w w'
theorem made_of {w w' : World} {v : Value} {n : Nat} {xs : List Int} (ho : w'.ownsRow w.heap.size 5 1 v n (U8 xs)) (hx : Bytes xs) (hb : Below w.heap.size w w') : ∃ p c, v = .slice p n c ∧ Made w w' p n c xs := by
  obtain ⟨p, c, rfl, h, hc, hp, _⟩ := own_in ho hx
  exact ⟨p, c, rfl, ⟨ho, h, hc, hp, hb⟩⟩
set_option maxHeartbeats 400000 in
set_option maxRecDepth 100000 in
theorem rput_any (n : Int) (k : Nat) (w : World) (hn0 : 0 ≤ n) (hk : 1 ≤ k ∧ k ≤ 8) (hn : n / 256 ^ k = 0) :
    Calls Tryz.prog 81 #[.int .u64 n, .int .i64 k] w fun e w' => ∃ p c, e = .returned (.slice p k c) ∧ Made w w' p k c (digits k n) := by
  go_enter Tryz.func81, Tryz.ntmps81
  go_wp2_with fail
  refine (put_ok n k w hn0 hk hn).mono ?_
  rintro e w1 ⟨v, rfl, ho, hb⟩
  obtain ⟨p, c, rfl, hm⟩ := made_of ho (digits_bytes k n) hb
  clear ho hb hn
  go_wp2_with fail
  go_ret
  exact ⟨p, c, rfl, hm⟩
end Go.Proofs.YtdadpepfpiimgaaGreatDoor
namespace Go.Proofs.YtdadpepfpiimgaaGreatDoor
open Go.RowKit
def ncells (s : Sup) : List Value := (ns s).map (Value.int .u64)
theorem size59 : (Tryz.prog.info? 171).map (·.size) = some 8 := by kernel_rfl
theorem zero59 : (Tryz.prog.info? 171).bind (·.zero) = some (.agg (List.replicate 8 (Value.int .u64 0)).toArray) := by kernel_rfl
theorem alloc59 (w : World) : (Instr.alloc 171 true (.tuple #[])).run Tryz.prog w = .ok (.pointer (some ⟨w.heap.size, 0, none⟩)) (w.alloc (.cells (List.replicate 8 (Value.int .u64 0)).toArray 171)) := by
  simp only [Instr.alloc, Sem.run_bind, zv 171 _ zero59, Result.andThen_ok]
  simp [newVar, newRow, Value.cells]
theorem ncells_all (s : Sup) : (ncells s).toArray.all (·.oneCell') = true := by
  apply all_oneCell_toArray
  intro v hv
  simp only [ncells, ns, List.map_cons, List.map_nil, List.mem_cons, List.not_mem_nil, or_false] at hv
  rcases hv with rfl | rfl | rfl | rfl | rfl | rfl | rfl | rfl <;> rfl
theorem wrpU {x : Int} (h0 : 0 ≤ x) (h1 : x ≤ 64) : IntKind.u64.wrap x = x := by rw [IntKind.wrap_u64]; omega
set_option maxHeartbeats 1000000 in
set_option maxRecDepth 100000 in
theorem numbers_any (s : Sup) (hm : May s) (w : World) :
    Calls Tryz.prog 80 #[.agg (scells s).toArray] w fun e w' => e = .returned (.agg (ncells s).toArray) ∧ Below w.heap.size w w' := by
  obtain ⟨⟨⟨a1, a2⟩, ⟨a3, a4⟩, ⟨a5, a6, -, -⟩, ⟨a7, a8⟩, ⟨a9, a10⟩⟩, -⟩ := hm
  have q1 := wrpU (x := s.bl) (by omega) (by omega)
  have q2 := wrpU (x := s.lc) (by omega) (by omega)
  have q3 := wrpU (x := s.mr) (by omega) (by omega)
  have q4 := wrpU (x := s.hi) (by omega) (by omega)
  have q5 := wrpU (x := s.cl) (by omega) (by omega)
  clear a1 a2 a3 a4 a5 a6 a7 a8 a9 a10
  obtain ⟨w0, hw0⟩ : ∃ x, x = w.alloc (.cells (scells s).toArray 121) := ⟨_, rfl⟩
  have hs0 : w0.heap.size = w.heap.size + 1 := by rw [hw0]; simp
  have S0 : SAt 121 w0 w.heap.size s := by rw [hw0]; exact LAt.new 121 w (scells s)
  have B0 : Below w.heap.size w w0 := by rw [hw0]; exact below_alloc w _
  have A0 : Hid (_) := alloc59 w0
  obtain ⟨w1, hw1⟩ : ∃ x, x = w0.alloc (.cells (List.replicate 8 (Value.int .u64 0)).toArray 171) := ⟨_, rfl⟩
  have hs1 : w1.heap.size = w.heap.size + 2 := by rw [hw1]; simp [hs0]
  have S1 : SAt 121 w1 w.heap.size s := by rw [hw1]; exact LAt.later S0 (below_alloc w0 _)
  have N1 : LAt 171 w1 (w.heap.size + 1) (List.replicate 8 (Value.int .u64 0)) := by rw [hw1, ← hs0]; exact LAt.new 171 w0 _
  have B1 : Below w.heap.size w w1 := by rw [hw1]; exact below_then B0 (below_alloc w0 _)
  rw [hs0, ← hw1] at A0
  have L1 : Hid (_) := SAt.load23 S1
  have A1 : Hid (_) := alloc23 w1
  have T1 : Hid (_) := store_new23 w1 s
  obtain ⟨w2, hw2⟩ : ∃ x, x = w1.alloc (.cells (ccells s).toArray 23) := ⟨_, rfl⟩
  have S2 : SAt 121 w2 w.heap.size s := by rw [hw2]; exact LAt.later S1 (below_alloc w1 _)
  have N2 : LAt 171 w2 (w.heap.size + 1) (List.replicate 8 (Value.int .u64 0)) := by rw [hw2]; exact N1.later (below_alloc w1 _)
  have C2 : CAt w2 (w.heap.size + 2) s := by rw [hw2, ← hs1]; exact LAt.new 23 w1 _
  have B2 : Below w.heap.size w w2 := by rw [hw2]; exact below_then B1 (below_alloc w1 _)
  rw [hs1, ← hw2] at T1
  rw [hs1] at A1
  have c0 := CAt.c0 C2
  have c1 := CAt.c1 C2
  have c2 := CAt.c2 C2
  have c3 := CAt.c3 C2
  have c4 := CAt.c4 C2
  have c5 := SAt.c5 S2
  have c6 := SAt.c6 S2
  have ST : Hid (_) := N2.store (ds := ncells s) size59 rfl (ncells_all s)
  have HF : Hid (LAt 171 (w2.setRow (w.heap.size + 1) (ncells s).toArray) (w.heap.size + 1) (ncells s) ∧ Below w.heap.size w (w2.setRow (w.heap.size + 1) (ncells s).toArray)) := ⟨N2.stored _, below_setRow B2 (by omega) _⟩
  have e0 := hw0.symm
  clear hw0 hw1 hw2 hs0 hs1 S0 S1 S2 N1 N2 C2 B0 B1 B2
  go_enter Tryz.func80, Tryz.ntmps80
  go_wp2_with ((with_reducible refine at_ops ?_); (first | (refine wpList_alloc_is (by rfl) 171 rfl A0.out ?_) | (refine wpList_load_is (by rfl) 23 rfl rfl L1.out ?_) | (refine wpList_alloc_is (by rfl) 23 rfl A1.out ?_) | (refine wpList_store_is (by rfl) 23 rfl rfl rfl T1.out ?_) | (refine wpList_store_is (by rfl) 171 rfl rfl rfl ST.out ?_)); simp only [Act.put, List.setIfInBounds_toArray, List.set_cons_zero, List.set_cons_succ])
  exact bodyPost_ret (results_cell1 Tryz.results80 _ _ (w.heap.size + 1) 171 _ _ (by rfl) HF.out.1 Tryz.underlying171 rfl size59) rfl ⟨rfl, HF.out.2⟩
end Go.Proofs.YtdadpepfpiimgaaGreatDoor
