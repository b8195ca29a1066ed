/-
  plays: Flush, and no kind.
-/
import Derived.Test.YtpenddnmmfpdjaaDoorXc
namespace Go.Proofs.YtpenddnmmfpdjaaDoor
open Go.RowKit

set_option maxRecDepth 100000 in
set_option maxHeartbeats 8000000 in
theorem plays_flush {w : World} {B g p r n K : Nat} {s : Sup} (h : St w B g p r n s K) (hK : K ≤ 100) (b : Int) (v : List Int) (hv : v.length = 32) (hvb : Bytes v) (raw keep : Value) (o : Sup) (odd : Bool) :
    Calls Tryd.prog 30 #[.pointer (some ⟨g, 0, none⟩), .agg (ocells 5 b v raw keep o odd).toArray] w fun e0 w' => e0 = .returned (.bool true) ∧ St w' B g p r n s (K + 1) ∧ Below B w w' := by
  obtain ⟨R, d, ws, m, hD, hl, hm, hB⟩ := h
  have HV : Hid (v.length = 32 ∧ Bytes v) := ⟨hv, hvb⟩
  obtain ⟨w0, hw0⟩ : ∃ x, x = w.alloc (.cells (ocells 5 b v raw keep o odd).toArray 73) := ⟨_, rfl⟩
  have ew := hw0.symm
  have sz0 : w0.heap.size = w.heap.size + 1 := by rw [hw0]; simp
  have b0 : Below w.heap.size w w0 := by rw [hw0]; exact below_alloc w _
  have O0 : OAt w0 w.heap.size 5 b v raw keep o odd := by rw [hw0]; exact LAt.new 73 w _
  obtain ⟨vt, vw, tl, wl, hk0, -⟩ := (hD.later b0).desk
  have L0 : Hid (_) := KAt.load39 hk0
  have A0 : Hid (_) := alloc23 w0
  have S0 : Hid (_) := store_newC w0 s
  obtain ⟨w1, hw1⟩ : ∃ x, x = w0.alloc (.cells (ccells s).toArray 39) := ⟨_, rfl⟩
  have b1 : Below w.heap.size w w1 := by rw [hw1]; exact below_then b0 (below_alloc _ _)
  have C1 : CAt w1 (w.heap.size + 1) s := by rw [hw1, ← sz0]; exact LAt.new 39 w0 _
  have O1 : OAt w1 w.heap.size 5 b v raw keep o odd := by rw [hw1]; exact LAt.later O0 (below_alloc _ _)
  have K1 : KAt w1 g p r s vt vw := by rw [hw1]; exact LAt.later hk0 (below_alloc _ _)
  have c41 := OAt.odd O1 hv
  rw [← hw1] at S0
  rw [sz0] at A0 S0
  have HF : Hid (Off R g w.heap.size (w.heap.size + 1)) := ⟨hD.rg, hD.hi _ (Nat.le_refl _), hD.hi _ (Nat.le_succ _)⟩
  have HBB : Hid (B ≤ w.heap.size) := hB
  clear hw0 hw1 O0 hk0
  cases odd
  · have HD : Hid (Dk w1 R B g p r n s d ws d ws m) := hD.later b1
    have HS : Hid (See w1 g p r s vt vw w.heap.size (ocells 5 b v raw keep o false) (w.heap.size + 1) s) := ⟨K1, O1, C1⟩
    have HB : Hid (Below w.heap.size w w1) := b1
    have kd := OAt.kind O1
    have c0 := KAt.c0 HS.out.desk
    clear hD b0 b1 O1 C1 K1 hv hvb hB
    go_enter Tryd.func30, Tryd.ntmps30
    go_wp2_with ((with_reducible refine at_ops ?_); (first | (refine wpList_load_is (by rfl) 39 rfl rfl L0.out ?_) | (refine wpList_alloc_is (by rfl) 39 rfl A0.out ?_) | (refine wpList_store_is (by rfl) 39 rfl rfl rfl S0.out ?_)); simp only [Act.put, List.setIfInBounds_toArray, List.set_cons_zero, List.set_cons_succ])
    clear c41 kd L0 A0 S0 ew sz0
    clear c0
    refine (flush_any HD.out.dsk (by omega)).mono ?_
    rintro e we ⟨rfl, de, ke⟩
    have HLe : Hid (B ≤ w1.heap.size) := Nat.le_trans HBB.out HB.out.size
    have HDe : Hid (Dk we (up R w1.heap.size we.heap.size 1) B g p r n s (settle (fun _ => true) ws d) [] d ws m ∧ Below B w1 we) := HD.out.setD ke (de.mono (fun _ _ h => .inl h)) HLe.out
    have HSe : Hid (See we g p r s vt vw w.heap.size (ocells 5 b v raw keep o false) (w.heap.size + 1) s) := HS.out.turn ke HF.out (by decide) (by decide)
    have HLf : Hid (B ≤ we.heap.size) := Nat.le_trans HLe.out ke.size
    have c1 := KAt.c1 HSe.out.desk
    clear de ke HD HS HF HLe HSe
    generalize up R w1.heap.size we.heap.size 1 = Re at *
    go_wp2_with fail
    clear c1
    refine (rflush_any HDe.out.1.ref (by omega) (fun k hk => Nat.lt_of_not_le fun c => by have h0 := HDe.out.1.hi k c; rw [h0] at hk; cases hk)).mono ?_
    rintro e wf ⟨rfl, df, kf⟩
    have HDf : Hid (Dk wf (up Re we.heap.size wf.heap.size 2) B g p r n s (settle (fun _ => true) ws d) [] (settle (fun _ => true) ws d) [] m ∧ Below B we wf) := HDe.out.1.setR kf (df.mono (fun _ _ h => .inl h)) HLf.out
    have HLg : Hid (B ≤ wf.heap.size) := Nat.le_trans HLf.out kf.size
    have HBf : Hid (Below B w wf) := ((HB.out.mono HBB.out).trans HDe.out.2).trans HDf.out.2
    have hee : (((ws.length : Nat) : Int) == (ws.length : Int)) = true := by simp
    clear df kf HDe HLf
    go_wp2_with fail
    go_ret
    exact ⟨by simp, ⟨_, _, [], m, HDf.out.1, Nat.zero_le _, by omega, HLg.out⟩, HBf.out⟩
  · have L1 : Hid (_) := OAt.load39 O1 hv
    have S1 : Hid (_) := LAt.store (ds := ccells o) C1 size23 rfl (ccells_all o)
    obtain ⟨w2, hw2⟩ : ∃ x, x = w1.setRow (w.heap.size + 1) (ccells o).toArray := ⟨_, rfl⟩
    have b2 : Below w.heap.size w w2 := by rw [hw2]; exact below_setRow b1 (Nat.le_succ _) _
    have C2 : CAt w2 (w.heap.size + 1) o := by rw [hw2]; exact LAt.stored C1 _
    have O2 : OAt w2 w.heap.size 5 b v raw keep o true := by rw [hw2]; exact LAt.other O1 _ (by omega)
    have K2 : KAt w2 g p r s vt vw := by rw [hw2]; exact LAt.other K1 _ (by have hz := hD.hi (w.heap.size + 1) (Nat.le_succ _); have hg := hD.rg; intro c; rw [c, hz] at hg; cases hg)
    rw [← hw2] at S1
    have HD : Hid (Dk w2 R B g p r n s d ws d ws m) := hD.later b2
    have HS : Hid (See w2 g p r s vt vw w.heap.size (ocells 5 b v raw keep o true) (w.heap.size + 1) o) := ⟨K2, O2, C2⟩
    have HB : Hid (Below w.heap.size w w2) := b2
    have kd := OAt.kind O2
    have c0 := KAt.c0 HS.out.desk
    clear hD b0 b1 b2 O1 C1 K1 O2 C2 K2 hw2 hv hvb hB
    go_enter Tryd.func30, Tryd.ntmps30
    go_wp2_with ((with_reducible refine at_ops ?_); (first | (refine wpList_load_is (by rfl) 39 rfl rfl L0.out ?_) | (refine wpList_alloc_is (by rfl) 39 rfl A0.out ?_) | (refine wpList_store_is (by rfl) 39 rfl rfl rfl S0.out ?_) | (refine wpList_load_is (by rfl) 39 rfl rfl L1.out ?_) | (refine wpList_store_is (by rfl) 39 rfl rfl rfl S1.out ?_)); simp only [Act.put, List.setIfInBounds_toArray, List.set_cons_zero, List.set_cons_succ])
    clear c41 kd L0 A0 S0 L1 S1 ew sz0
    clear c0
    refine (flush_any HD.out.dsk (by omega)).mono ?_
    rintro e we ⟨rfl, de, ke⟩
    have HLe : Hid (B ≤ w2.heap.size) := Nat.le_trans HBB.out HB.out.size
    have HDe : Hid (Dk we (up R w2.heap.size we.heap.size 1) B g p r n s (settle (fun _ => true) ws d) [] d ws m ∧ Below B w2 we) := HD.out.setD ke (de.mono (fun _ _ h => .inl h)) HLe.out
    have HSe : Hid (See we g p r s vt vw w.heap.size (ocells 5 b v raw keep o true) (w.heap.size + 1) o) := HS.out.turn ke HF.out (by decide) (by decide)
    have HLf : Hid (B ≤ we.heap.size) := Nat.le_trans HLe.out ke.size
    have c1 := KAt.c1 HSe.out.desk
    clear de ke HD HS HF HLe HSe
    generalize up R w2.heap.size we.heap.size 1 = Re at *
    go_wp2_with fail
    clear c1
    refine (rflush_any HDe.out.1.ref (by omega) (fun k hk => Nat.lt_of_not_le fun c => by have h0 := HDe.out.1.hi k c; rw [h0] at hk; cases hk)).mono ?_
    rintro e wf ⟨rfl, df, kf⟩
    have HDf : Hid (Dk wf (up Re we.heap.size wf.heap.size 2) B g p r n s (settle (fun _ => true) ws d) [] (settle (fun _ => true) ws d) [] m ∧ Below B we wf) := HDe.out.1.setR kf (df.mono (fun _ _ h => .inl h)) HLf.out
    have HLg : Hid (B ≤ wf.heap.size) := Nat.le_trans HLf.out kf.size
    have HBf : Hid (Below B w wf) := ((HB.out.mono HBB.out).trans HDe.out.2).trans HDf.out.2
    have hee : (((ws.length : Nat) : Int) == (ws.length : Int)) = true := by simp
    clear df kf HDe HLf
    go_wp2_with fail
    go_ret
    exact ⟨by simp, ⟨_, _, [], m, HDf.out.1, Nat.zero_le _, by omega, HLg.out⟩, HBf.out⟩

set_option maxRecDepth 100000 in
set_option maxHeartbeats 8000000 in
theorem plays_none {w : World} {B g p r n K : Nat} {s : Sup} (h : St w B g p r n s K) (_hK : K ≤ 100) (b : Int) (v : List Int) (hv : v.length = 32) (hvb : Bytes v) (raw keep : Value) (o : Sup) (odd : Bool) (kd : Int) (h1 : ¬ kd = 1) (h2 : ¬ kd = 2) (h3 : ¬ kd = 3) (h4 : ¬ kd = 4) (h5 : ¬ kd = 5) (h6 : ¬ kd = 6) :
    Calls Tryd.prog 30 #[.pointer (some ⟨g, 0, none⟩), .agg (ocells kd b v raw keep o odd).toArray] w fun e0 w' => e0 = .returned (.bool true) ∧ St w' B g p r n s (K + 1) ∧ Below B w w' := by
  obtain ⟨R, d, ws, m, hD, hl, hm, hB⟩ := h
  have q1 : (kd == 1) = false := by simp [h1]
  have q2 : (kd == 2) = false := by simp [h2]
  have q3 : (kd == 3) = false := by simp [h3]
  have q4 : (kd == 4) = false := by simp [h4]
  have q5 : (kd == 5) = false := by simp [h5]
  have q6 : (kd == 6) = false := by simp [h6]
  clear h1 h2 h3 h4 h5 h6
  have HV : Hid (v.length = 32 ∧ Bytes v) := ⟨hv, hvb⟩
  obtain ⟨w0, hw0⟩ : ∃ x, x = w.alloc (.cells (ocells kd b v raw keep o odd).toArray 73) := ⟨_, rfl⟩
  have ew := hw0.symm
  have sz0 : w0.heap.size = w.heap.size + 1 := by rw [hw0]; simp
  have b0 : Below w.heap.size w w0 := by rw [hw0]; exact below_alloc w _
  have O0 : OAt w0 w.heap.size kd b v raw keep o odd := by rw [hw0]; exact LAt.new 73 w _
  obtain ⟨vt, vw, tl, wl, hk0, -⟩ := (hD.later b0).desk
  have L0 : Hid (_) := KAt.load39 hk0
  have A0 : Hid (_) := alloc23 w0
  have S0 : Hid (_) := store_newC w0 s
  obtain ⟨w1, hw1⟩ : ∃ x, x = w0.alloc (.cells (ccells s).toArray 39) := ⟨_, rfl⟩
  have b1 : Below w.heap.size w w1 := by rw [hw1]; exact below_then b0 (below_alloc _ _)
  have C1 : CAt w1 (w.heap.size + 1) s := by rw [hw1, ← sz0]; exact LAt.new 39 w0 _
  have O1 : OAt w1 w.heap.size kd b v raw keep o odd := by rw [hw1]; exact LAt.later O0 (below_alloc _ _)
  have K1 : KAt w1 g p r s vt vw := by rw [hw1]; exact LAt.later hk0 (below_alloc _ _)
  have c41 := OAt.odd O1 hv
  rw [← hw1] at S0
  rw [sz0] at A0 S0
  have HF : Hid (Off R g w.heap.size (w.heap.size + 1)) := ⟨hD.rg, hD.hi _ (Nat.le_refl _), hD.hi _ (Nat.le_succ _)⟩
  have HBB : Hid (B ≤ w.heap.size) := hB
  clear hw0 hw1 O0 hk0
  cases odd
  · have HD : Hid (Dk w1 R B g p r n s d ws d ws m) := hD.later b1
    have HS : Hid (See w1 g p r s vt vw w.heap.size (ocells kd b v raw keep o false) (w.heap.size + 1) s) := ⟨K1, O1, C1⟩
    have HB : Hid (Below w.heap.size w w1) := b1
    have kd := OAt.kind O1
    clear hD b0 b1 O1 C1 K1 hv hvb hB
    go_enter Tryd.func30, Tryd.ntmps30
    go_wp2_with ((with_reducible refine at_ops ?_); (first | (refine wpList_load_is (by rfl) 39 rfl rfl L0.out ?_) | (refine wpList_alloc_is (by rfl) 39 rfl A0.out ?_) | (refine wpList_store_is (by rfl) 39 rfl rfl rfl S0.out ?_)); simp only [Act.put, List.setIfInBounds_toArray, List.set_cons_zero, List.set_cons_succ])
    clear c41 kd L0 A0 S0 ew sz0
    go_ret
    exact ⟨rfl, ⟨R, d, ws, m, HD.out, by omega, by omega, Nat.le_trans HBB.out HB.out.size⟩, HB.out.mono HBB.out⟩
  · have L1 : Hid (_) := OAt.load39 O1 hv
    have S1 : Hid (_) := LAt.store (ds := ccells o) C1 size23 rfl (ccells_all o)
    obtain ⟨w2, hw2⟩ : ∃ x, x = w1.setRow (w.heap.size + 1) (ccells o).toArray := ⟨_, rfl⟩
    have b2 : Below w.heap.size w w2 := by rw [hw2]; exact below_setRow b1 (Nat.le_succ _) _
    have C2 : CAt w2 (w.heap.size + 1) o := by rw [hw2]; exact LAt.stored C1 _
    have O2 : OAt w2 w.heap.size kd b v raw keep o true := by rw [hw2]; exact LAt.other O1 _ (by omega)
    have K2 : KAt w2 g p r s vt vw := by rw [hw2]; exact LAt.other K1 _ (by have hz := hD.hi (w.heap.size + 1) (Nat.le_succ _); have hg := hD.rg; intro c; rw [c, hz] at hg; cases hg)
    rw [← hw2] at S1
    have HD : Hid (Dk w2 R B g p r n s d ws d ws m) := hD.later b2
    have HS : Hid (See w2 g p r s vt vw w.heap.size (ocells kd b v raw keep o true) (w.heap.size + 1) o) := ⟨K2, O2, C2⟩
    have HB : Hid (Below w.heap.size w w2) := b2
    have kd := OAt.kind O2
    clear hD b0 b1 b2 O1 C1 K1 O2 C2 K2 hw2 hv hvb hB
    go_enter Tryd.func30, Tryd.ntmps30
    go_wp2_with ((with_reducible refine at_ops ?_); (first | (refine wpList_load_is (by rfl) 39 rfl rfl L0.out ?_) | (refine wpList_alloc_is (by rfl) 39 rfl A0.out ?_) | (refine wpList_store_is (by rfl) 39 rfl rfl rfl S0.out ?_) | (refine wpList_load_is (by rfl) 39 rfl rfl L1.out ?_) | (refine wpList_store_is (by rfl) 39 rfl rfl rfl S1.out ?_)); simp only [Act.put, List.setIfInBounds_toArray, List.set_cons_zero, List.set_cons_succ])
    clear c41 kd L0 A0 S0 L1 S1 ew sz0
    go_ret
    exact ⟨rfl, ⟨R, d, ws, m, HD.out, by omega, by omega, Nat.le_trans HBB.out HB.out.size⟩, HB.out.mono HBB.out⟩
end Go.Proofs.YtpenddnmmfpdjaaDoor
