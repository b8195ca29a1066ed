/-
  Layer 15: WaitsFree.
-/
import Derived.Test.YtkgjmejpbklabaaHc
import Derived.Deep.Cut
namespace Go.Proofs.Ytkgjmejpbklabaa
open Go.RowKit

theorem UIn.takeS {w : World} {p : Option Addr} {n k : Nat} {xs : List Int} (h : UIn w p n xs) (hk : k ≤ n) : UIn w p k (xs.take k) := by
  refine ⟨by rw [List.length_take, h.len]; omega, fun h0 => ?_⟩
  obtain ⟨b, o, rfl, hc⟩ := h.cells (by omega)
  refine ⟨b, o, rfl, fun j hj => ?_⟩
  have e : (xs.take k).getD j 0 = xs.getD j 0 := by simp [List.getD, hj]
  rw [e]
  exact hc j (by omega)
theorem UIn.farS {S : Nat → Prop} {w w' : World} {p : Option Addr} {n : Nat} {xs : List Int} (h : UIn w p n xs) (hk : Kept S w w') (hS : ∀ a, p = some a → 0 < n → ¬ S a.block) : UIn w' p n xs := by
  refine ⟨h.len, fun h0 => ?_⟩
  obtain ⟨b, o, rfl, hc⟩ := h.cells h0
  refine ⟨b, o, rfl, fun j hj => ?_⟩
  rw [World.cell?_of_block (w := w) (w' := w') (a := ⟨b, o + j, none⟩) (hk.block b (h.lt (a := ⟨b, o, none⟩) h0) (hS _ rfl h0))]
  exact hc j hj
/-- what stands ahead of the walk of WaitsFree's rest -/
structure Fr (w W : World) (p : Option Addr) (n c : Nat) (es : List Eg) (q : Option Addr) (m d : Nat) (tk : List Int) : Prop where
  bel : RowKit.Below w.heap.size w W
  e : EIn W p n es
  u : UIn W q m tk
  ew : ∀ x ∈ es, UW x.f
  uw : ∀ x ∈ tk, UW x
  pc : p = none → c = 0
  qd : q = none → d = 0
theorem Fr.later {w W W' : World} {p : Option Addr} {n c : Nat} {es : List Eg} {q : Option Addr} {m d : Nat} {tk : List Int} (h : Fr w W p n c es q m d tk) (hb : RowKit.Below W.heap.size W W') : Fr w W' p n c es q m d tk := { h with
  bel := below_then h.bel hb
  e := h.e.later hb
  u := h.u.later hb }
theorem in_uin {w : World} {base g m c : Nat} {tk : List Int} {x y : Int} (h : w.ownsRow base 25 1 (.slice (some ⟨g, 0, none⟩) (m + 2) c) (m + 2) (U64 (tk ++ [x, y]))) (hl : tk.length = m) : UIn w (some ⟨g, 0, none⟩) m tk := by
  have := (uin_of_own h).takeS (k := m) (by omega)
  rw [List.take_left' hl] at this
  exact this
set_option maxHeartbeats 2000000 in
set_option maxRecDepth 100000 in
theorem waitsFree_any (w : World) {p : Option Addr} {n c : Nat} {es : List Eg} (hE : EIn w p n es) (hw : ∀ e ∈ es, UW e.f) (hnc : n ≤ c) (hpc : p = none → c = 0) (hn : n ≤ 17592186044416) {q : Option Addr} {m d : Nat} {tk : List Int} (hU : UIn w q m tk) (ht : ∀ t ∈ tk, UW t) (hmd : m ≤ d) (hqd : q = none → d = 0) (hm : m ≤ 17592186044416) :
    Calls Try.prog 3 #[.slice p n c, .slice q m d] w fun e w' => e = .returned (.bool true) ∧ RowKit.Below w.heap.size w w' := by
  go_enter Try.func3, Try.ntmps3
  go_wp2_with fail
  refine (awake_at _).mono ?_
  rintro e w1 ⟨rfl, hb1⟩
  have HF1 : Hid (Fr w w1 p n c es q m d tk) := ⟨hb1, hE.later hb1, hU.later hb1, hw, ht, hpc, hqd⟩
  clear hE hU hw ht hb1 hpc hqd
  go_upto_if 16 with fail
  go_cut [0] from 17 to 18 (fun v W => ∃ (p' : Option Addr) (n' c' : Nat) (es' : List Eg), v = .slice p' n' c' ∧ n' ≤ 24 ∧ Hid (Fr w W p' n' c' es' q m d tk))
  case first =>
    by_cases hn24 : 24 < n
    · have HF2 : Hid (Fr w w1 p 24 c (es.take 24) q m d tk) := { HF1.out with
        e := HF1.out.e.take (by omega)
        ew := fun x hx => HF1.out.ew x (List.mem_of_mem_take hx) }
      go_wp2_with fail
      go_meet
      case rel => exact ⟨p, 24, c, _, rfl, by omega, HF2⟩
    · go_wp2_with fail
      go_meet
      case rel => exact ⟨p, n, c, es, rfl, by omega, HF1⟩
  case rest =>
    obtain ⟨p, n, c, es, rfl, hn24, HF2⟩ := hcut
    clear HF1
    go_upto_if 21 with fail
    go_cut [1] from 22 to 23 (fun v W => ∃ (q' : Option Addr) (m' d' : Nat) (tk' : List Int), v = .slice q' m' d' ∧ m' ≤ 100 ∧ Hid (Fr w W p n c es q' m' d' tk'))
    case first =>
      by_cases hm24 : 100 < m
      · have HF3 : Hid (Fr w wc p n c es q 100 d (tk.take 100)) := { HF2.out with
          u := HF2.out.u.takeS (by omega)
          uw := fun x hx => HF2.out.uw x (List.mem_of_mem_take hx) }
        go_wp2_with fail
        go_meet
        case rel => exact ⟨q, 100, d, _, rfl, by omega, HF3⟩
      · go_wp2_with fail
        go_meet
        case rel => exact ⟨q, m, d, tk, rfl, by omega, HF2⟩
    case rest =>
      obtain ⟨q, m, d, tk, rfl, hm100, HF⟩ := hcut
      clear HF2
      have HO0 : Hid ((wc.alloc (Obj.cells #[] 25)).ownsRow wc.heap.size 25 1 (.slice (some ⟨wc.heap.size, 0, none⟩) 0 0) 0 []) := O.own_empty wc (Nat.le_refl _)
      have HU0 : Hid (UIn (wc.alloc (Obj.cells #[] 25)) q m tk) := HF.out.u.later (below_alloc _ _)
      have HS0 : Hid (wc.heap.size ≤ (wc.alloc (Obj.cells #[] 25)).heap.size) := by show _ ≤ _; simp
      go_wp2_with (at_builtin; first | (refine O.wpList_tickets rfl (.tmp 24) (.tmp 25) rfl rfl HO0.out rfl HU0.out HF.out.qd (by omega) HS0.out ?_; intro v1 wa ho1 hk1 _; have HBa : Hid (RowKit.Below wc.heap.size wc wa) := hk1.into (below_alloc wc _) (fun b hb e => by have := (HO0.out.lt b e).1; omega) (Nat.le_refl _); have HO1 : Hid (wa.ownsRow wc.heap.size 25 1 v1 (0 + m) ([] ++ U64 tk)) := ho1; clear ho1 hk1) | (refine O.wpList_two (w := wa) (v := v1) rfl (.tmp 26) (.tmp 27) O.elU rfl rfl HO1.out _ _ rfl rfl rfl rfl (by omega) HBa.out.size ?_; intro gi ci wb ho2 hk2; have HBb : Hid (RowKit.Below wc.heap.size wc wb) := hk2.into HBa.out (fun b hb e => by have := (HO1.out.lt b e).1; omega) (Nat.le_refl _); have HO2 : Hid (wb.ownsRow wc.heap.size 25 1 (.slice (some ⟨gi, 0, none⟩) (0 + m + 2) ci) (0 + m + 2) ([] ++ U64 tk ++ [.int .u64 99, .int .u64 99])) := ho2; have hci : (m : Int) ≤ (ci : Int) := (by obtain ⟨g', c', e', hh, _⟩ := O.own_some ho2 (by omega); cases e'; omega); have hci2 : m + 2 ≤ ci := (by obtain ⟨g', c', e', hh, _⟩ := O.own_some ho2 (by omega); cases e'; omega); clear ho2 hk2))
      have HFb : Hid (Fr w wb p n c es q m d tk) := HF.out.later HBb.out
      have HIb : Hid (wb.ownsRow wc.heap.size 25 1 (.slice (some ⟨gi, 0, none⟩) (m + 2) ci) (m + 2) (U64 (tk ++ [99, 99]))) := by
        have := HO2.out
        simp only [Nat.zero_add, List.nil_append] at this
        show World.ownsRow _ _ _ _ _ _ _
        rw [U64, List.map_append]
        exact this
      have hgw : w.heap.size ≤ wc.heap.size := HF.out.bel.size
      have hgi := (HIb.out.lt gi rfl)
      clear HF HO0 HU0 HS0 HBa HO1 HO2 HBb
      refine (marked_at HFb.out.e (by omega) HFb.out.pc).mono ?_
      rintro e wd ⟨gm, cm, hcm, rfl, hom, hbd⟩
      have HFd : Hid (Fr w wd p n c es q m d tk) := HFb.out.later hbd
      have HId : Hid (wd.ownsRow wc.heap.size 25 1 (.slice (some ⟨gi, 0, none⟩) (m + 2) ci) (m + 2) (U64 (tk ++ [99, 99]))) := O.own_later HIb.out hbd
      have HMd : Hid (EIn wd (some ⟨gm, 0, none⟩) n es) := by
        have := (EIn.of_own hom).take (k := n) (by omega)
        rw [List.take_left' HFb.out.e.len] at this
        exact this
      clear hom hbd HFb HIb
      go_wp2_with fail
      refine (free_at HMd.out (by omega) HFd.out.ew (in_uin HId.out HFd.out.u.len) (by omega) HFd.out.uw).mono ?_
      rintro e wa2 ⟨ra, ca, rfl, hoa, hba⟩
      obtain ⟨fl, hfl⟩ : ∃ fl, freS es tk = fl := ⟨_, rfl⟩
      have hf9 : fl.length ≤ 100 := by
        have := freS_len es tk
        have := HFd.out.u.len
        rw [hfl] at *
        omega
      rw [hfl] at hoa ⊢
      have HFa : Hid (Fr w wa2 p n c es q m d tk) := HFd.out.later hba
      have HIa : Hid (wa2.ownsRow wc.heap.size 25 1 (.slice (some ⟨gi, 0, none⟩) (m + 2) ci) (m + 2) (U64 (tk ++ [99, 99]))) := O.own_later HId.out hba
      have HAa : Hid (wa2.ownsRow wd.heap.size 25 1 (.slice ra fl.length ca) fl.length (U64 fl)) := hoa
      have hgd : gi < wd.heap.size := (HId.out.lt gi rfl).2
      have hda : wd.heap.size ≤ wa2.heap.size := hba.size
      clear hoa hba HFd HId HMd
      go_wp2_with fail
      refine (free_at HFa.out.e (by omega) HFa.out.ew (in_uin HIa.out HFa.out.u.len) (by omega) HFa.out.uw).mono ?_
      rintro e wb2 ⟨rb, cb, rfl, hob, hbb⟩
      rw [hfl] at hob ⊢
      have HFb2 : Hid (Fr w wb2 p n c es q m d tk) := HFa.out.later hbb
      have HIb2 : Hid (wb2.ownsRow wc.heap.size 25 1 (.slice (some ⟨gi, 0, none⟩) (m + 2) ci) (m + 2) (U64 (tk ++ [99, 99]))) := O.own_later HIa.out hbb
      have HAb : Hid (wb2.ownsRow wd.heap.size 25 1 (.slice ra fl.length ca) fl.length (U64 fl) ∧ ∀ g, (Value.slice ra fl.length ca).ownBlock = some g → wd.heap.size ≤ g ∧ g < wa2.heap.size) := ⟨O.own_later HAa.out hbb, fun g hg => HAa.out.lt g hg⟩
      have HBb2 : Hid (wb2.ownsRow wa2.heap.size 25 1 (.slice rb fl.length cb) fl.length (U64 fl)) := hob
      have hab : wa2.heap.size ≤ wb2.heap.size := hbb.size
      clear hob hbb HFa HIa HAa
      go_wp2_with fail
      refine (given_at HFb2.out.e (by omega)).mono ?_
      rintro e wg ⟨rg, cg, rfl, hog, hbg⟩
      have HFg : Hid (Fr w wg p n c es q m d tk) := HFb2.out.later hbg
      have HIg : Hid (wg.ownsRow wc.heap.size 25 1 (.slice (some ⟨gi, 0, none⟩) (m + 2) ci) (m + 2) (U64 (tk ++ [99, 99]))) := O.own_later HIb2.out hbg
      have HAg : Hid (wg.ownsRow wd.heap.size 25 1 (.slice ra fl.length ca) fl.length (U64 fl) ∧ ∀ g, (Value.slice ra fl.length ca).ownBlock = some g → wd.heap.size ≤ g ∧ g < wa2.heap.size) := ⟨O.own_later HAb.out.1 hbg, HAb.out.2⟩
      have HBg : Hid (wg.ownsRow wa2.heap.size 25 1 (.slice rb fl.length cb) fl.length (U64 fl) ∧ ∀ g, (Value.slice rb fl.length cb).ownBlock = some g → wa2.heap.size ≤ g ∧ g < wb2.heap.size) := ⟨O.own_later HBb2.out hbg, fun g hg => HBb2.out.lt g hg⟩
      have HGg : Hid (EIn wg rg n es) := EIn.of_ownR hog
      have hbg2 : wb2.heap.size ≤ wg.heap.size := hbg.size
      clear hog hbg HFb2 HIb2 HAb HBb2
      go_wp2_with fail
      refine (rfree_at HGg.out (by omega) HFg.out.u (by omega)).mono ?_
      rintro e wt ⟨rt, ct, rfl, hot, hbt⟩
      rw [hfl] at hot ⊢
      have HFt : Hid (Fr w wt p n c es q m d tk) := HFg.out.later hbt
      have HIt : Hid (wt.ownsRow wc.heap.size 25 1 (.slice (some ⟨gi, 0, none⟩) (m + 2) ci) (m + 2) (U64 (tk ++ [99, 99]))) := O.own_later HIg.out hbt
      have HAt : Hid (wt.ownsRow wd.heap.size 25 1 (.slice ra fl.length ca) fl.length (U64 fl) ∧ ∀ g, (Value.slice ra fl.length ca).ownBlock = some g → wd.heap.size ≤ g ∧ g < wa2.heap.size) := ⟨O.own_later HAg.out.1 hbt, HAg.out.2⟩
      have HBt : Hid (wt.ownsRow wa2.heap.size 25 1 (.slice rb fl.length cb) fl.length (U64 fl) ∧ ∀ g, (Value.slice rb fl.length cb).ownBlock = some g → wa2.heap.size ≤ g ∧ g < wb2.heap.size) := ⟨O.own_later HBg.out.1 hbt, HBg.out.2⟩
      have HTt : Hid (wt.ownsRow wg.heap.size 25 1 (.slice rt fl.length ct) fl.length (U64 fl)) := hot
      clear hot hbt HFg HIg HAg HBg HGg hfl
      go_wp2_with fail
      refine (same_is (uin_of_own HAt.out.1) (uin_of_own HTt.out) (by omega) rfl).mono ?_
      rintro e x1 ⟨rfl, k1, hx1⟩
      have HX1 : Hid (RowKit.Below wt.heap.size wt x1) := by rw [hx1]; exact below_dr _ _ k1
      clear hx1
      go_wp2_with fail
      refine (same_is ((uin_of_own HBt.out.1).later HX1.out) ((uin_of_own HTt.out).later HX1.out) (by omega) rfl).mono ?_
      rintro e x2 ⟨rfl, k2, hx2⟩
      have HX2 : Hid (RowKit.Below wt.heap.size wt x2) := by rw [hx2]; exact HX1.out.trans (below_dr _ _ k2)
      clear hx2 HX1
      go_wp2_with fail
      refine (same_is ((in_uin HIt.out HFt.out.u.len).later HX2.out) (HFt.out.u.later HX2.out) (by omega) rfl).mono ?_
      rintro e x3 ⟨rfl, k3, hx3⟩
      have HX3 : Hid (RowKit.Below wt.heap.size wt x3) := by rw [hx3]; exact HX2.out.trans (below_dr _ _ k3)
      clear hx3 HX2
      have h99 : x3.cell? ⟨gi, m, none⟩ = some (.int .u64 99) := O.own_cell (O.own_later HIt.out HX3.out) (by
        have := HFt.out.u.len
        simp [U64, this])
      go_wp2_with fail
      clear h99
      have HIx : Hid (x3.ownsRow wc.heap.size 25 1 (.slice (some ⟨gi, 0, none⟩) (m + 2) ci) (m + 2) (U64 (tk ++ [99, 99]))) := O.own_later HIt.out HX3.out
      have HAx : Hid (x3.ownsRow wd.heap.size 25 1 (.slice ra fl.length ca) fl.length (U64 fl)) := O.own_later HAt.out.1 HX3.out
      have HTx : Hid (x3.ownsRow wg.heap.size 25 1 (.slice rt fl.length ct) fl.length (U64 fl)) := O.own_later HTt.out HX3.out
      have HBx : Hid (x3.ownsRow wa2.heap.size 25 1 (.slice rb fl.length cb) fl.length (U64 fl)) := O.own_later HBt.out.1 HX3.out
      have HAP : Hid ((∀ g, (Value.slice ra fl.length ca).ownBlock = some g → wd.heap.size ≤ g ∧ g < wa2.heap.size) ∧ (∀ g, (Value.slice rb fl.length cb).ownBlock = some g → wa2.heap.size ≤ g ∧ g < wb2.heap.size) ∧ (∀ g, (Value.slice rt fl.length ct).ownBlock = some g → wg.heap.size ≤ g)) := ⟨HAt.out.2, HBt.out.2, fun g hg => (HTt.out.lt g hg).1⟩
      have HBL : Hid (RowKit.Below w.heap.size w x3) := below_then HFt.out.bel HX3.out
      clear HIt HAt HTt HBt HX3 HFt
      obtain ⟨L, hL⟩ : ∃ L, fl.length = L := ⟨_, rfl⟩
      have HL : Hid (fl.length = L) := hL
      rw [hL] at HAx HTx HBx HAP hf9 ⊢
      clear hL
      go_loopw [70] (fun v W => ∃ (j : Nat) (xs : List Value), v = .int .i64 (j : Int) ∧ j ≤ L ∧ Hid (W.ownsRow wa2.heap.size 25 1 (.slice rb L cb) L xs) ∧ Hid (Kept (fun b => wa2.heap.size ≤ b ∧ b < wb2.heap.size) x3 W)) (fun v _ => L - (intV v).toNat)
      case atStart => exact ⟨0, _, rfl, by omega, HBx, Kept.refl _ _⟩
      case round =>
        obtain ⟨j, xs, rfl, hj, HXB, HKB⟩ := hrel
        by_cases hjl : j < L
        · obtain ⟨gb, cb', eb, hcb, hcell, hfr⟩ := O.own_some HXB.out (by omega)
          have hxl : xs.length = L := by have := HXB.out.1; omega
          have hcj := hcell j xs[j] (by rw [List.getElem?_eq_getElem (by omega)])
          have hfj := hfr j
          cases eb
          have HXB2 : Hid ((wr.setCell ⟨gb, j, none⟩ (.int .u64 5)).ownsRow wa2.heap.size 25 1 (.slice (some ⟨gb, 0, none⟩) L cb) L (xs.set j (.int .u64 5))) := O.own_set HXB.out rfl j _
          have HKB2 : Hid (Kept (fun b => wa2.heap.size ≤ b ∧ b < wb2.heap.size) x3 (wr.setCell ⟨gb, j, none⟩ (.int .u64 5))) := HKB.out.trans (Kept.setCell gb j _) (fun b _ e => by rw [e]; exact HAP.out.2.1 gb rfl)
          clear hcell hfr hcb
          go_wp2_with fail
          go_roundw
          case rel => exact ⟨j + 1, _, rfl, by omega, HXB2, HKB2⟩
          case measure => simp [intV]; omega
        · have HI2 : Hid (wr.ownsRow wc.heap.size 25 1 (.slice (some ⟨gi, 0, none⟩) (m + 2) ci) (m + 2) (U64 (tk ++ [99, 99]))) := O.own_far HIx.out HKB.out (fun b hb e => by simp [Value.ownBlock] at hb; omega)
          have HK2 : Hid (Kept (fun b => b = gi ∨ (wa2.heap.size ≤ b ∧ b < wb2.heap.size)) x3 wr) := HKB.out.wider fun _ _ h => .inr h
          clear HXB HKB
          go_wp2_with fail
          go_loopw [79] (fun v W => ∃ (j : Nat) (xs : List Value), v = .int .i64 (j : Int) ∧ j ≤ m ∧ Hid (W.ownsRow wc.heap.size 25 1 (.slice (some ⟨gi, 0, none⟩) (m + 2) ci) (m + 2) xs) ∧ Hid (Kept (fun b => b = gi ∨ (wa2.heap.size ≤ b ∧ b < wb2.heap.size)) x3 W)) (fun v _ => m - (intV v).toNat)
          case atStart => exact ⟨0, _, rfl, by omega, HI2, HK2⟩
          case round =>
            obtain ⟨j2, xs, rfl, hj2, HXB, HKB⟩ := hrel
            by_cases hjl2 : j2 < m
            · have hxl : xs.length = m + 2 := by have := HXB.out.1; omega
              have hcj : wr.cell? ⟨gi, j2, none⟩ = some xs[j2] := O.own_cell HXB.out (by rw [List.getElem?_eq_getElem (by omega)])
              have hfj : wr.frozen? ⟨gi, j2, none⟩ = false := O.own_free HXB.out j2
              have HXB2 : Hid ((wr.setCell ⟨gi, j2, none⟩ (.int .u64 6)).ownsRow wc.heap.size 25 1 (.slice (some ⟨gi, 0, none⟩) (m + 2) ci) (m + 2) (xs.set j2 (.int .u64 6))) := O.own_set HXB.out rfl j2 _
              have HKB2 : Hid (Kept (fun b => b = gi ∨ (wa2.heap.size ≤ b ∧ b < wb2.heap.size)) x3 (wr.setCell ⟨gi, j2, none⟩ (.int .u64 6))) := HKB.out.trans (Kept.setCell gi j2 _) (fun b _ e => .inl e)
              go_wp2_with fail
              go_roundw
              case rel => exact ⟨j2 + 1, _, rfl, by omega, HXB2, HKB2⟩
              case measure => simp [intV]; omega
            · have HA9 : Hid (wr.ownsRow wd.heap.size 25 1 (.slice ra L ca) L (U64 fl)) := O.own_far HAx.out HKB.out (fun b hb e => by have := HAP.out.1 b hb; omega)
              have HT9 : Hid (wr.ownsRow wg.heap.size 25 1 (.slice rt L ct) L (U64 fl)) := O.own_far HTx.out HKB.out (fun b hb e => by have := HAP.out.2.2 b hb; omega)
              have HB9 : Hid (RowKit.Below w.heap.size w wr) := HKB.out.into HBL.out (fun b hb e => by omega) (Nat.le_refl _)
              clear HXB HKB
              go_wp2_with fail
              refine (same_is (uin_of_own HA9.out) (uin_of_own HT9.out) (by omega) rfl).mono ?_
              rintro e y1 ⟨rfl, k9, hy1⟩
              have HY : Hid (RowKit.Below w.heap.size w y1) := by rw [hy1]; exact HB9.out.trans (below_dr _ _ k9)
              clear hy1
              go_wp2_with fail
              go_ret
              exact ⟨rfl, HY.out⟩
end Go.Proofs.Ytkgjmejpbklabaa
