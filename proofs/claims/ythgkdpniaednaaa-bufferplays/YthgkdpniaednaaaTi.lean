/-
  Layer 16: the marks among the lists that were told.
-/
import Derived.Test.YthgkdpniaednaaaTg
namespace Go.Proofs.Ythgkdpniaednaaa
open Go.RowKit

open B (I64)
namespace W
def sp : Value → Option Addr | .slice p _ _ => p | _ => none
def sn : Value → Nat | .slice _ n _ => n | _ => 0
def sc : Value → Nat | .slice _ _ c => c | _ => 0
section
variable {w0 w w' : World} {P : Nat} {cs : Array Value} {T : Nat → Th} {G : Nat → Prop}
/-- rows that were marked are no longer what they were -/
theorem PS.spoil {α : Type} {k : Nat} {t e : TypeId} {s : Nat} {n : α → Nat} {c : α → List Value} {v : Value} {us : List Value} {fs : List α} {S : Nat → Prop} (h : PS w0 w P cs T G) (hk : k < 15) (ek : T k = .ls true t e s n c v us fs) (hK : Kept S w w') (hS : ∀ b, S b → ∃ u ∈ us, u.ownBlock = some b) (hte : t ≠ e) : PS w0 w' P cs (put T k (.ls false t e s n c v us fs)) G := by
  have hL := h.ls (fl := true) hk ek
  refine h.turn hk (G' := G) (S := S) ?_ hK (fun b hb => by rw [ek]; exact .inr (hS b hb)) (fun b hb => .inl (by rw [ek]; exact hb)) (fun _ hg => hg) (fun _ hg => .inl hg)
  refine ⟨O.own_far hL.row hK fun g hg hs => ?_, hL.len, fun u hu b hb => Nat.lt_of_lt_of_le (hL.ltu u hu b hb) hK.size, fun h => (by cases h), hL.sep⟩
  obtain ⟨u, hu, hb⟩ := hS g hs
  obtain ⟨j, hj⟩ := List.getElem?_of_mem hu
  have hjl := (List.getElem?_eq_some_iff.1 hj).1
  have hf : fs[j]? = some (fs[j]'(by rw [hL.len]; exact hjl)) := List.getElem?_eq_getElem _
  exact O.own_ne hL.row (hL.each rfl j u _ hj hf) hte hg hb
theorem PS.fade {α : Type} {k : Nat} {t e : TypeId} {s : Nat} {n : α → Nat} {c : α → List Value} {v : Value} {us : List Value} {fs : List α} (h : PS w0 w P cs T G) (hk : k < 15) (ek : T k = .ls true t e s n c v us fs) (hte : t ≠ e) : PS w0 w P cs (put T k (.ls false t e s n c v us fs)) G :=
  h.spoil hk ek (Kept.refl (fun _ => False) w) (fun _ hs => hs.elim) hte
end
section
variable {w : World} {t e : TypeId} {s : Nat} {α : Type} {n : α → Nat} {c : α → List Value} {v : Value} {us : List Value} {fs : List α}
theorem Ls.shape (h : Ls w true t e s n c v us fs) {i : Nat} (hi : i < us.length) : ∃ u f, us[i]? = some u ∧ fs[i]? = some f ∧ w.ownsRow 0 e s u (n f) (c f) ∧ u = .slice (sp u) (n f) (sc u) := by
  have hf : fs[i]? = some (fs[i]'(by rw [h.len]; exact hi)) := List.getElem?_eq_getElem _
  have hu : us[i]? = some us[i] := List.getElem?_eq_getElem _
  have ho := h.each rfl i _ _ hu hf
  refine ⟨_, _, hu, hf, ho, ?_⟩
  obtain ⟨p, c', e, _⟩ := O.own_form ho
  rw [e]; rfl
theorem own_sp {b : Nat} {u : Value} {a : Addr} {xs : List Value} {m : Nat} (h : w.ownsRow b e s u m xs) (ha : sp u = some a) : u.ownBlock = some a.block := by
  rcases h.2 with ⟨rfl, _⟩ | ⟨g, cap, cur, rfl, _⟩
  · cases ha
  · cases ha; rfl
theorem Ls.vals (h : Ls w true t e s n c v us fs) {i : Nat} (hi : i < us.length) : ∃ f, fs[i]? = some f ∧ us.getD i undef = .slice (sp (us.getD i undef)) (n f) (sc (us.getD i undef)) ∧ w.ownsRow 0 e s (us.getD i undef) (n f) (c f) ∧ us[i]? = some (us.getD i undef) ∧ us.getD i undef ∈ us := by
  obtain ⟨u, f, hu, hf, ho, hs⟩ := h.shape hi
  have e1 : us.getD i undef = u := by simp [List.getD, hu]
  rw [e1]
  exact ⟨f, hf, hs, ho, hu, List.mem_of_getElem? hu⟩
theorem Ls.apart (h : Ls w true t e s n c v us fs) {i j : Nat} {a b : Addr} (hi : i < us.length) (hj : j < us.length) (hij : i ≠ j) (ha : sp (us.getD i undef) = some a) (hb : sp (us.getD j undef) = some b) : a.block ≠ b.block := fun e => by
  obtain ⟨_, _, _, o1, u1, _⟩ := h.vals hi
  obtain ⟨_, _, _, o2, u2, _⟩ := h.vals hj
  have b1 := own_sp o1 ha
  have b2 := own_sp o2 hb
  have hp := List.pairwise_iff_getElem.1 h.sep
  have g1 : us[i] = us.getD i undef := by rw [List.getElem?_eq_getElem hi] at u1; exact Option.some.inj u1
  have g2 : us[j] = us.getD j undef := by rw [List.getElem?_eq_getElem hj] at u2; exact Option.some.inj u2
  rcases Nat.lt_or_gt_of_ne hij with hlt | hgt
  · have := hp i j hi hj hlt a.block (by rw [g1]; exact b1)
    rw [g2, b2, e] at this
    exact this rfl
  · have := hp j i hj hi hgt b.block (by rw [g2]; exact b2)
    rw [g1, b1, e] at this
    exact this rfl
end
section
variable {w0 w : World} {P : Nat} {T : Nat → Th} {G : Nat → Prop} {p : Option Addr} {cap : Nat} {us : List Value}
set_option maxHeartbeats 2000000 in
set_option maxRecDepth 100000 in
theorem apartM_none (p : Option Addr) (cap : Nat) (w : World) : Calls Try.prog 21 #[.slice p 0 cap] w fun e w' => e = .returned (.bool true) ∧ Below w.heap.size w w' := by
  go_enter Try.func21, Try.ntmps21
  go_wp2_with fail
  have HB0 : Hid (Below w.heap.size w w) := Below.refl _ _
  go_loopw [3] (fun v W => v = .int .i64 0 ∧ Hid (Below w.heap.size w W)) (fun _ _ => 0)
  case atStart => exact ⟨rfl, HB0⟩
  case round =>
    obtain ⟨rfl, HB1⟩ := hrel
    go_wp2_with fail
    go_loopw [6] (fun v W => v = .int .i64 0 ∧ Hid (Below w.heap.size w W)) (fun _ _ => 0)
    case atStart => exact ⟨rfl, HB1⟩
    case round =>
      obtain ⟨rfl, HB2⟩ := hrel
      go_wp2_with fail
      go_loopw [9] (fun v W => v = .int .i64 0 ∧ Hid (Below w.heap.size w W)) (fun _ _ => 0)
      case atStart => exact ⟨rfl, HB2⟩
      case round =>
        obtain ⟨rfl, HB3⟩ := hrel
        go_wp2_with fail
        go_ret
        exact ⟨rfl, HB3.out⟩
theorem apartM_at {ls : List (List Im)} (h : PS w0 w P (pcs T) T G) (e4 : T 4 = .il true (.slice p us.length cap) us ls) (hl : ls.length ≤ 500) (hw : ∀ l ∈ ls, l.length ≤ 16 ∧ ImsWf l) :
    Calls Try.prog 21 #[.slice p us.length cap] w fun e w' => e = .returned (.bool true) ∧ PS w0 w' P (pcs T) (put T 4 (.il false (.slice p us.length cap) us ls)) G := by
  have hL := h.ls (fl := true) (by decide) e4
  by_cases h0 : us.length = 0
  · have hu : us = [] := List.eq_nil_of_length_eq_zero h0
    rw [h0]
    refine (apartM_none p cap w).mono fun e w' ⟨he, hb⟩ => ⟨he, ?_⟩
    have := (h.later hb).fade (by decide) e4 (by decide)
    rw [h0] at this
    exact this
  · obtain ⟨L, c', e, hcap, hcell, hfree⟩ := O.own_some hL.row (by omega)
    cases e
    have hF : C.Fam w 0 L us.length (fun i => sp (us.getD i undef)) (fun i => sn (us.getD i undef)) (fun i => sc (us.getD i undef)) := by
      refine ⟨by have := hL.len; omega, fun i hi => ?_, O.own_typ hL.row rfl, fun i hi => ?_, fun i j a b hi hj hij ha hb => hL.apart hi hj hij ha hb, fun i hi => ?_, Nat.zero_le _⟩
      · obtain ⟨f, hf, e, ho, hu, _⟩ := hL.vals hi
        have := hcell i _ hu
        rw [this, e]; rfl
      · obtain ⟨f, hf, e, ho, hu, _⟩ := hL.vals hi
        have hfw := hw f (List.mem_of_getElem? hf)
        have en : sn (us.getD i undef) = f.length := by rw [e]; rfl
        refine ⟨f, ?_, hfw.2, en.symm⟩
        rw [en, ← e]
        exact ho
      · obtain ⟨f, hf, e, ho, hu, _⟩ := hL.vals hi
        have hfw := hw f (List.mem_of_getElem? hf)
        have en : sn (us.getD i undef) = f.length := by rw [e]; rfl
        rw [en]; omega
    refine (C.apart_any w 0 L us.length cap _ _ _ hF (by omega)).mono fun e w' ⟨he, hr⟩ => ⟨he, ?_⟩
    refine h.spoil (by decide) e4 (S := fun b => ∃ u ∈ us, u.ownBlock = some b) ⟨hr.os, hr.tape, hr.output, hr.size, fun b hb hnb => hr.block b hb fun i a hi ha e => hnb ?_⟩ (fun _ hb => hb) (by decide)
    obtain ⟨f, hf, e2, ho, hu, hm⟩ := hL.vals hi
    exact ⟨_, hm, by rw [← e]; exact own_sp ho ha⟩
set_option maxHeartbeats 2000000 in
set_option maxRecDepth 100000 in
theorem apartI_none (p : Option Addr) (cap : Nat) (w : World) : Calls Try.prog 22 #[.slice p 0 cap] w fun e w' => e = .returned (.bool true) ∧ Below w.heap.size w w' := by
  go_enter Try.func22, Try.ntmps22
  go_wp2_with fail
  have HB0 : Hid (Below w.heap.size w w) := Below.refl _ _
  go_loopw [3] (fun v W => v = .int .i64 0 ∧ Hid (Below w.heap.size w W)) (fun _ _ => 0)
  case atStart => exact ⟨rfl, HB0⟩
  case round =>
    obtain ⟨rfl, HB1⟩ := hrel
    go_wp2_with fail
    go_loopw [6] (fun v W => v = .int .i64 0 ∧ Hid (Below w.heap.size w W)) (fun _ _ => 0)
    case atStart => exact ⟨rfl, HB1⟩
    case round =>
      obtain ⟨rfl, HB2⟩ := hrel
      go_wp2_with fail
      go_loopw [9] (fun v W => v = .int .i64 0 ∧ Hid (Below w.heap.size w W)) (fun _ _ => 0)
      case atStart => exact ⟨rfl, HB2⟩
      case round =>
        obtain ⟨rfl, HB3⟩ := hrel
        go_wp2_with fail
        go_ret
        exact ⟨rfl, HB3.out⟩
theorem apartI_at {fs : List (List Int)} (cs : Array Value) (h : PS w0 w P cs T G) (e4 : T 6 = .fo true (.slice p us.length cap) us fs) (hl : fs.length ≤ 500) (hw : ∀ l ∈ fs, l.length ≤ 16) :
    Calls Try.prog 22 #[.slice p us.length cap] w fun e w' => e = .returned (.bool true) ∧ PS w0 w' P cs (put T 6 (.fo false (.slice p us.length cap) us fs)) G := by
  have hL := h.ls (fl := true) (by decide) e4
  by_cases h0 : us.length = 0
  · have hu : us = [] := List.eq_nil_of_length_eq_zero h0
    rw [h0]
    refine (apartI_none p cap w).mono fun e w' ⟨he, hb⟩ => ⟨he, ?_⟩
    have := (h.later hb).fade (by decide) e4 (by decide)
    rw [h0] at this
    exact this
  · obtain ⟨L, c', e, hcap, hcell, hfree⟩ := O.own_some hL.row (by omega)
    cases e
    have hF : B.Fam w 0 L us.length (fun i => sp (us.getD i undef)) (fun i => sn (us.getD i undef)) (fun i => sc (us.getD i undef)) := by
      refine ⟨by have := hL.len; omega, fun i hi => ?_, O.own_typ hL.row rfl, fun i hi => ?_, fun i j a b hi hj hij ha hb => hL.apart hi hj hij ha hb, fun i hi => ?_, Nat.zero_le _⟩
      · obtain ⟨f, hf, e, ho, hu, _⟩ := hL.vals hi
        have := hcell i _ hu
        rw [this, e]; rfl
      · obtain ⟨f, hf, e, ho, hu, _⟩ := hL.vals hi
        have en : sn (us.getD i undef) = f.length := by rw [e]; rfl
        refine ⟨I64 f, ?_⟩
        rw [en, ← e]
        exact ho
      · obtain ⟨f, hf, e, ho, hu, _⟩ := hL.vals hi
        have hfw := hw f (List.mem_of_getElem? hf)
        have en : sn (us.getD i undef) = f.length := by rw [e]; rfl
        rw [en]; omega
    refine (B.apart_any w 0 L us.length cap _ _ _ hF (by omega)).mono fun e w' ⟨he, hr⟩ => ⟨he, ?_⟩
    refine h.spoil (by decide) e4 (S := fun b => ∃ u ∈ us, u.ownBlock = some b) ⟨hr.os, hr.tape, hr.output, hr.size, fun b hb hnb => hr.block b hb fun i a hi ha e => hnb ?_⟩ (fun _ hb => hb) (by decide)
    obtain ⟨f, hf, e2, ho, hu, hm⟩ := hL.vals hi
    exact ⟨_, hm, by rw [← e]; exact own_sp ho ha⟩
end
end W
end Go.Proofs.Ythgkdpniaednaaa
