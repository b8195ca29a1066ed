/-
  The statement OctetJoins, where what it reads is of bulk at most the Rows text's bound, proved.
-/
import Derived.Test.YtdfnpapnoedpkaaPk
import Derived.Test.YtdfnpapnoedpkaaFe
import Derived.JoinedCond
import Derived.Deep.Matrix
namespace Go.Proofs.Ytdfnpapnoedpkaa
open Go.ChangeShapes Go.WideShapes Go.ChangeAt Go.RowKit Go.Deep

theorem bulk_one {H : Type} (d : DataW H) : 1 ≤ Rows.uptoBulk d := by
  cases d with
  | lit l => cases l <;> simp [Rows.uptoBulk]
  | nil => simp [Rows.uptoBulk]
  | ptr d => simp [Rows.uptoBulk]
  | slice elems spare => simp [Rows.uptoBulk]
  | agg parts => simp [Rows.uptoBulk]
  | iface t d => simp [Rows.uptoBulk]
  | map entries => simp [Rows.uptoBulk]
  | held h => simp [Rows.uptoBulk]

theorem bulk_len {H : Type} : ∀ (l : List (DataW H)), l.length ≤ Rows.uptoBulkAll l
  | [] => by simp [Rows.uptoBulkAll]
  | x :: r => by have := bulk_one x; have := bulk_len r; simp only [Rows.uptoBulkAll, List.length_cons]; omega

theorem bulk_flat {H : Type} (f : Nat → DataW H) (g : Nat → List Int) : ∀ (rs : List Nat), (∀ r ∈ rs, (g r).length ≤ Rows.uptoBulk (f r)) → (rs.map g).flatten.length ≤ Rows.uptoBulkAll (rs.map f)
  | [], _ => by simp
  | r :: rs, h => by
    have h1 := h r List.mem_cons_self
    have h2 := bulk_flat f g rs (fun x hx => h x (List.mem_cons_of_mem _ hx))
    simp only [List.map_cons, List.flatten_cons, List.length_append, Rows.uptoBulkAll]
    omega

theorem openedP {H : Type} {enc : TypeId × Value → H} {W : World} {a : Option Addr} {len cap : Nat} {d : DataW H} {p : List MemPlace} (h : DataW.Trod enc Try.prog W 0 (fun _ => true) true 39 (.slice a len cap) d p) :
    ∃ vs ls, PIn W a len vs ls ∧ len ≤ cap ∧ ls.flatten.length ≤ Rows.uptoBulk d := by
  obtain ⟨fuel, hf⟩ := h
  rcases open_int_rows Try.underlying39 Try.underlying23 Try.underlying5 (by kernel_rfl) (by kernel_rfl) hf with ⟨hcs, _⟩ | ⟨x, l, c, A, L, C, Z, hcs, _, hl, hm, hx, hrow⟩
  · simp [Value.cells] at hcs
    obtain ⟨rfl, rfl, rfl⟩ := hcs
    exact ⟨[], [], ⟨rfl, rfl, fun h => absurd h (Nat.lt_irrefl 0), fun i h => absurd h (Nat.not_lt_zero _)⟩, Nat.le_refl _, by simp⟩
  · simp [Value.cells] at hcs
    obtain ⟨rfl, rfl, rfl⟩ := hcs
    simp only [Prod.mk.injEq] at hx
    refine ⟨(List.range len).map fun r => .slice (A r) (L r) (C r), (List.range len).map fun r => (Z r).take (L r), ⟨by simp, by simp, fun h0 => ?_, fun i h1 h2 => ?_⟩, hl, ?_⟩
    · obtain ⟨b, o, s⟩ := x
      obtain rfl : s = none := by simpa [Addr.add] using World.cell?_spot (hrow 0 (by omega)).1
      refine ⟨b, o, rfl, fun i hi => ?_⟩
      have hi' : i < len := by simpa using hi
      have := (hrow i (by omega)).1
      rw [add_plain] at this
      rw [this]
      simp
    · have hi' : i < len := by simpa using h1
      obtain ⟨_, hLC, _, hZ, hwf, hn, hcell⟩ := hrow i (by omega)
      simp only [List.getElem_map, List.getElem_range]
      refine ⟨A i, L i, C i, rfl, ⟨by rw [List.length_take]; omega, fun n hn => ?_, fun h0 => ?_⟩, hLC, hn⟩
      · have := bounds_u8 (hwf n (List.mem_of_mem_take hn))
        omega
      · cases hA : A i with
        | none => have := hn hA; omega
        | some ad =>
          obtain ⟨b, o, s⟩ := ad
          have hc2 := (hcell _ hA).2
          obtain rfl : s = none := by simpa [Addr.add] using World.cell?_spot (hc2 0 (by omega))
          refine ⟨b, o, rfl, fun j hj => ?_⟩
          have := hc2 j (by omega)
          rw [add_plain] at this
          rw [this]
          simp [List.getD, hj]
    · rw [hx.1]
      have h1 := bulk_flat (fun r => intRow .u8 (A r) (L r) (Z r)) (fun r => (Z r).take (L r)) (List.range len) (fun r hr => by
        have hr' : r < len := by simpa using hr
        obtain ⟨_, hLC, _, hZ, _, hn, _⟩ := hrow r (by omega)
        cases hA : A r with
        | none =>
          have := hn hA
          rw [List.length_take]
          omega
        | some ad =>
          have h2 := bulk_len (lits (H := H) .u8 ((Z r).take (L r)))
          simp only [intRow, Rows.uptoBulk]
          simp only [lits, List.length_map] at h2
          simp only [lits]
          omega)
      simp only [Rows.uptoBulk]
      omega

theorem PIn.take {w : World} {p : Option Addr} {n : Nat} {vs : List Value} {ls : List (List Int)} (h : PIn w p n vs ls) (k : Nat) (hk : k ≤ n) : PIn w p k (vs.take k) (ls.take k) := by
  refine ⟨by rw [List.length_take, h.len]; omega, by rw [List.length_take, h.len2]; omega, fun h0 => ?_, fun i h1 h2 => ?_⟩
  · obtain ⟨b, o, e, hc⟩ := h.cells (by omega)
    refine ⟨b, o, e, fun i hi => ?_⟩
    rw [List.getElem_take]
    exact hc i (by simp at hi; omega)
  · rw [List.getElem_take, List.getElem_take]
    exact h.parts i (by simp at h1; omega) (by simp at h2; omega)

theorem octetJoins_any (p : Option Addr) (n c : Nat) (vs : List Value) (ls : List (List Int)) (w : World) (h : PIn w p n vs ls) (hnc : n ≤ c) (hbig : ls.flatten.length ≤ 1048576) :
    Calls Try.prog 7 #[.slice p n c] w fun e w' => e = .returned (.bool true) ∧ Below w.heap.size w w' := by
  by_cases h0 : 0 < n
  · obtain ⟨b, o, rfl, _⟩ := h.cells h0
    by_cases h50 : n ≤ 50
    · exact joinsA b o n c vs ls w h h0 h50 (by omega)
    · have hl := flat_len ls 50
      exact joinsB b o n c (vs.take 50) (ls.take 50) w (h.take 50 (by omega)) (by omega) hnc (by omega)
  · obtain rfl : n = 0 := by omega
    exact joinsZ p c w

theorem octetJoins_contract (H : Type) (enc : TypeId × Value → H) (W : World) (base : Nat) (args : Array Value) (ds gs : List (DataW H)) (before : List MemPlace)
    (hval : ∀ (j : Nat) t v, Try.f7.params[j]? = some t → args[j]? = some v → Value.okWide Try.prog W .any base t v)
    (hW : DataW.Whole enc Try.prog Try.f7.params.toList Rows.octetJoinsSpec.vars false W args.toList ds gs before) (hk : Rows.uptoSmall H (ds ++ gs) = true) :
    Calls Try.prog 7 args W fun e W' => ∃ v, e = .returned v ∧ Rows.octetJoinsSpec.post enc Try.prog Try.f7 false true false false W args v W' := by
  have hW' := hW
  obtain ⟨p, q, hA0, hV, rfl, hfz, hnd⟩ := hW
  have hA : DataW.TrodAll enc Try.prog W 0 (fun _ => true) true Try.f7.params.toList args.toList ds p := hA0
  rw [Try.params7] at hA hval
  obtain ⟨v0, vs0, d0, ds0, p0, q0, hargs, rfl, rfl, h0, r0⟩ := trodAll_cons hA
  obtain ⟨rfl, rfl, rfl⟩ := trodAll_nil r0
  obtain rfl : args = #[v0] := by cases args; simp_all
  obtain ⟨rfl, rfl⟩ := trodVars_none hV
  obtain ⟨a0, len0, cap0, rfl⟩ := okWide_slice Try.underlying39 (hval 0 39 v0 rfl rfl)
  have k0 := h0
  have lt0 : ∀ x ∈ p0, x.block < W.heap.size := by obtain ⟨m, hm⟩ := k0; exact DataW.trod_lt m _ _ _ hm
  obtain ⟨vs, ls, hP, hlc, hbk⟩ := openedP h0
  have hb : Rows.uptoBulkAll ([d0] ++ []) ≤ 1048576 := of_decide_eq_true hk
  simp only [List.append_nil, Rows.uptoBulkAll] at hb
  clear hA0
  refine (octetJoins_any a0 len0 cap0 vs ls W hP hlc (by omega)).mono fun e W' ⟨he, bel⟩ => ?_
  subst he
  exact ⟨_, rfl, _, _, _, [], _, [], hW', trodAll_mk1 (shut_bool Try.underlying4 _), (trodAll_cons_mk (Below.trod laidK (by kernel_rfl) (of_decide_eq_true (by kernel_rfl)) k0 bel lt0) trodAll_mk0), rfl, bel.frame _, fun h => by cases h⟩

set_option maxRecDepth 100000 in
theorem octetJoins_lifted (os : Os) (started : os.Started) (H : Type) (enc : TypeId × Value → H) (F : Stop.Interp) :
    ReturnsInHanded {} Try.checked os 7 .any ((Rows.OpenSpec.upto Rows.octetJoinsSpec).pre6 enc Try.prog Try.f7 Rows.octetJoinsUptoRow.domain false) (((Rows.OpenSpec.upto Rows.octetJoinsSpec).at F).post enc Try.prog Try.f7 false true false false) := by
  refine returnsInHanded_of_cond (C := Try.checked) (s := Rows.OpenSpec.upto Rows.octetJoinsSpec) (k := Rows.uptoSmall) rfl ownK started (by kernel_rfl) Try.func7
    (OpenSpec.witness (enc := enc) (C := Try.checked) (s := Rows.OpenSpec.upto Rows.octetJoinsSpec) (k := Rows.uptoSmall) rfl false ⟨#[], #[.slice none 0 0], []⟩ 8 (by kernel_rfl) (by kernel_rfl) (by kernel_rfl)
      (x := ([.nil], [], [])) (by kernel_rfl) rfl (by kernel_rfl)) ?_
  intro W base args ds gs before hval hW _ hk _
  exact octetJoins_contract H enc W base args ds gs before hval hW hk

theorem octetJoins_upto : Rows.OctetJoinsUptoSaid :=
  OpenClaim.holds_of_cond 7 Try.f7 rfl rfl rfl rfl rfl rfl rfl ⟨rfl, rfl, rfl, rfl, rfl⟩ rfl rfl rfl rfl rfl (by kernel_rfl) Try.func7 (by kernel_rfl)
    (of_decide_eq_true (by kernel_rfl)) (by unfold Func.isWrapper; first | (rw [if_pos (by decide +kernel)]; kernel_rfl) | (rw [if_neg (by decide +kernel)]; exact ⟨rfl, rfl⟩))
    (fun os started H enc _ F => octetJoins_lifted os started H enc F)
#print axioms octetJoins_upto
end Go.Proofs.Ytdfnpapnoedpkaa
