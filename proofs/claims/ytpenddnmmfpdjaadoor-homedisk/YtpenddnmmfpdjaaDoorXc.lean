/-
  What the walks of plays share.
-/
import Derived.Test.YtpenddnmmfpdjaaDoorXb
import Derived.Test.YtpenddnmmfpdjaaDoorSm
namespace Go.Proofs.YtpenddnmmfpdjaaDoor
open Go.RowKit

theorem run_alloc_is {P : Program} {o : Oper} {a : Act} {w w' : World} {K : Act → World → Prop} {Q : Exit → Act → World → Prop} (ty : TypeId) (ho : o.op = .alloc ty) {v : Value} (hrun : (Instr.alloc ty true (.tuple #[])).run P w = .ok v w') (h : K (a.put o.dst v) w') : o.wp P a w K Q := by
  have e : (execOp a.eval o).run P w = .ok (.value v) w' := by unfold execOp; simp only [ho, Sem.run_bind, hrun, Result.andThen_ok, Sem.run_pure]
  unfold Oper.wp; rw [e]; exact h
theorem run_store_is {P : Program} {o : Oper} {a : Act} {w w' : World} {K : Act → World → Prop} {Q : Exit → Act → World → Prop} (ty : TypeId) {x y : Operand} (ho : o.op = .store ty x y) {p v : Value} (hx : a.eval x = p) (hy : a.eval y = v) (hrun : (Instr.storeAt ty p v).run P w = .ok () w') (h : K (a.put o.dst undef) w') : o.wp P a w K Q := by
  have e : (execOp a.eval o).run P w = .ok .skip w' := by unfold execOp; simp only [ho, hx, hy, Sem.run_bind, hrun, Result.andThen_ok, Sem.run_pure]
  unfold Oper.wp; rw [e]; exact h
theorem store_newC (w : World) (s : Sup) : (Instr.storeAt 39 (.pointer (some ⟨w.heap.size, 0, none⟩)) (.agg (ccells s).toArray)).run Tryd.prog (w.alloc (.cells (ccells sup0).toArray 39)) = .ok () (w.alloc (.cells (ccells s).toArray 39)) := by
  rw [LAt.store (ds := ccells s) (LAt.new 39 w (ccells sup0)) size23 rfl (ccells_all s), setRow_alloc]

/-- what plays has in sight: the desk, its step, the configuration -/
structure See (w : World) (g p r : Nat) (s : Sup) (vt vw : Value) (ob : Nat) (oc : List Value) (cb : Nat) (cf : Sup) : Prop where
  desk : KAt w g p r s vt vw
  op : LAt 73 w ob oc
  cfg : CAt w cb cf
theorem See.later {w w' : World} {g p r : Nat} {s : Sup} {vt vw : Value} {ob : Nat} {oc : List Value} {cb : Nat} {cf : Sup} (h : See w g p r s vt vw ob oc cb cf) (hb : Below w.heap.size w w') : See w' g p r s vt vw ob oc cb cf := ⟨LAt.later h.desk hb, LAt.later h.op hb, LAt.later h.cfg hb⟩
theorem See.kept {w w' : World} {S : Nat → Prop} {g p r : Nat} {s : Sup} {vt vw : Value} {ob : Nat} {oc : List Value} {cb : Nat} {cf : Sup} (h : See w g p r s vt vw ob oc cb cf) (hk : Kept S w w') (h1 : ¬ S g) (h2 : ¬ S ob) (h3 : ¬ S cb) : See w' g p r s vt vw ob oc cb cf :=
  ⟨(hk.block g (LAt.lt h.desk) h1).trans h.desk, (hk.block ob (LAt.lt h.op) h2).trans h.op, (hk.block cb (LAt.lt h.cfg) h3).trans h.cfg⟩
/-- what is in sight bears no role of a disk's -/
def Off (R : Nat → Nat) (g ob cb : Nat) : Prop := R g = 3 ∧ R ob = 0 ∧ R cb = 0
theorem Off.up {R : Nat → Nat} {g ob cb a b X : Nat} (h : Off R g ob cb) (h1 : g < a) (h2 : ob < a) (h3 : cb < a) : Off (up R a b X) g ob cb := ⟨(up_lo h1).trans h.1, (up_lo h2).trans h.2.1, (up_lo h3).trans h.2.2⟩
theorem See.turn {w w' : World} {R : Nat → Nat} {X g p r : Nat} {s : Sup} {vt vw : Value} {ob : Nat} {oc : List Value} {cb : Nat} {cf : Sup} (h : See w g p r s vt vw ob oc cb cf) (hk : Kept (fun k => R k = X) w w') (ho : Off R g ob cb) (h3 : X ≠ 3) (h0 : X ≠ 0) : See w' g p r s vt vw ob oc cb cf :=
  h.kept hk (fun c => h3 (c.symm.trans ho.1)) (fun c => h0 (c.symm.trans ho.2.1)) (fun c => h0 (c.symm.trans ho.2.2))
theorem See.off {w : World} {R : Nat → Nat} {b X g p r : Nat} {s : Sup} {vt vw : Value} {ob : Nat} {oc : List Value} {cb : Nat} {cf : Sup} (h : See w g p r s vt vw ob oc cb cf) (ho : Off R g ob cb) : Off (up R w.heap.size b X) g ob cb := ho.up (LAt.lt h.desk) (LAt.lt h.op) (LAt.lt h.cfg)

/-- a sector written: the answer, what waits -/
def wrE (n : Nat) (i : Int) : Int := if i < 0 ∨ (n : Int) ≤ i then 40 else 0
def wrU (n : Nat) (ws : List Wr) (i : Int) (b : List Int) : List Wr := if i < 0 ∨ (n : Int) ≤ i then ws else ws ++ [⟨i.toNat, b⟩]
theorem wrU_length (n : Nat) (ws : List Wr) (i : Int) (b : List Int) : (wrU n ws i b).length ≤ ws.length + 1 := by unfold wrU; split <;> simp
theorem write64 {w : World} {S : Nat → Prop} {p n : Nat} {d : List Int} {ws : List Wr} (h : Dsk w S p n d ws) (i : Int) (a : Option Addr) (c : Nat) (b : List Int) (hb : BIn w a 64 b) (hk : ws.length ≤ 1000) : Calls Tryd.prog 43 #[.pointer (some ⟨p, 0, none⟩), .int .i64 i, .slice a 64 c] w fun e w' => e = .returned (.int .i64 (wrE n i)) ∧ Dsk w' (More S w) p n d (wrU n ws i b) ∧ Kept S w w' := by
  by_cases hi : i < 0 ∨ (n : Int) ≤ i
  · refine (write_bad h i _ hi).mono ?_
    rintro e w' ⟨rfl, rfl⟩
    unfold wrE wrU
    rw [if_pos hi, if_pos hi]
    exact ⟨rfl, h.mono (fun _ _ hs => .inl hs), Kept.refl _ _⟩
  · refine (write_at h i (by omega) (by omega) a c b hb hk).mono ?_
    rintro e w' ⟨rfl, hd, hk⟩
    unfold wrE wrU
    rw [if_neg hi, if_neg hi]
    exact ⟨rfl, hd, hk⟩
theorem rwrite64 {w : World} {S : Nat → Prop} {p n : Nat} {d : List Int} {ws : List Wr} (h : Ref w S p n d ws) (i : Int) (a : Option Addr) (c : Nat) (b : List Int) (hb : BIn w a 64 b) (hk : ws.length ≤ 1000) : Calls Tryd.prog 54 #[.pointer (some ⟨p, 0, none⟩), .int .i64 i, .slice a 64 c] w fun e w' => e = .returned (.int .i64 (wrE n i)) ∧ Ref w' (More S w) p n d (wrU n ws i b) ∧ Kept S w w' := by
  by_cases hi : i < 0 ∨ (n : Int) ≤ i
  · refine (rwrite_bad h i _ hi).mono ?_
    rintro e w' ⟨rfl, rfl⟩
    unfold wrE wrU
    rw [if_pos hi, if_pos hi]
    exact ⟨rfl, h.mono (fun _ _ hs => .inl hs), Kept.refl _ _⟩
  · refine (rwrite_at h i (by omega) (by omega) a c b hb hk).mono ?_
    rintro e w' ⟨rfl, hd, hk⟩
    unfold wrE wrU
    rw [if_neg hi, if_neg hi]
    exact ⟨rfl, hd, hk⟩
end Go.Proofs.YtpenddnmmfpdjaaDoor
