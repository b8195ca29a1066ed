import Derived.Test.YtdadpepfpiimgaaGreatDoorK11
import Derived.Test.YtdadpepfpiimgaaGreatDoorK18
set_option maxHeartbeats 20000000
set_option maxRecDepth 100000
namespace Go.Proofs.YtdadpepfpiimgaaGreatDoor
open Go.Proofs.Tryz
open Go.RowKit
theorem app_copy {w:World}{q:Option Addr}{m c:Nat}{l:List Im}(h:MIn w q m l)(hm:m≤3000000):∃q' c' w',(Builtin.append_ #[92,92] 92 #[.slice (some ⟨w.heap.size,0,none⟩) 0 0,.slice q m c]).run prog (w.alloc (.cells #[] 155))=.ok (.slice q' l.length c') w'∧IOwn w' w.heap.size (.slice q' l.length c') l∧Below w.heap.size w w':=by
 obtain ⟨i0,hi0,hz0,hz1,hz2⟩:=info_parts infoI
 have hb:=below_alloc w (.cells #[] 155)
 have own0:(w.alloc (.cells #[] 155)).ownsRow w.heap.size 155 33 (.slice (some ⟨w.heap.size,0,none⟩) 0 0) 0 []:=World.ownsRow_made w #[] 0 (Nat.le_refl _) (Nat.zero_le _) rfl
 have h65:(4000000:Nat)≤maxLen:=by decide
 have go:∀(ad:Addr),q=some ad→∃q' c' w',(Builtin.append_ #[92,92] 92 #[.slice (some ⟨w.heap.size,0,none⟩) 0 0,.slice q m c]).run prog (w.alloc (.cells #[] 155))=.ok (.slice q' l.length c') w'∧IOwn w' w.heap.size (.slice q' l.length c') l∧Below w.heap.size w w':=by
  rintro ad rfl
  obtain ⟨v',w',hrun,hown',hgrow,-⟩:=run_append_own (P:=prog) (w.alloc (.cells #[] 155)) w.heap.size 92 92 155 i0 _ 33 40 underlying92 hi0 hz0 hz1 hz2 rfl (by decide) _ 0 [] own0 ad m c (IC l) (by rw[IC_len h.wf,h.len]) (fun j u hu=>by
   by_cases h0:0<m
   ·obtain ⟨b',o',e,hr⟩:=(h.later hb).cells h0
    cases e
    rw[Addr.add_mid]
    exact hr j u hu
   ·have:l=[]:=List.length_eq_zero_iff.1 (by rw[h.len];omega)
    rw[this] at hu;simp[IC] at hu) (IC_ones l) (by omega) (by omega) (by simp)
  rw[Nat.zero_add,List.nil_append] at hown'
  rw[← h.len] at hown'
  obtain ⟨q',c',rfl,-,-,-⟩:=IOwn.in hown' h.wf
  refine⟨q',c',w',hrun,hown',?_⟩
  exact ((Below.refl _ w).alloc (Nat.le_refl _) _).grown hgrow (by simp) fun j ej=>by simp only[Value.ownBlock,Option.some.injEq] at ej;omega
 by_cases h0:0<m
 ·obtain ⟨b,o,e,-⟩:=h.cells h0
  exact go _ e
 ·have m0:m=0:=by omega
  have l0:l=[]:=List.length_eq_zero_iff.1 (by rw[h.len,m0])
  cases q with
  | none =>
   refine⟨some ⟨w.heap.size,0,none⟩,0,w.alloc (.cells #[] 155),?_,?_,hb⟩
   ·subst m0;subst l0
    simp[Builtin.append_,run_underlying underlying92,sizeOf,typeInfo,hi0,Builtin.lenOf,Builtin.firstCells,storeCells]
   ·subst l0;exact own0
  | some ad=>exact go ad rfl
theorem results_lat1 {fn:Func}{p:Tmp}{ty:TypeId}(h:fn.results=#[.cell p ty])(tmps:Array Value)(w:World)(g:Nat)(t:TypeId)(cs:List Value)(d:TypeDesc)
  (hp:tmps.getD p undef=.pointer (some ⟨g,0,none⟩)) (hg:LAt t w g cs) (hu:prog.underlying ty=some d) (hd:d.isRow=true) (hi:(prog.info? ty).map (·.size)=some cs.length) :
  (results fn tmps).run prog w=.ok (.agg cs.toArray) w:=results_cell1 h tmps w g t cs d hp hg hu hd hi
end Go.Proofs.YtdadpepfpiimgaaGreatDoor
