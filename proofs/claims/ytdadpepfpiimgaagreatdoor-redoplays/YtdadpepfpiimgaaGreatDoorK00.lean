import Derived.Test.YtdadpepfpiimgaaGreatDoorRows
import Derived.WalkSpells
import Derived.WalkLawsBesides
import Derived.BigQuiet
import Derived.Deep.RegionHeld3
import Derived.Deep.CutBlock
namespace Go.Proofs.YtdadpepfpiimgaaGreatDoor
open Go.RowKit
theorem zA {α:Type _}{xs:List α}{i:Nat}{v:α}:xs.toArray.setIfInBounds i v=(xs.set i v).toArray:=List.setIfInBounds_toArray ..
theorem zB {α:Type _}{x y:α}{xs:List α}:(x :: xs).set 0 y=y :: xs:=List.set_cons_zero ..
theorem zC {α:Type _}{x y:α}{xs:List α}{n:Nat}:(x :: xs).set (n+1) y=x :: xs.set n y:=List.set_cons_succ ..
section
variable {P:Program} {ops:Array Oper} {Q:Exit→Act→World→Prop} {md:Region.Mode} {S:World→Prop} {fuel:Nat} {listed:Array Bool} {a:Act} {w:World}
theorem tk (i:Nat){oi:Oper}{v:Value}{a':Act}(hS:S w)(h:wpAnyH P md ops Q S fuel (listed.setIfInBounds i true) a' w)(hi:ops[i]?=some oi:=by simp;rfl)(hs:Region.noSelect ops=true:=by kernel_rfl)(hf:Region.free md ops listed i=true:=by kernel_rfl)(hr:(Region.ready md ops listed).contains i=true:=by kernel_rfl)(hg:Region.wanted oi (yielded ops a.tmps)=true:=by rfl)(hy:∀w,(execOp a.eval oi).run P w=.ok (.value v) w:=by intro w;go_simp;with_reducible rfl)(ha:a.put oi.dst v=a':=by simp only[Act.put,zA,zB,zC];with_reducible rfl)(hQ:∀c a w,Q (.panic c) (a.put oi.dst v) w→Q (.panic c) a w:=by exact fun _ _ _ h=>h):wpAnyH P md ops Q S (fuel+1) listed a w :=
 wpAnyH_take hi hs hf hr hQ (.inl ⟨hg,fun w _=>hy w⟩) hS (ha ▸ h)
theorem tkl (i:Nat){oi:Oper}{v:Value}{a':Act}{Z:World→Prop}(hS:S w)(z:∀w,S w→Z w)(h:wpAnyH P md ops Q S fuel (listed.setIfInBounds i true) a' w)(hi:ops[i]?=some oi:=by simp;rfl)(hs:Region.noSelect ops=true:=by kernel_rfl)(hf:Region.free md ops listed i=true:=by kernel_rfl)(hr:(Region.ready md ops listed).contains i=true:=by kernel_rfl)(hg:Region.wanted oi (yielded ops a.tmps)=true:=by rfl)(hy:∀w,Z w→(execOp a.eval oi).run P w=.ok (.value v) w:=by intro w z;go_simp;with_reducible rfl)(ha:a.put oi.dst v=a':=by simp only[Act.put,zA,zB,zC];with_reducible rfl)(hQ:∀c a w,Q (.panic c) (a.put oi.dst v) w→Q (.panic c) a w:=by exact fun _ _ _ h=>h):wpAnyH P md ops Q S (fuel+1) listed a w :=
 wpAnyH_take hi hs hf hr hQ (.inl ⟨hg,fun w s=>hy w (z w s)⟩) hS (ha ▸ h)
theorem tks (i:Nat){oi:Oper}{a':Act}(hS:S w)(h:wpAnyH P md ops Q S fuel (listed.setIfInBounds i true) a' w)(hi:ops[i]?=some oi:=by simp;rfl)(hs:Region.noSelect ops=true:=by kernel_rfl)(hf:Region.free md ops listed i=true:=by kernel_rfl)(hr:(Region.ready md ops listed).contains i=true:=by kernel_rfl)(hg:Region.wanted oi (yielded ops a.tmps)=false:=by rfl)(ha:a.put oi.dst undef=a':=by simp only[Act.put,zA,zB,zC];with_reducible rfl)(hQ:∀c a w,Q (.panic c) (a.put oi.dst undef) w→Q (.panic c) a w:=by exact fun _ _ _ h=>h):wpAnyH P md ops Q S (fuel+1) listed a w :=
 wpAnyH_take hi hs hf hr hQ (.inr ⟨hg,rfl⟩) hS (ha ▸ h)
theorem tkr (i:Nat){oi:Oper}(h:∀K':Act→World→Prop,Shut (∀a w,S w→(S w→wpAnyH P md ops Q S fuel (listed.setIfInBounds i true) a w)→K' a w)→if Region.wanted oi (yielded ops a.tmps)=true then Oper.wp P oi a w K' Q else K' (a.put oi.dst undef) w)(hi:ops[i]?=some oi:=by simp;rfl)(hr:Region.ready md ops listed=[i]:=by kernel_rfl):wpAnyH P md ops Q S (fuel+1) listed a w :=
 wpAnyH_ready hr (by simp) (AllReadyH.cons hi h AllReadyH.nil)
theorem tkm (i:Nat){oi:Oper}{ty:TypeId}{x:Operand}{p v:Value}{a':Act}(hS:S w)(hrun:∀w,S w→(Instr.loadAt ty p).run P w=.ok v w)(h:wpAnyH P md ops Q S fuel (listed.setIfInBounds i true) a' w)(hi:ops[i]?=some oi:=by simp;rfl)(ho:oi.op=.load ty x:=by rfl)(hx:a.eval x=p:=by rfl)(hs:Region.noSelect ops=true:=by kernel_rfl)(hf:Region.free md ops listed i=true:=by kernel_rfl)(hr:(Region.ready md ops listed).contains i=true:=by kernel_rfl)(hg:Region.wanted oi (yielded ops a.tmps)=true:=by rfl)(ha:a.put oi.dst v=a':=by simp only[Act.put,zA,zB,zC];with_reducible rfl)(hQ:∀c a w,Q (.panic c) (a.put oi.dst v) w→Q (.panic c) a w:=by exact fun _ _ _ h=>h):wpAnyH P md ops Q S (fuel+1) listed a w :=
 wpAnyH_take hi hs hf hr hQ (.inl ⟨hg,fun w s=>by unfold execOp;simp only[ho,hx,Sem.run_bind,hrun w s,Result.andThen_ok,Sem.run_pure]⟩) hS (ha ▸ h)
end
section
variable {P:Program} {ops:Array Oper} {rest:List Oper} {o:Oper} {a a':Act} {w w':World} {Q:Exit→Act→World→Prop}
theorem wpL0 (hgd:Region.wanted o (yielded ops a.tmps)=true){v:Value}(hrun:(execOp a.eval o).run P w=.ok (.value v) w')(h:wpList P ops Q rest (a.put o.dst v) w'):wpList P ops Q (o :: rest) a w :=
 wpList_step fun K hK=>by
  rw[if_pos hgd]
  unfold Oper.wp
  rw[hrun]
  exact hK _ _ h
theorem wpS0 (hgd:Region.wanted o (yielded ops a.tmps)=true)(hrun:(execOp a.eval o).run P w=.ok .skip w')(h:wpList P ops Q rest (a.put o.dst undef) w'):wpList P ops Q (o :: rest) a w :=
 wpList_step fun K hK=>by
  rw[if_pos hgd]
  unfold Oper.wp
  rw[hrun]
  exact hK _ _ h
theorem stI (ty:TypeId){x y:Operand}{p v:Value}(hrun:(Instr.storeAt ty p v).run P w=.ok () w')(h:wpList P ops Q rest a w')(hgd:Region.wanted o (yielded ops a.tmps)=true:=by rfl)(ho:o.op=.store ty x y:=by rfl)(hd:o.dst=none:=by rfl)(hx:a.eval x=p:=by rfl)(hy:a.eval y=v:=by rfl):wpList P ops Q (o :: rest) a w :=
 wpS0 (w':=w') hgd (by unfold execOp;simp only[ho,hx,hy,Sem.run_bind,hrun,Result.andThen_ok,Sem.run_pure]) (by rw[hd];exact h)
theorem ldI (ty:TypeId){x:Operand}{p v:Value}(hrun:(Instr.loadAt ty p).run P w=.ok v w)(h:wpList P ops Q rest a' w)(hgd:Region.wanted o (yielded ops a.tmps)=true:=by rfl)(ho:o.op=.load ty x:=by rfl)(hx:a.eval x=p:=by rfl)(ha:a.put o.dst v=a':=by simp only[Act.put,zA,zB,zC];with_reducible rfl):wpList P ops Q (o :: rest) a w :=
 wpL0 hgd (by unfold execOp;simp only[ho,hx,Sem.run_bind,hrun,Result.andThen_ok,Sem.run_pure]) (ha ▸ h)
theorem alI (ty:TypeId){v:Value}(hrun:(Instr.alloc ty true (.tuple #[])).run P w=.ok v w')(h:wpList P ops Q rest a' w')(hgd:Region.wanted o (yielded ops a.tmps)=true:=by rfl)(ho:o.op=.alloc ty:=by rfl)(ha:a.put o.dst v=a':=by simp only[Act.put,zA,zB,zC];with_reducible rfl):wpList P ops Q (o :: rest) a w :=
 wpL0 hgd (by unfold execOp;simp only[ho,Sem.run_bind,hrun,Result.andThen_ok,Sem.run_pure]) (ha ▸ h)
end
end Go.Proofs.YtdadpepfpiimgaaGreatDoor
