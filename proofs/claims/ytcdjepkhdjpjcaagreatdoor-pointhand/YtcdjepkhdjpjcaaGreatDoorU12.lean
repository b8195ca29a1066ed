import Derived.Test.YtcdjepkhdjpjcaaGreatDoorU02
import Derived.LaidMore
import Derived.RangeFuncNested
import Derived.RangeFuncBound
import Derived.Shelf.RegionOpen
import Derived.OwnWalkIn
import Derived.LoopNIn
import Derived.LoopIn
import Derived.Laws.EntriesVeiled
set_option maxHeartbeats 20000000
set_option maxRecDepth 100000
namespace Go.Proofs.Zq.E
theorem Vo:∀{xs:List Int},xs.Pairwise (· < ·)->xs.Nodup
 | [],_=>List.nodup_nil
 | x :: xs,h=>List.nodup_cons.2 ⟨fun hm=>by have:=(cQ.1 h).1 x hm;omega,Vo (cQ.1 h).2⟩
theorem On{a b c:Prop}(h:a\/b)(f:b->c):a\/c:=by
 rcases h with h | h
 ·exact .inl h
 ·exact .inr (f h)
def place (xs:List Int)(t:Int):Int:=if t∈xs then (xs.idxOf t:Int) else -1
theorem Iq{xs:List Int}{t:Int}(h:t∈xs):place xs t=(xs.idxOf t:Int):=aE h
theorem QW{xs:List Int}{t:Int}(h:t ∉ xs):place xs t=-1:=aD h
theorem RQ(xs:List Int)(t:Int):xs.eraseIdx (xs.idxOf t)=xs.erase t:=(List.erase_eq_eraseIdx_of_idxOf rfl).symm
theorem Rs(pre:List Int)(t:Int)(zs:List Int)(hn:t ∉ pre)(hp:pre++[t] <+: zs):t∈zs/\zs.idxOf t=pre.length:=by
 obtain ⟨r,rfl⟩:=hp;refine⟨by simp,?_⟩;rw[aS,List.idxOf_append,aD hn];simp
def upto (zs:List Int)(k:Nat):List Int:=(List.range k).map fun j=>zs.getD j 0
theorem DB(zs:List Int)(k:Nat):upto zs (k+1)=upto zs k++[zs.getD k 0]:=by simp[upto,List.range_succ]
theorem yP(zs:List Int)(k:Nat):(upto zs k).length=k:=by simp[upto]
theorem DA(zs:List Int)(k:Nat)(hk:k<=zs.length):upto zs k=zs.take k:=by
 apply List.ext_getElem
 ·simp[upto];omega
 ·intro i h1 h2;have h3:i<zs.length:=by simp at h2;omega
  simp[upto,List.getD,h3]
theorem AL(zs:List Int):upto zs zs.length=zs:=by rw[DA zs _ (az _),List.take_length]
theorem Vz(xs:List Int)(k i:Nat):(xs.eraseIdx k).getD i 0=if i<k then xs.getD i 0 else xs.getD (i+1) 0:=by
 simp only[List.getD,List.getElem?_eraseIdx];split <;> rfl
open Go.Proofs.Tryz Go.RowKit
theorem ad5:(prog.info? 52).map (fun i=>(i.zero,i.size,i.bytes))=some (some (.int .u64 0),1,8):=by kernel_rfl
theorem KU:(prog.info? 52).map (·.size)=some 1:=by kernel_rfl
abbrev Ky (xs:List Int):List Value:=xs.map (Value.int .u64)
theorem Bu(xs:List Int):∀v∈Ky xs,v.oneCell'=true:=by
 intro u hu;obtain ⟨x,_,rfl⟩:=cF.1 hu;rfl
structure Kept (S:Nat->Prop) (w w':World):Prop where
 os:w'.os=w.os
 tape:w'.tape=w.tape
 output:w'.output=w.output
 size:w.heap.size<=w'.heap.size
 block:∀b,b<w.heap.size->¬S b->w'.heap[b]?=w.heap[b]?
theorem Kept.bP{w w':World}(S:Nat->Prop)(h:Below w.heap.size w w'):Kept S w w':=⟨h.os,h.tape,h.output,h.size,fun b hb _=>h.block b hb⟩
theorem Kept.refl(S:Nat->Prop)(w:World):Kept S w w:=Kept.bP S (aV _ _)
theorem Kept.trans{S T:Nat->Prop}{a b c:World}(h:Kept S a b)(k:Kept T b c)(hT:∀x,x<a.heap.size->T x->S x):Kept S a c :=
 ⟨k.os.trans h.os,k.tape.trans h.tape,k.output.trans h.output,bJ h.size k.size,fun x hx hs=>(k.block x (bN hx h.size) fun t=>hs (hT x hx t)).trans (h.block x hx hs)⟩
theorem Kept.wider{S T:Nat->Prop}{a b:World}(h:Kept S a b)(hT:∀x,x<a.heap.size->S x->T x):Kept T a b:=⟨h.os,h.tape,h.output,h.size,fun x hx ht=>h.block x hx fun s=>ht (hT x hx s)⟩
theorem Kept.setCell{w:World}(b o:Nat)(v:Value):Kept (·=b) w (w.setCell ⟨b,o,none⟩ v):=⟨rfl,rfl,rfl,by simp,fun k _ hk=>Below.heap_setCell _ _ _ _ hk⟩
theorem Kept.uR{S:Nat->Prop}{B:Nat}{w0 w w':World}(h:Kept S w w')(hb:Below B w0 w)(hS:∀b,b<B->¬S b)(hB:B<=w0.heap.size):Below B w0 w' :=
 ⟨h.os.trans hb.os,h.tape.trans hb.tape,h.output.trans hb.output,bJ hb.size h.size,fun b eP=>(h.block b (by have:=hb.size;omega) (hS b eP)).trans (hb.block b eP)⟩
structure YI (w:World) (p:Option Addr) (n:Nat) (xs:List Int):Prop where
 len:xs.length=n
 cells:0<n->∃b o,p=some ⟨b,o,none⟩/\∀i,i<n->w.cell? ⟨b,o+i,none⟩=some (.int .u64 (xs.getD i 0))
theorem YI.news{w:World}{a:Addr}{n:Nat}{xs:List Int}(h:YI w (some a) n xs):∀j u,(Ky xs)[j]?=some u->w.cell? (a.add j)=some u:=by
 intro j u hj;have hjn:j<xs.length:=by
  have:=(aA.1 hj).1;simpa using this
 obtain ⟨b,o,e,hc⟩:=h.cells (by have:=h.len;omega);simp only[aC] at e;subst e;rw[bW,hc j (by have:=h.len;omega),<-hj];simp[List.getD,List.getElem?_eq_getElem hjn]
theorem YI.nil(w:World)(p:Option Addr):YI w p 0 []:=⟨rfl,fun h=>absurd h (gB 0)⟩
def bC:Value->Option Nat
 | .slice (some a) _ _=>some a.block
 | _=>none
def Row (w:World)(v:Value)(xs:List Int):Prop :=
 (v=.slice none 0 0/\xs=[])\/∃g o cap cur,v=.slice (some ⟨g,o,none⟩) xs.length cap/\w.heap[g]?=some (.cells cur 52 (0,0))/\xs.length<=cap/\o+cap<=cur.size/\∀i,i<xs.length->cur[o+i]?=some (.int .u64 (xs.getD i 0))
theorem Row.empty(w:World):Row w (.slice none 0 0) []:=.inl ⟨rfl,rfl⟩
theorem Row.form{w:World}{v:Value}{xs:List Int}(h:Row w v xs):∃p c,v=.slice p xs.length c/\YI w p xs.length xs/\xs.length<=c/\(p=none->c=0):=by
 rcases h with ⟨rfl,rfl⟩ | ⟨g,o,cap,cur,rfl,hg,hc,hf,hx⟩
 ·exact⟨_,_,rfl,YI.nil _ _,az _,fun _=>rfl⟩
 ·refine⟨_,_,rfl,⟨rfl,fun _=>⟨g,o,rfl,fun i hi=>?_⟩⟩,hc,fun e=>by cases e⟩;rw[aq _ g (o+i) cur 52 (0,0) hg];exact hx i hi
theorem Row.lt{w:World}{v:Value}{xs:List Int}(h:Row w v xs){g:Nat}(hg:bC v=some g):g<w.heap.size:=by
 rcases h with ⟨rfl,rfl⟩ | ⟨g',o,cap,cur,rfl,hh,_⟩
 ·cases hg
 ·simp only[bC,aC] at hg;subst hg;exact (au.1 hh).1
theorem Row.Kn{w:World}{v:Value}{xs:List Int}(h:Row w v xs){g:Nat}(hg:bC v=some g):∃cur,w.heap[g]?=some (.cells cur 52 (0,0)):=by
 rcases h with ⟨rfl,rfl⟩ | ⟨g',o,cap,cur,rfl,hh,_⟩
 ·cases hg
 ·simp only[bC,aC] at hg;subst hg;exact⟨_,hh⟩
theorem Row.kept{w w':World}{v:Value}{xs:List Int}(h:Row w v xs)(hk:∀g,bC v=some g->w'.heap[g]?=w.heap[g]?):Row w' v xs:=by
 rcases h with ⟨rfl,rfl⟩ | ⟨g,o,cap,cur,rfl,hh,r⟩
 ·exact .inl ⟨rfl,rfl⟩
 ·exact .inr ⟨g,o,cap,cur,rfl,(hk g rfl).trans hh,r⟩
theorem Row.later{w w':World}{v:Value}{xs:List Int}(h:Row w v xs)(hb:Below w.heap.size w w'):Row w' v xs:=h.kept fun g hg=>hb.block g (h.lt hg)
theorem Row.mO{w w':World}{v:Value}{xs:List Int}{S:Nat->Prop}(h:Row w v xs)(hk:Kept S w w')(hS:∀g,bC v=some g->¬S g):Row w' v xs:=h.kept fun g hg=>hk.block g (h.lt hg) (hS g hg)
theorem Row.own{w:World}{base:Nat}{v:Value}{n:Nat}{xs:List Int}(h:w.ownsRow base 52 1 v n (Ky xs)):Row w v xs/\∀g,bC v=some g->base<=g:=by
 have hl:xs.length=n:=by have:=h.1;simpa [Ky] using this
 rcases h.2 with ⟨rfl,rfl⟩ | ⟨g,cap,cur,rfl,h1,hg,FX,MG,nV,uA⟩
 ·obtain rfl:xs=[]:=aZ hl;exact⟨.inl ⟨rfl,rfl⟩,fun g e=>by cases e⟩
 ·subst hl;refine⟨.inr ⟨g,0,cap,cur,rfl,hg,FX,by omega,fun i hi=>?_⟩,fun g' e=>?_⟩
  ·have:=h.cellAt i (by omega);rw[aq _ g i cur 52 (0,0) hg] at this;rw[aW,this];simp[Ky,List.getD,List.getElem?_eq_getElem hi]
  ·simp only[bC,aC] at e;subst e;exact h1
theorem Kept.setRow(w:World)(g:Nat)(cs:Array Value):Kept (·=g) w (w.setRow g cs):=⟨rfl,rfl,rfl,by simp[World.setRow],fun k _ hk=>iu w g k cs hk⟩
section
variable (w:World)
theorem xV{P:Program}(t ty e:TypeId)(i:TypeInfo)(ht:P.underlying t=some (.slice e))(hi:P.info? e=some i)(nV:i.size=1)
  (g off ud Fm:Nat) (cur:Array Value) (hg:w.heap[g]?=some (.cells cur e (0,0)))
  (a:Addr) (m c:Nat) (news:List Value) (hl:news.length=m) (nF:∀j u,news[j]?=some u->w.cell? (a.add j)=some u) (h1:∀u∈news,u.oneCell'=true)
  (oS:ud+m<=Fm) (rY:off+ud+news.length<=cur.size) :
  (Builtin.append_ #[t,t] ty #[.slice (some ⟨g,off,none⟩) ud Fm,.slice (some a) m c]).run P w =
   .ok (.slice (some ⟨g,off,none⟩) (ud+m) Fm) (w.setRow g (cur.toList.take (off+ud)++news++cur.toList.drop (off+ud+news.length)).toArray):=by
 have hf:=run_firstCells_some (P:=P) w 1 m a m c news (by omega) nF;have iU:=qP P g (off+ud) e news 0 cur w hg (by simpa using rY) h1;simp only[Nat.add_zero] at iU;simp[Builtin.append_,run_underlying ht,sizeOf,typeInfo,hi,nV,Builtin.lenOf,oS,hf,Addr.add_lit,iU]
theorem Bc(ty:TypeId)(v:Value)(xs:List Int)(rX:Row w v xs)(p:Option Addr)(m c:Nat)(ys:List Int)(hy:YI w p m ys)(hlen:xs.length+m<=100000) :
  ∃v' w',(Builtin.append_ #[209,209] ty #[v,.slice p m c]).run prog w=.ok v' w'/\Row w' v' (xs++ys)/\Kept (fun b=>bC v=some b) w w'/\(bC v'=bC v\/∃g,bC v'=some g/\w.heap.size<=g):=by
 obtain ⟨i0,hi,ij,gm,iL⟩:=cj ad5;have hml:(100000:Nat)<=maxLen:=by decide
 by_cases hm:m=0
 ·subst hm;obtain rfl:ys=[]:=aZ hy.len;obtain ⟨q,d,rfl,hq,hd,_⟩:=rX.form;refine⟨.slice q xs.length d,w,?_,by simpa using rX,Kept.refl _ _,.inl rfl⟩;have hfn:(Builtin.firstCells 1 0 (.slice p 0 c)).run prog w=.ok #[] w:=by
   cases p with
   | none=>exact run_firstCells_none w 1 0 0 c
   | some a=>exact run_firstCells_some (P:=prog) w 1 0 a 0 c [] rfl (fun j u h=>by simp at h)
  cases q <;> simp[Builtin.append_,run_underlying underlying209,sizeOf,typeInfo,hi,gm,Builtin.lenOf,hd,hfn,storeCells]
 ·obtain ⟨b,o,rfl,hcs⟩:=hy.cells (by omega);have hl:=hy.len;rcases rX with ⟨rfl,rfl⟩ | ⟨g,off,cap,cur,rfl,hg,yB,rY,hx⟩
  ·have dR:=cq w w.heap.size 52 1;obtain ⟨v',w',hr,h2,h3,_⟩:=run_append_own (P:=prog) w w.heap.size 209 ty 52 i0 (.int .u64 0) 1 8 underlying209 hi ij gm iL rfl (by decide) _ 0 [] dR ⟨b,o,none⟩ m c (Ky ys) (by simp[hl]) hy.news (Bu ys) (by simp at hlen;omega) (by simp at hlen;omega) (az _);have Cj:=Row.own (xs:=ys) (by simpa using h2);refine⟨v',w',hr,by simpa using Cj.1,⟨h3.os,h3.tape,h3.output,h3.size,fun k hk _=>h3.block k hk (by simp[Value.ownBlock])⟩,?_⟩;cases hb:bC v' with
   | none=>exact .inl rfl
   | some g=>exact .inr ⟨g,rfl,Cj.2 g hb⟩
  ·by_cases oS:xs.length+m<=cap
   ·have hr:=xV (P:=prog) w 209 ty 52 i0 underlying209 hi gm g off xs.length cap cur hg ⟨b,o,none⟩ m c (Ky ys) (by simp[hl]) hy.news (Bu ys) oS (by simp[hl];omega);refine⟨_,_,hr,.inr ⟨g,off,cap,_,by simp[hl],cK w g cur _ 52 _ hg,by simp[hl];omega,?_,?_⟩,(Kept.setRow w g _).wider (fun x _ e=>by subst e;rfl),.inl rfl⟩
    ·simp[hl];omega
    ·intro i Aj;have hi2:i<xs.length+m:=by simpa [hl] using Aj
     have eP:off+xs.length<=cur.toList.length:=by simp;omega
     simp only[dV];by_cases h1:i<xs.length
     ·rw[aS,cg (by simp;omega),fG,aE (by omega)];simp only[Array.getElem?_toList];rw[hx i h1];simp[List.getD,List.getElem?_append_left h1]
     ·rw[aS,aT (by simp;omega),cg (by simp[hl];omega)];simp only[cr,fX eP];rw[show off+i-(off+xs.length)=i-xs.length by omega];have h3:i-xs.length<ys.length:=by omega
      simp[List.getD,List.getElem?_append_right (Nat.le_of_not_lt h1),h3]
   ·have holds:∀j u,(Ky xs)[j]?=some u->w.cell? ((⟨g,off,none⟩:Addr).add j)=some u:=by
     have hI:YI w (some ⟨g,off,none⟩) xs.length xs:=⟨rfl,fun _=>⟨g,off,rfl,fun i hi=>by rw[aq _ g (off+i) cur 52 (0,0) hg];exact hx i hi⟩⟩
     exact hI.news
    obtain ⟨v',w',hr,h2,h3⟩:=run_append_arg_grows (P:=prog) w 209 ty 52 i0 (.int .u64 0) 1 8 underlying209 hi ij gm iL rfl (by decide) ⟨g,off,none⟩ xs.length cap (Ky xs) (by simp) holds ⟨b,o,none⟩ m c (Ky ys) (by simp[hl]) hy.news (by omega) (by omega) (by omega);have Cj:=Row.own (xs:=xs++ys) (by simpa using h2);refine⟨v',w',hr,Cj.1,⟨h3.os,h3.tape,h3.output,h3.size,fun k hk _=>h3.block k hk (by simp)⟩,?_⟩;cases hb:bC v' with
    | none =>
     obtain ⟨p',c',e,hI,_,hn⟩:=Cj.1.form;subst e;cases p' with
     | none=>obtain ⟨_,_,e,_⟩:=hI.cells (by simp[hl];omega);cases e
     | some a=>simp[bC] at hb
    | some g'=>exact .inr ⟨g',rfl,Cj.2 g' hb⟩
theorem vO{ops:Array Oper}{rest:List Oper}{o:Oper}{a:Act}{Q:Exit->Act->World->Prop}(jt:o.guard=none)(s x:Operand)
  (ho:o.op=.call { callee:=.builtin .append,args:=#[s,x],argTypes:=#[209,209] })
  (v:Value) (xs:List Int) (hs:a.eval s=v) (rX:Row w v xs) (p:Option Addr) (m c:Nat) (ys:List Int) (hx:a.eval x=.slice p m c) (hy:YI w p m ys) (hlen:xs.length+m<=100000)
  (h:∀v' w',Row w' v' (xs++ys)->Kept (fun b=>bC v=some b) w w'->(bC v'=bC v\/∃g,bC v'=some g/\w.heap.size<=g)->wpList prog ops Q rest (a.put o.dst v') w'):wpList prog ops Q (o :: rest) a w:=by
 refine iQ jt fun K hK=>?_;obtain ⟨v',w',hr,h2,h3,h4⟩:=Bc w o.type v xs rX p m c ys hy hlen;unfold Oper.wp;simp[execOp,ho,resolve,invoke,builtin,hs,hx,hr,Result.andThen];exact hK _ _ (h v' w' h2 h3 h4)
end
structure mS (ty:TypeId) (w:World) (Q:Nat) (v:Value) (xs:List Int) (m:Int):Prop where
 st:w.heap[Q]?=some (.cells #[v,.int .u64 m] ty (0,0))
 row:Row w v xs
variable {ty:TypeId} {w w':World} {Q:Nat} {v:Value} {xs:List Int} {m:Int}
theorem mS.lt(h:mS ty w Q v xs m):Q<w.heap.size:=(au.1 h.st).1
theorem mS.c0(h:mS ty w Q v xs m):w.cell? ⟨Q,0,none⟩=some v:=by rw[aq _ Q 0 _ ty (0,0) h.st];rfl
theorem mS.c1(h:mS ty w Q v xs m):w.cell? ⟨Q,1,none⟩=some (.int .u64 m):=by rw[aq _ Q 1 _ ty (0,0) h.st];rfl
theorem mS.ne(h:mS ty w Q v xs m)(ht:ty≠52){g:Nat}(hg:bC v=some g):g≠Q:=by
 obtain ⟨cur,hc⟩:=h.row.Kn hg;rintro rfl;rw[h.st] at hc;simp at hc;exact ht hc.2
theorem mS.mO{S:Nat->Prop}(h:mS ty w Q v xs m)(hk:Kept S w w')(hQ:¬S Q)(hS:∀g,bC v=some g->¬S g):mS ty w' Q v xs m:=⟨(hk.block Q h.lt hQ).trans h.st,h.row.mO hk hS⟩
theorem mS.later(h:mS ty w Q v xs m)(hb:Below w.heap.size w w'):mS ty w' Q v xs m:=⟨(hb.block Q h.lt).trans h.st,h.row.later hb⟩
theorem mS.adj(h:w.heap[Q]?=some (.cells #[v,.int .u64 m] ty (0,0))){v':Value}{ys:List Int}(hr:Row w v' ys)(kG:∀g,bC v'=some g->g≠Q):mS ty (w.setCell ⟨Q,0,none⟩ v') Q v' ys m:=by
 refine⟨?_,hr.mO (Kept.setCell Q 0 v') kG⟩;rw[bM w Q 0 _ ty (0,0) v' h];exact cK w Q _ _ ty _ h
theorem mS.akK(h:mS ty w Q v xs m)(ht:ty≠52)(t:Int):mS ty (w.setCell ⟨Q,1,none⟩ (.int .u64 t)) Q v xs t:=by
 refine⟨?_,h.row.mO (Kept.setCell Q 1 _) fun g hg=>h.ne ht hg⟩;rw[bM w Q 1 _ ty (0,0) _ h.st];exact cK w Q _ _ ty _ h.st
theorem mS.new(w:World)(ty:TypeId){v:Value}{xs:List Int}{m:Int}(hr:Row w v xs):mS ty (w.alloc (.cells #[v,.int .u64 m] ty)) w.heap.size v xs m:=⟨aG w _,hr.later (ag w _)⟩
abbrev qp (Q:Nat):Value:=.pointer (some ⟨Q,0,none⟩)
theorem adH(w:World)(t:Int):YI (w.alloc (.cells #[.int .u64 t] 52)) (some ⟨w.heap.size,0,none⟩) 1 [t]:=by
 refine⟨rfl,fun _=>⟨_,0,rfl,fun i hi=>?_⟩⟩;obtain rfl:i=0:=by omega
 rw[aq _ w.heap.size 0 _ 52 (0,0) (aG w _)];rfl
theorem Mk{w:World}{Q:Nat}{v:Value}{xs:List Int}{m:Int}(h:mS 211 w Q v xs m):Calls prog 200 #[qp Q] w fun e w'=>e=.returned (.int .i64 xs.length)/\w=w':=by
 obtain ⟨p,c,rfl,_,_⟩:=h.row.form;have c0:=h.c0;clear h;go_enter func200,ntmps200;go_wp2;go_ret;exact⟨rfl,rfl⟩
theorem MN{w:World}{Q:Nat}{v:Value}{x:Int}{xs:List Int}{m:Int}(h:mS 211 w Q v (x :: xs) m):Calls prog 155 #[qp Q] w fun e w'=>e=.returned (.tuple #[.int .u64 x,.bool true])/\w=w':=by
 have H:=zH h;obtain ⟨p,c,rfl,hI,_⟩:=h.row.form;obtain ⟨b,o,rfl,hc⟩:=hI.cells (by simp);have cx:w.cell? ⟨b,o,none⟩=some (.int .u64 x):=by have:=hc 0 (by simp);simpa using this
 have c0:=h.c0;have hz:(((x :: xs).length:Int) == 0)=false:=by simp;omega
 have hp:0<(x :: xs).length:=by simp
 clear h hc hI;generalize (x :: xs).length=n at *;go_enter func155,ntmps155;go_wp2_with (go_at_call 200;refine (Mk H.out).mono ?_;rintro e w' ⟨rfl,rfl⟩)
 go_ret2;exact⟨rfl,rfl⟩
theorem Row.shape{w:World}{v:Value}{xs:List Int}(h:Row w v xs):∃p n c,v=.slice p n c:=by
 obtain ⟨p,c,e,_⟩:=h.form;exact⟨_,_,_,e⟩
theorem AQ{P:Program}{ops:Array Oper}{o:Oper}{a:Act}{w:World}{K:Act->World->Prop}{Q:Exit->Act->World->Prop}{E:Prop}(jt:o.guard=none)(d s:Operand)(dT sT:TypeId)
  (ho:o.op=.call { callee:=.builtin .copy,args:=#[d,s],argTypes:=#[dT,sT] }) (elem:TypeId) (hu:P.underlying dT=some (.slice elem)) (nV:(P.info? elem).map (·.size)=some 1)
  (dp sp:Option Addr) (JK Xj ud Fm:Nat) (hd:a.eval d=.slice dp JK Xj) (hs:a.eval s=.slice sp ud Fm)
  (g off:Nat) (cur:Array Value) (t:TypeId) (hg:w.heap[g]?=some (.cells cur t (0,0))) (cs:List Value) (hn:cs.length=Nat.min ud JK)
  (yu:0<cs.length->dp=some ⟨g,off,none⟩/\∃ad,sp=some ad/\∀j v,cs[j]?=some v->w.cell? (ad.add j)=some v)
  (rY:off+cs.length<=cur.size) (h1:∀v∈cs,v.oneCell'=true)
  (h:∀w',Hid (w'.heap[g]?=some (.cells (cur.toList.take off++cs++cur.toList.drop (off+cs.length)).toArray t (0,0)))->Kept (·=g) w w'->K (a.put o.dst (goInt cs.length)) w') :
  if Region.wanted o (yielded ops a.tmps)=true then Oper.wp P o a w K Q else E:=by
 have hw:Region.wanted o (yielded ops a.tmps)=true:=by simp[Region.wanted,jt]
 rw[aE hw];by_cases h0:cs.length=0
 ·obtain rfl:cs=[]:=aZ h0;have dM:=run_copy_none (P:=P) w dT sT o.type elem dp sp JK Xj ud Fm hu nV (by simpa using hn.symm);unfold Oper.wp;simp[execOp,ho,resolve,invoke,builtin,hd,hs,dM,Result.andThen];exact h w (show _=_ by simpa using hg) (Kept.refl _ _)
 ·obtain ⟨rfl,ad,rfl,FU⟩:=yu (by omega);have dM:=run_copy_row (P:=P) w dT sT o.type elem g off JK Xj ad ud Fm cur t cs hu nV hg hn FU rY h1;unfold Oper.wp;simp[execOp,ho,resolve,invoke,builtin,hd,hs,dM,Result.andThen];exact h _ (show _=_ by simpa using cK w g _ _ t _ hg) (Kept.setRow _ _ _)
theorem Ri{w':World}{g o cap k:Nat}{cur:Array Value}{xs:List Int}(hk:k<xs.length)(yB:xs.length<=cap)(rY:o+cap<=cur.size)(hx:∀i,i<xs.length->cur[o+i]?=some (.int .u64 (xs.getD i 0)))
  (hg:w'.heap[g]?=some (.cells (cur.toList.take (o+1)++Ky (xs.take k)++cur.toList.drop (o+1+(Ky (xs.take k)).length)).toArray 52 (0,0))) :
  Row w' (.slice (some ⟨g,if cap=1 then o else o+1,none⟩) (xs.length-1) (cap-1)) (xs.eraseIdx k):=by
 have hl:(xs.eraseIdx k).length=xs.length-1:=List.length_eraseIdx_of_lt hk;have OT:(Ky (xs.take k)).length=k:=by simp;omega
 refine .inr ⟨g,_,cap-1,_,by rw[hl],hg,by omega,?_,?_⟩
 ·simp;split <;> omega
 ·intro i hi;have h1:¬cap=1:=by omega
  rw[aD h1,Vz];have eP:o+1<=cur.toList.length:=by simp;omega
  simp only[dV,aS];rw[aT (by simp;omega),cr,fX eP,show o+1+i-(o+1)=i by omega];by_cases Jj:i<k
  ·rw[aE Jj,cg (by omega)];simp[Jj,List.getD,List.getElem?_eq_getElem (show i<xs.length by omega)]
  ·rw[aD Jj,aT (by omega),OT,iH,Array.getElem?_toList,show o+1+k+(i-k)=o+(i+1) by omega];exact hx (i+1) (by omega)
theorem BN{w:World}{Q:Nat}{v:Value}{xs:List Int}{m:Int}(h:mS 211 w Q v xs m)(k:Nat)(hk:k<xs.length)(hn:xs.length<=100000) :
  Calls prog 156 #[qp Q,.int .i64 k] w fun e w'=>e=.returned (.tuple #[])/\∃v',mS 211 w' Q v' (xs.eraseIdx k) m/\bC v'=bC v/\Kept (fun b=>b=Q\/bC v=some b) w w':=by
 rcases h.row with ⟨rfl,rfl⟩ | ⟨g,o,cap,cur,rfl,hg,yB,rY,hx⟩
 ·simp at hk
 have H:=zH h;have HG:=zH hg;have HX:=zH hx;have HF:=zH rY;have hqn:Hid (g≠Q):=h.ne (by decide) rfl;have c0:=h.c0;have hk1:IntKind.i64.wrap ((k:Int)+1)=(k:Int)+1:=by rw[aY];omega
 have n1:(k:Int)+1<=(cap:Int):=by omega
 have n2:(1:Int)<=(k:Int)+1:=by omega
 have n3:(k:Int)<=(cap:Int):=by omega
 have n4:(1:Int)<=(xs.length:Int):=by omega
 have hks:=hk;clear h hg hx rY;go_enter func156,ntmps156;go_wp2_with fail;refine zR (fun w'=>w'.cell? ⟨Q,0,none⟩=some (.slice (some ⟨g,o,none⟩) xs.length cap)) c0 fun aa=>?_;have D2:Hid (Below w.heap.size w w.drew):=av 1;generalize w.drew=wd at *;refine gh 0 1 2 aa ?_;refine de 3 aa (fun _ fc=>fc) ?_;refine gu 4 5 6 7 aa ?_;refine fI 8 9 aa ?_;refine de 10 aa (fun _ fc=>fc) ?_;refine fI 11 12 aa ?_;refine ck (rs:=[13]) (by kernel_rfl) (by simp) ?_;refine bu (by simp;rfl) (fun Kc aJ=>?_) bO;have jt:wd.heap[g]?=some (.cells cur 52 (0,0)):=(D2.out.block g (H.out.row.lt rfl)).trans HG.out;have FU:∀j u,(Ky (xs.take k))[j]?=some u->wd.cell? ((⟨g,o,none⟩:Addr).add j)=some u:=by
  intro j u hj;have RC:j<k:=by have:=(aA.1 hj).1;simp at this;omega
  rw[Addr.add_lit,aq _ g _ cur 52 (0,0) jt,HX.out j (by omega),<-hj];simp[RC,List.getD,List.getElem?_eq_getElem (show j<xs.length by omega)]
 have OT:(Ky (xs.take k)).length=k:=by simp;omega
 refine AQ rfl (.tmp 10) (.tmp 16) 209 209 rfl 52 underlying209 KU _ _ k (cap-1) k cap rfl rfl g (o+1) cur 52 jt (Ky (xs.take k)) (by rw[OT];simp) (fun h0=>⟨aD (by omega),_,rfl,FU⟩) (by rw[OT];have:=HF.out;omega) (Bu _) ?_;intro w3 hg3 tU;have K3:=zH tU;have HR:=zH (Ri hk yB HF.out HX.out hg3.out);have HQ:Hid (w3.heap[Q]?=some (.cells #[.slice (some ⟨g,o,none⟩) xs.length cap,.int .u64 m] 211 (0,0))):=(tU.block Q (bN H.out.lt D2.out.size) (fun e=>hqn.out e.symm)).trans ((D2.out.block Q H.out.lt).trans H.out.st);have c3:w3.cell? ⟨Q,0,none⟩=some (.slice (some ⟨g,o,none⟩) xs.length cap):=by rw[aq _ Q 0 _ 211 (0,0) HQ.out];rfl
 have f3:w3.frozen? ⟨Q,0,none⟩=false:=by simp[World.frozen?,HQ.out]
 clear FU tU hg3 OT jt;refine aJ.out _ _ c3 (fun aa=>?_);clear aJ Kc aa c0;refine zD ?_;have HK:Hid (∀u,Kept (fun b=>b=Q\/g=b) w (w3.setCell ⟨Q,0,none⟩ u)):=fun u=>((Kept.bP (fun b=>b=Q\/g=b) D2.out).trans K3.out (fun x _ e=>.inr e.symm)).trans (Kept.setCell Q 0 u) (fun x _ e=>.inl e);by_cases Kt:cap=1
 ·have Gu:Hid (Row w3 (.slice (some ⟨g,o,none⟩) 0 0) (xs.eraseIdx k)):=by have:=HR.out;rw[aE Kt,Kt,show xs.length-1=0 by omega] at this;exact this
  subst Kt;clear HR;go_wp2_with fail
  go_end0
  exact⟨rfl,_,mS.adj HQ.out Gu.out (fun g' e=>by cases e;exact hqn.out),rfl,(HK.out _).wider fun x _ e=>On e fun e=>by rw[e];rfl⟩
 ·have Gu:Hid (Row w3 (.slice (some ⟨g,o+1,none⟩) (xs.length-1) (cap-1)) (xs.eraseIdx k)):=by have:=HR.out;rw[aD Kt] at this;exact this
  clear HR;go_wp2_with fail
  go_end0
  exact⟨rfl,_,mS.adj HQ.out Gu.out (fun g' e=>by cases e;exact hqn.out),rfl,(HK.out _).wider fun x _ e=>On e fun e=>by rw[e];rfl⟩
theorem Ij{w:World}{Q:Nat}{v:Value}{xs:List Int}{m:Int}(h:mS 211 w Q v xs m)(t:Int)(ht:¬t<=m)(hn:xs.length<100000) :
  Calls prog 86 #[qp Q,.int .u64 t] w fun e w'=>e=.returned (.int .i64 0)/\∃v',mS 211 w' Q v' (xs++[t]) t/\Kept (fun b=>b=Q\/bC v=some b) w w'/\(bC v'=bC v\/∃g,bC v'=some g/\w.heap.size<=g):=by
 have H:=zH h;have c0:=h.c0;have c1:=h.c1;have hd:=aF ht;clear h;go_enter func86,ntmps86;go_wp2_with (at_builtin;refine vO _ rfl (.tmp 17) (.tmp 19) rfl v xs rfl (H.out.row.later (ag w _)) (some ⟨w.heap.size,0,none⟩) 1 1 [t] rfl (adH w t) (by omega) ?_;intro v2 w2 r2 k2 b2;obtain ⟨p2,n2,cc2,uT⟩:=r2.shape;have R2:=zH r2;have K2:=zH k2;have B2:=zH b2;have HQ:Hid (w2.heap[Q]?=some (.cells #[v,.int .u64 m] 211 (0,0))):=(k2.block Q (by have:=H.out.lt;simp;omega) (fun e=>H.out.ne (by decide) e rfl)).trans (((ag w (.cells #[.int .u64 t] 52)).block Q H.out.lt).trans H.out.st);have f2:w2.frozen? ⟨Q,0,none⟩=false:=(by simp[World.frozen?,HQ.out]);have c2:w2.cell? ⟨Q,0,none⟩=some v:=(by rw[aq _ Q 0 _ 211 (0,0) HQ.out];rfl);have f3:w2.frozen? ⟨Q,1,none⟩=false:=(by simp[World.frozen?,HQ.out]);have c3:w2.cell? ⟨Q,1,none⟩=some (.int .u64 m):=(by rw[aq _ Q 1 _ 211 (0,0) HQ.out];rfl);clear r2 k2 b2;subst uT)
 go_ret;have kG:∀g,bC (.slice p2 n2 cc2)=some g->g≠Q:=fun g hg=>by
  have hl:=H.out.lt;rcases B2.out with e | ⟨g',e,EK⟩
  ·rw[e] at hg;exact H.out.ne (by decide) hg
  ·rw[e] at hg;simp at hg EK;omega
 have h1:=mS.akK (mS.adj HQ.out R2.out kG) (by decide) t;refine⟨rfl,_,h1,?_,?_⟩
 ·refine (((Kept.bP (fun b=>b=Q\/bC v=some b) (ag w (.cells #[.int .u64 t] 52))).trans K2.out (fun x _ e=>.inr e)).trans (Kept.setCell Q 0 _) (fun x _ e=>.inl e)).trans (Kept.setCell Q 1 _) (fun x _ e=>.inl e)
 ·rcases B2.out with e | ⟨g',e,EK⟩
  ·exact .inl e
  ·exact .inr ⟨g',e,by simp at EK;omega⟩
open Go.Shelf
attribute [local go_sem] Oper.semAt_some
abbrev uH (B:Nat):Value:=.func (.func 221) #[] #[.pointer (some ⟨B,0,none⟩)]
theorem Gs(p:Option Addr)(w:World) :
  Calls prog 199 #[.pointer p] w fun e w'=>e=.returned (uH w.heap.size)/\w'=w.alloc (.cells #[.pointer p] 111):=by
 go_enter func199,ntmps199;go_wp2;go_ret;exact⟨rfl,rfl⟩
theorem PN(F:Fence)(n:Nat)(h7:F.fn 221)(vJ:F.round=none)(hn:1<=n)(l B Q fJ b off len cap:Nat)(zs:List Int)(OJ:zs.length=len)(i_:len<=17592186044416)(hb:b<fJ)(J Jx:List Int->World->Prop)
  (hY:∀pre x W,x∈zs->J pre W->pre.length<len->YieldAt F (n-1) prog l #[.int .u64 x] W fun e W' =>
   (e=.returned (.bool true)/\J (pre++[x]) W'/\Below fJ W W')\/(e=.returned (.bool false)/\Jx (pre++[x]) W'))
  (W:World) (hB:W.cell? ⟨B,0,none⟩=some (.pointer (some ⟨Q,0,none⟩))) (hQ:W.cell? ⟨Q,0,none⟩=some (.slice (some ⟨b,off,none⟩) len cap)) (hc:∀j,j<len->W.cell? ⟨b,off+j,none⟩=some (.int .u64 (zs.getD j 0))) (h0:J [] W) :
  CallsIn F n prog 221 #[.func (.yield l) #[] #[],.pointer (some ⟨B,0,none⟩)] W fun e W'=>(∃v,e=.returned v) /\
   ((∃ys,ys=zs/\J ys W')\/(∃pre,pre <+: zs/\Jx pre W')):=by
 refine jx func221 rfl h7 ?_ vJ;simp only[ntmps221,aM,bz,dH,Nat.reduceAdd,Nat.reduceSub,dw,dn,dS,dF,bF,ct];gi_wp2
 gi_loopw [12] (fun i wr=>∃k:Nat,k<=len/\i=.int .i64 k/\J (upto zs k) wr/\Below fJ W wr)
  (fun i _=>len-(intOf i).toNat)
 case atStart=>exact⟨0,aI _,rfl,h0,aV _ _⟩
 case round =>
  obtain ⟨k,hk,rfl,Ak,hnx⟩:=hrel;have hcx:k<len->wr.cell? ⟨b,off+k,none⟩=some (.int .u64 (zs.getD k 0)):=fun h=>(hnx.cell (p:=⟨b,off+k,none⟩) hb).trans (hc k h);by_cases eP:k<len
  ·obtain ⟨fn,tmps,assign,body,hy,hR⟩:=hY _ (zs.getD k 0) wr (by rw[List.getD,ay (by omega)];exact eA _) Ak (by rw[yP];exact eP);have al1:=hcx eP;have HS:=zH (DB zs k);have HP:Hid (upto zs (k+1) <+: zs):=by show _ <+: _;rw[DA zs _ (by omega)];exact List.take_prefix _ _
   clear hcx hc;generalize zs.getD k 0=x at *;gi_wp2;refine hR.mono ?_;rintro e W3 (⟨rfl,Tl,tU⟩ | ⟨rfl,zy⟩)
   ·gi_wp2;go_roundw
    case rel=>exact⟨k+1,by omega,by simp,by rw[HS.out];exact Tl,hnx.trans tU⟩
    case measure=>simp[intOf];omega
   ·gi_wp2;refine cC (kF rfl _ _ _) rfl ?_;exact⟨⟨_,rfl⟩,.inr ⟨_,by rw[<-HS.out];exact HP.out,zy⟩⟩
  ·obtain rfl:k=len:=by omega
   gi_wp2
   go_end0
   exact⟨⟨_,rfl⟩,.inl ⟨_,by rw[<-OJ];exact AL zs,Ak⟩⟩
theorem xj(F:Fence)(n:Nat)(h7:F.fn 221)(vJ:F.round=none)(l B Q:Nat)(p:Option Addr)(cap:Nat)(J:List Int->World->Prop)(W:World)(hB:W.cell? ⟨B,0,none⟩=some (.pointer (some ⟨Q,0,none⟩)))(hQ:W.cell? ⟨Q,0,none⟩=some (.slice p 0 cap))(h0:J [] W) :
  CallsIn F n prog 221 #[.func (.yield l) #[] #[],.pointer (some ⟨B,0,none⟩)] W fun e W'=>(∃v,e=.returned v)/\J [] W':=by
 refine jx func221 rfl h7 ?_ vJ;simp only[ntmps221,aM,bz,dH,Nat.reduceAdd,Nat.reduceSub,dw,dn,dS,dF,bF,ct];gi_wp2
 gi_loopw [12] (fun i wr=>i=.int .i64 0/\J [] wr) (fun _ _=>0)
 case atStart=>exact⟨rfl,h0⟩
 case round =>
  obtain ⟨rfl,Ak⟩:=hrel;gi_wp2
  go_end0
  exact⟨⟨_,rfl⟩,Ak⟩
theorem tD(F:Fence)(n:Nat)(h7:F.fn 221)(vJ:F.round=none)(l B:Nat)(J:List Int->World->Prop)(W:World)(hB:W.cell? ⟨B,0,none⟩=some (.pointer none))(h0:J [] W) :
  CallsIn F n prog 221 #[.func (.yield l) #[] #[],.pointer (some ⟨B,0,none⟩)] W fun e W'=>(∃v,e=.returned v)/\J [] W':=by
 refine jx func221 rfl h7 ?_ vJ;simp only[ntmps221,aM,bz,dH,Nat.reduceAdd,Nat.reduceSub,dw,dn,dS,dF,bF,ct];gi_wp2;refine cC (kF rfl _ _ _) rfl ?_;exact⟨⟨_,rfl⟩,h0⟩
def oZ (w:World)(p:Option Addr)(zs:List Int):Prop:=(p=none/\zs=[])\/∃Q v m,p=some ⟨Q,0,none⟩/\mS 211 w Q v zs m
theorem oZ.later{w w':World}{p:Option Addr}{zs:List Int}(h:oZ w p zs)(hb:Below w.heap.size w w'):oZ w' p zs:=by
 rcases h with h | ⟨Q,v,m,rfl,h⟩
 ·exact .inl h
 ·exact .inr ⟨Q,v,m,rfl,h.later hb⟩
theorem Sw(F:Fence)(n:Nat)(h7:F.fn 221)(vJ:F.round=none)(hn:1<=n)(B fJ:Nat)(p:Option Addr)(zs:List Int)(i_:zs.length<=100000)(w iN:World)(hB:B<w.heap.size)(sY:fJ<=w.heap.size)(BV:Below fJ iN w)(BU:iN.heap.size=fJ)
  (hc:w.cell? ⟨B,0,none⟩=some (.pointer p)) (hS:oZ iN p zs) :
  SeqStopsK F n prog 221 #[.pointer (some ⟨B,0,none⟩)] (fun x:Int=>#[Value.int .u64 x]) (Below fJ) (fun ys=>ys=zs) (fun pre=>pre <+: zs) zs.length w:=fun l J Jx W hW _ _ hY h0=>by
 have MH:=(hW.cell (p:=⟨B,0,none⟩) hB).trans hc;subst BU;have yD:Below iN.heap.size iN W:=BV.trans (hW.mono sY);rcases hS.later yD with ⟨rfl,rfl⟩ | ⟨Q,v,m,rfl,hQ⟩
 ·exact (tD F n h7 vJ l B J W MH h0).mono fun e W' ⟨he,hj⟩=>⟨he,.inl ⟨_,rfl,hj⟩⟩
 have eP:∀g,bC v=some g->g<iN.heap.size:=by
  rcases hS with ⟨h,_⟩ | ⟨Q',v',m',e,hQ'⟩
  ·cases h
  ·simp only[aC,d_,gJ] at e;subst e;intro g hg;have e2:=(yD.block Q hQ'.lt).trans hQ'.st;rw[hQ.st] at e2;simp at e2;rw[e2.1] at hg;exact hQ'.row.lt hg
 obtain ⟨q,c,rfl,hI,_⟩:=hQ.row.form;by_cases hp:0<zs.length
 ·obtain ⟨b,off,rfl,hcs⟩:=hI.cells hp;exact PN F n h7 vJ hn l B Q iN.heap.size b off zs.length c zs rfl (by omega) (eP b rfl) J Jx (fun pre x W _=>hY pre x W) W MH hQ.c0 hcs h0
 ·obtain rfl:zs=[]:=aZ (by omega);exact (xj F n h7 vJ l B Q q c J W MH hQ.c0 h0).mono fun e W' ⟨he,hj⟩=>⟨he,.inl ⟨_,rfl,hj⟩⟩
end Go.Proofs.Zq.E
namespace Go.Proofs.Zq.E
open Go.Proofs.Tryz
open Go.RowKit Go.Shelf
attribute [local go_sem] Oper.semAt_some
theorem pM{fn:Func}{p:Tmp}{ty:TypeId}{d:TypeDesc}(h:fn.results=#[.cell p ty])(hu:prog.underlying ty=some d)(hd:d.isRow=false)(tmps:Array Value)(w:World)(g:Nat)(v:Value)
  (hp:tmps.getD p undef=.pointer (some ⟨g,0,none⟩)) (hc:w.cell? ⟨g,0,none⟩=some v):(results fn tmps).run prog w=.ok v w:=by
 have hp':tmps[p]?.getD undef=.pointer (some ⟨g,0,none⟩):=by simpa using hp
 have aeE:(isAgg ty).run prog w=.ok false w:=by
  unfold isAgg;rw[aU,run_underlying hu w];cases d <;> simp_all
 simp[results,h,hp',asAddr,loadVar,Sem.run_bind,aeE,go_sem,hc]
theorem QX(p:Option Addr)(t:Int)(zs:List Int)(w:World)(hS:oZ w p zs)(hn:zs.length<=100000) :
  Calls prog 205 #[.pointer p,.int .u64 t] w fun e' w'=>e'=.returned (.int .i64 (place zs t))/\Below w.heap.size w w':=by
 refine (iR (n:=9)).1 ?_;refine callsIn_of_wp_marks func205 rfl trivial ?_ rfl;simp only[ntmps205,aM,bz,dH,Nat.reduceAdd,Nat.reduceSub,dw,dn,dS,dF,bF,ct];gi_wp2_with (first | (refine⟨trivial,?_⟩;gi_at_call 199;refine (iR.2 (Gs _ _)).mono ?_;rintro e w' ⟨rfl,rfl⟩))
 have bT:=(((Boxed.new w 52 (.int .u64 t)).alloc (.cells #[.int .i64 0] 3)).alloc (.cells #[.int .i64 0] 3)).alloc (.cells #[.pointer p] 111);have bR:=((Boxed.new (w.alloc (.cells #[.int .u64 t] 52)) 3 (.int .i64 0)).alloc (.cells #[.int .i64 0] 3)).alloc (.cells #[.pointer p] 111);have bA:=(Boxed.new ((w.alloc (.cells #[.int .u64 t] 52)).alloc (.cells #[.int .i64 0] 3)) 3 (.int .i64 0)).alloc (.cells #[.pointer p] 111);have bB:=Boxed.new (((w.alloc (.cells #[.int .u64 t] 52)).alloc (.cells #[.int .i64 0] 3)).alloc (.cells #[.int .i64 0] 3)) 111 (.pointer p);simp only[a_] at bT bR bA bB;have Tn:Below w.heap.size w ((((w.alloc (.cells #[.int .u64 t] 52)).alloc (.cells #[.int .i64 0] 3)).alloc (.cells #[.int .i64 0] 3)).alloc (.cells #[.pointer p] 111)):=((((aV _ w).alloc (az _) _).alloc (by simp) _).alloc (by simp;omega) _).alloc (by simp;omega) _;have nV:((((w.alloc (.cells #[.int .u64 t] 52)).alloc (.cells #[.int .i64 0] 3)).alloc (.cells #[.int .i64 0] 3)).alloc (.cells #[.pointer p] 111)).heap.size=w.heap.size+4:=by simp
 obtain ⟨W0,RH⟩:=zE (((((w.alloc (.cells #[.int .u64 t] 52)).alloc (.cells #[.int .i64 0] 3)).alloc (.cells #[.int .i64 0] 3)).alloc (.cells #[.pointer p] 111)));rw[RH] at bT bR bA bB Tn nV ⊢;clear RH;refine wpIn_rangeFunc_ownG (F:=Fence.wide) (n:=9) (P:=prog) rfl (by decide) (gf:=221) (lb:=#[.pointer (some ⟨w.heap.size+1+1+1,0,none⟩)]) rfl trivial (enters_of func221 (by kernel_rfl) rfl)
  (Sw Fence.wide (9-1) trivial rfl (by decide) (w.heap.size+1+1+1) w.heap.size p zs hn W0 w (by omega) (by omega) Tn rfl bB.cell hS) belowK_t (belowK_b (by omega)) (aV _ _) (fun _=>rfl)
  (fun pre W=>(((t ∉ pre)/\(∃y:Value,Boxed W (w.heap.size+1) 3 y))/\(Boxed W w.heap.size 52 (.int .u64 t)/\Boxed W (w.heap.size+1+1) 3 (.int .i64 pre.length)))/\Below w.heap.size w W)
  (fun c pre W=>((c=.ret)/\(∃(C_:List Int),(pre=C_ ++ [t]/\t ∉ C_)/\Boxed W (w.heap.size+1) 3 (.int .i64 C_.length)))/\Below w.heap.size w W)
  (OwnFrom.and (OwnFrom.and (OwnFrom.and (ownFrom_pure _ _) (fun _ X Y row hs hg hr=>by obtain ⟨y,hy⟩:=hs;exact⟨y,boxed_own (w.heap.size+1) 3 (fun (_:Unit)=>y) () X Y row hy hg (fun r e=>(hr r e).2)⟩)) (OwnFrom.and (Own.from (boxed_own _ _ _) _) (Own.from (boxed_own (w.heap.size+1+1) 3 (fun pre:List Int=>Value.int .i64 pre.length)) _))) (ownFrom_below (az _) (by omega)))
  (fun c=>OwnFrom.and (OwnFrom.and (ownFrom_pure _ _) (fun _ X Y row hs hg hr=>by obtain ⟨C_,hp,hy⟩:=hs;exact⟨C_,hp,boxed_own (w.heap.size+1) 3 (fun (_:Unit)=>Value.int .i64 C_.length) () X Y row hy hg (fun r e=>(hr r e).2)⟩)) (ownFrom_below (az _) (by omega)))
  ⟨⟨⟨by simp,_,bR⟩,bT,bA⟩,Tn⟩
  (fun x=>{ tmps:=#[.pointer p,.int .u64 t,undef,.pointer (some ⟨w.heap.size,0,none⟩),.pointer (some ⟨w.heap.size+1,0,none⟩),.pointer (some ⟨w.heap.size+1+1,0,none⟩),.int .u64 x,.pointer p,uH (w.heap.size+1+1+1),.int .u64 x,undef,undef,undef,undef,undef,undef],defers:=[] }) ?assign ?body ?done ?stop
 case assign =>
  intro l x W K hK;gi_wp2;exact hK
 case body =>
  rintro l pre x W ⟨⟨⟨hp,y,hy⟩,bT1,bA1⟩,hB1⟩ eP;have cT:=bT1.cell;have cA:=bA1.cell;have fA:=bA1.frozen;have cR:=hy.cell;have fR:=hy.frozen;have arl:pre.length<100000:=by omega
  cases hz:(x == t)
  ·have HP:Hid (t ∉ pre++[x]):=fun h=>(bH.1 h).elim hp (fun e=>by simp at e;subst e;simp at hz);have hw:IntKind.i64.wrap ((pre.length:Int)+1)=(pre.length:Int)+1:=by rw[aY];omega
   clear hp;gi_wp2;refine⟨(KeepsOthers.setCell _ _ _).from _,(aV _ _).setCell (p:=⟨w.heap.size+1+1,0,none⟩) (by simp;omega) _,⟨⟨HP.out,_,hy.other (by omega) _⟩,bT1.other (by omega) _,?_⟩,hB1.setCell (p:=⟨w.heap.size+1+1,0,none⟩) (by simp;omega) _⟩;have:=bA1.set (.int .i64 ((pre.length:Int)+1));simpa using this
  ·obtain rfl:x=t:=by simpa using hz
   have HP:=zH hp;clear hp;gi_wp2;exact⟨(KeepsOthers.setCell _ _ _).from _,⟨rfl,pre,⟨rfl,HP.out⟩,hy.set _⟩,hB1.setCell (p:=⟨w.heap.size+1,0,none⟩) (by simp) _⟩
 case done =>
  rintro D ys W hD YF ⟨⟨⟨hp,y,hy⟩,bT1,bA1⟩,hB1⟩ hK;subst YF;have HP:=zH hp;clear hp;have cR:=hy.cell;have fR:=hy.frozen;gi_wp2;have hK2:(W.setCell ⟨w.heap.size+1,0,none⟩ (.int .i64 (-1))).heap[D]?=some (.deferred (some [])):=(Below.heap_setCell _ _ _ _ (by show D≠w.heap.size+1;omega)).trans hK;refine⟨by simp,.inl ⟨_,_,rfl,run_takeDeferred hK2,?_⟩⟩;have b2:Boxed ((W.setCell ⟨w.heap.size+1,0,none⟩ (.int .i64 (-1))).putObj D (.deferred none)) (w.heap.size+1) 3 (.int .i64 (-1)):=(World.putObj_heap_other (by omega)).trans (hy.set _);refine⟨_,pM rfl fe rfl _ _ (w.heap.size+1) _ rfl b2.cell,by rw[QW HP.out],(hB1.setCell (p:=⟨w.heap.size+1,0,none⟩) (by simp) _).trans (belowK_b (w:=w) (az _) _ D _ _ (by omega) hK2 rfl rfl)⟩
 case stop =>
  rintro D c pre W hD yt ⟨⟨rfl,C_,⟨rfl,hx⟩,bX⟩,hB1⟩ hK;obtain ⟨zx,hix⟩:=Rs C_ t zs hx yt;have HX:Hid (place zs t=C_.length):=by show _=_;rw[Iq zx,hix]
  gi_wp2;refine⟨by simp,.inl ⟨_,_,rfl,run_takeDeferred hK,?_⟩⟩;have b2:Boxed (W.putObj D (.deferred none)) (w.heap.size+1) 3 (.int .i64 C_.length):=(World.putObj_heap_other (by omega)).trans bX;exact⟨_,pM rfl fe rfl _ _ (w.heap.size+1) _ rfl b2.cell,by rw[HX.out],hB1.trans (belowK_b (w:=w) (az _) W D _ _ (by omega) hK rfl rfl)⟩
end Go.Proofs.Zq.E
namespace Go.Proofs.Zq.E
open Go.Proofs.Tryz
open Go.RowKit
theorem PX{w:World}{Q:Nat}{v:Value}{x:Int}{xs:List Int}{m:Int}(h:mS 211 w Q v (x :: xs) m)(hn:(x :: xs).length<=100000) :
  Calls prog 91 #[qp Q] w fun e w'=>e=.returned (.tuple #[.int .u64 x,.bool true])/\∃v',mS 211 w' Q v' xs m/\bC v'=bC v/\Kept (fun b=>b=Q\/bC v=some b) w w':=by
 have H:=zH h;have HN:=zH hn;clear h hn;go_enter func91,ntmps91;go_wp2_with (first | (go_at_call 155;refine (MN H.out).mono ?_;rintro e w' ⟨rfl,rfl⟩) | (go_at_call 156;refine (BN H.out 0 (by simp) HN.out).mono ?_;rintro e w' ⟨rfl,v',h1,h2,h3⟩;have R1:=Av h1 h2 h3;clear h1 h2 h3))
 go_ret2;exact⟨rfl,v',R1.out⟩
theorem aaW{w:World}{Q:Nat}{v:Value}{xs:List Int}{m:Int}(h:mS 211 w Q v xs m)(t:Int)(ht:t∈xs)(hn:xs.length<=100000) :
  Calls prog 162 #[qp Q,.int .u64 t] w fun e w'=>e=.returned (.int .i64 0)/\∃v',mS 211 w' Q v' (xs.erase t) m/\bC v'=bC v/\Kept (fun b=>b=Q\/bC v=some b) w w':=by
 have HP:=zH (Iq ht);have hk:=List.idxOf_lt_length_of_mem ht;have H:=zH h;have HE:=zH (RQ xs t);clear h ht;generalize xs.idxOf t=k at *;have hk1:((k:Int) == -1)=false:=by rw[gp];omega
 go_enter func162,ntmps162;go_wp2_with (first | (go_at_call 205;refine (QX _ t xs w (.inr ⟨Q,v,m,rfl,H.out⟩) hn).mono ?_;rw[HP.out];rintro e w1 ⟨rfl,hb⟩;have HB:=zH hb;clear hb) | (go_at_call 156;refine (BN (H.out.later HB.out) k hk hn).mono ?_;rintro e w' ⟨rfl,v',h1,h2,h3⟩;have R1:=Av h1 h2 h3;clear h1 h2 h3))
 go_ret;exact⟨rfl,v',by rw[<-HE.out];exact R1.out.1,R1.out.2.1,(Kept.bP _ HB.out).trans R1.out.2.2 fun _ _ e=>e⟩
