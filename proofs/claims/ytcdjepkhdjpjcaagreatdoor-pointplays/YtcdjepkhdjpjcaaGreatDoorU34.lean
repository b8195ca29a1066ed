import Derived.Test.YtcdjepkhdjpjcaaGreatDoorU33
set_option maxHeartbeats 20000000
set_option maxRecDepth 100000
namespace Go.Proofs.Zq.Q
open Go.Proofs.Tryz
open Go.RowKit
open Go.ChangeShapes Go.WideShapes Go.ChangeAt Go.Deep
theorem OD:laidOutB prog=true:=by kernel_rfl
theorem aa8:prog.cellsOf 5=1:=by kernel_rfl
theorem Pu:prog.cellsOf 51=32:=by kernel_rfl
theorem Xq:prog.cellsOf 23=5:=by kernel_rfl
theorem Pv:prog.cellsOf 81=5:=by kernel_rfl
theorem aa9:prog.cellsOf 59=1:=by kernel_rfl
theorem aa7:prog.cellsOf 79=1:=by kernel_rfl
theorem ae2:prog.cellsOf 4=1:=by kernel_rfl
theorem ae5:prog.bytesOf 3=8:=by kernel_rfl
theorem ae4:prog.bytesOf 51=32:=by kernel_rfl
theorem abd:prog.bytesOf 81=72:=by kernel_rfl
theorem Hl{H:Type}{enc:TypeId × Value->H}{W:World}{t e:TypeId}{k:Nat}{c:Value}{y:DataW H × List MemPlace}(ht:prog.underlying t=some (.slice e))(h:DataW.trod enc prog W 0 (fun _=>true) true k t [c]=some y) :
  ∃a l cp,c=.slice a l cp:=by
 rcases open_slice ht h with ⟨h0,_⟩ | ⟨a,len,cap,_,_,_,_,h0,_⟩
 ·simp only[lX,gJ] at h0;exact⟨_,_,_,h0⟩
 ·simp only[lX,gJ] at h0;exact⟨_,_,_,h0⟩
theorem su{H:Type}{P:Program}{e:TypeId}:∀{l:List (DataW H)} {d:DataW H},d∈l->∀n∈d.weights P e,n∈DataW.weightsAll P e l
 | x :: r,d,hd,n,hn=>by
  simp only[DataW.weightsAll,bH];rcases bZ.1 hd with rfl | hd
  ·exact .inl hn
  ·exact .inr (su hd n hn)
 | [],_,hd,_,_=>by cases hd
def numOf:Value->Int | .int _ n=>n | _=>0
theorem ZR{H:Type}{enc:TypeId × Value->H}{W:World}{cs:List Value}{n:Nat}{y:DataW H × List MemPlace}(h:DataW.trod enc prog W 0 (fun _=>true) true n 51 cs=some y) :
  ∃xs,cs=U8 xs/\xs.length=32/\Bytes xs:=by
 obtain ⟨ys,m,_,_,hl,hyl,hf⟩:=DataW.trod_array gw h;rw[Pu] at hl;have hg:∀i,i<32->∃x,cs[i]?=some (.int .u8 x)/\0<=x/\x<=255:=by
  intro i hi;have g:=hf i hi;rw[aa8,mU,ay (by omega)] at g;obtain ⟨x,e,_,hw⟩:=iz underlying5 g;exact⟨x,drop_one _ _ _ e,bounds_u8 hw⟩
 refine⟨cs.map numOf,?_,by simp[hl],?_⟩
 ·apply mH;intro i;by_cases hi:i<32
  ·obtain ⟨x,e,_⟩:=hg i hi;simp[e,numOf]
  ·rw[cS (by omega),cS (by simp;omega)]
 ·intro x hx;obtain ⟨v,hv,rfl⟩:=cF.1 hx;obtain ⟨i,hi,rfl⟩:=fL hv;obtain ⟨x,e,h0,h1⟩:=hg i (by omega);rw[ay hi] at e;have:=iY e;rw[this];simp only[numOf];omega
theorem ZS{H:Type}{enc:TypeId × Value->H}{W:World}{l:List Value}{n:Nat}{y:DataW H × List MemPlace}(h:DataW.trod enc prog W 0 (fun _=>true) true n 23 l=some y) :
  ∃a0 a1 a2 a3 a4:Int,l[0]?=some (.int .i64 a0)/\l[1]?=some (.int .i64 a1)/\l[2]?=some (.int .i64 a2)/\l[3]?=some (.int .i64 a3)/\l[4]?=some (.int .i64 a4)/\True:=by
 obtain ⟨xs,k,_,hy,_,hxl,hg⟩:=DataW.trod_struct underlying23 h;have aqO:xs.length=5:=hxl;have g0:DataW.trod enc prog W 0 (fun _=>true) true k 3 ((l.drop 0).take (prog.cellsOf 3))=xs[0]?:=hg 0 _ rfl;have g1:DataW.trod enc prog W 0 (fun _=>true) true k 3 ((l.drop 1).take (prog.cellsOf 3))=xs[1]?:=hg 1 _ rfl;have g2:DataW.trod enc prog W 0 (fun _=>true) true k 3 ((l.drop 2).take (prog.cellsOf 3))=xs[2]?:=hg 2 _ rfl;have g3:DataW.trod enc prog W 0 (fun _=>true) true k 3 ((l.drop 3).take (prog.cellsOf 3))=xs[3]?:=hg 3 _ rfl;have g4:DataW.trod enc prog W 0 (fun _=>true) true k 3 ((l.drop 4).take (prog.cellsOf 3))=xs[4]?:=hg 4 _ rfl;rw[Gk,ay (by omega)] at g0 g1 g2 g3 g4;obtain ⟨a0,e0,_,_⟩:=iz fe g0;obtain ⟨a1,e1,_,_⟩:=iz fe g1;obtain ⟨a2,e2,_,_⟩:=iz fe g2;obtain ⟨a3,e3,_,_⟩:=iz fe g3;obtain ⟨a4,e4,_,_⟩:=iz fe g4;exact⟨a0,a1,a2,a3,a4,drop_one _ _ _ e0,drop_one _ _ _ e1,drop_one _ _ _ e2,drop_one _ _ _ e3,drop_one _ _ _ e4,trivial⟩
theorem Eo{H:Type}{enc:TypeId × Value->H}{W:World}{cs:Array Value}{d:DataW H}{p:List MemPlace}(hn:cs.size=5)(h:DataW.Trod enc prog W 0 (fun _=>true) true 23 (.agg cs) d p) :
  ∃s:fN,cs=(aN s).toArray:=by
 obtain ⟨fuel,hf⟩:=h;obtain ⟨l⟩:=cs;have hl:l.length=5:=by simpa using hn
 have hf':DataW.trod enc prog W 0 (fun _=>true) true fuel 23 l=some (d,p):=by simpa [Value.cells] using hf
 obtain ⟨a0,a1,a2,a3,a4,f0,f1,f2,f3,f4,-⟩:=ZS hf';refine⟨⟨a0,a1,a2,a3,a4,0,0⟩,?_⟩
 congr 1
 apply mH;intro i
 match i with
 | 0=>exact f0
 | 1=>exact f1
 | 2=>exact f2
 | 3=>exact f3
 | 4=>exact f4
 | j+5=>rw[cS (by omega),cS (by rw[kz];omega)]
theorem Vg{H:Type}{enc:TypeId × Value->H}{W:World}{fuel:Nat}{a:Option Addr}{len cap:Nat}{y:DataW H × List MemPlace}(hf:DataW.trod enc prog W 0 (fun _=>true) true fuel 59 [.slice a len cap]=some y)(hw:∀k∈y.1.weights prog 59,k<=reachBytes) :
  ∃l,E.B.pZ W a len l/\len+80<=17592186044416:=by
 rcases open_slice mG hf with ⟨hcs,_⟩ | ⟨x,l,c,m,n,D,Pl,hcs,_,hl,hm,Kr,hx,hcell⟩
 ·simp only[lX,cE,gJ] at hcs;obtain ⟨rfl,rfl,rfl⟩:=hcs;exact⟨[],⟨rfl,fun h=>absurd h (gB 0)⟩,by omega⟩
 ·simp only[lX,cE,gJ] at hcs;obtain ⟨rfl,rfl,rfl⟩:=hcs;rw[Gk] at hcell;have hlm:len<=m:=by rw[Kr];simpa using hl
  have nV:len*8<=140737488351232:=by
   have:=hw (cap*8) (by
    rw[hx];simp only[DataW.weights,mG,bZ];left;rw[ae5];simp[Kr];omega)
   simp only[reachBytes] at this;omega
  have each:∀i,i<len->∃t:Int,W.cell? (x.add i)=some (.int .i64 t):=by
   intro i hi;obtain ⟨cs',h1,h2⟩:=hcell i (by omega);obtain ⟨t,rfl,-,-⟩:=iz fe h2;have hs:=(World.cells?_some h1).2.2 0 (by omega);refine⟨t,?_⟩;rw[mU] at hs;have e:(x.add i).add 0=x.add i:=by obtain ⟨b,o,s⟩:=x;simp[Addr.add]
   rw[e] at hs;exact hs
  refine⟨(List.range len).map fun i=>if h:i<len then (each i h).choose else 0,⟨by simp,fun h0=>?_⟩,by omega⟩;obtain ⟨b,o,s⟩:=x;have rZ:=(each 0 h0).choose_spec;obtain rfl:s=none:=by simpa [Addr.add] using World.cell?_spot rZ
  refine⟨b,o,rfl,fun i hi=>?_⟩;have:=(each i hi).choose_spec;have e2:(⟨b,o,none⟩:Addr).add i=⟨b,o+i,none⟩:=add_plain _ _ _;refine ((congrArg W.cell? e2).symm.trans this).trans ?_;simp[List.getD,hi]
theorem Vf{H:Type}{enc:TypeId × Value->H}{W:World}{fuel:Nat}{a:Option Addr}{len cap:Nat}{y:DataW H × List MemPlace}(hf:DataW.trod enc prog W 0 (fun _=>true) true fuel 79 [.slice a len cap]=some y)(hw:∀k∈y.1.weights prog 79,k<=reachBytes) :
  ∃l,vF W a len l/\len*32<=140737488355328:=by
 rcases open_slice underlying79 hf with ⟨hcs,_⟩ | ⟨x,l,c,m,n,D,Pl,hcs,_,hl,hm,Kr,hx,hcell⟩
 ·simp only[lX,cE,gJ] at hcs;obtain ⟨rfl,rfl,rfl⟩:=hcs;exact⟨[],⟨rfl,fun v hv=>absurd hv dL,fun h=>absurd h (gB 0)⟩,by omega⟩
 ·simp only[lX,cE,gJ] at hcs;obtain ⟨rfl,rfl,rfl⟩:=hcs;rw[Pu] at hcell;have hlm:len<=m:=by rw[Kr];simpa using hl
  have nV:len*32<=140737488351232:=by
   have:=hw (cap*32) (by
    rw[hx];simp only[DataW.weights,underlying79,bZ];left;rw[ae4];simp[Kr];omega)
   simp only[reachBytes] at this;omega
  have each:∀i,i<len->∃t:List Int,(∀(j:Nat) v,(U8 t)[j]?=some v->W.cell? ((x.add (i*32)).add j)=some v)/\t.length=32/\Bytes t:=by
   intro i hi;obtain ⟨cs',h1,h2⟩:=hcell i (by omega);obtain ⟨t,rfl,ht,hb⟩:=ZR h2;refine⟨t,fun j v hv=>?_,ht,hb⟩;have hs:=World.cells?_some h1;have hj:j<32:=by have:=(aA.1 hv).1;rw[aX,ht] at this;exact this
   rw[hs.2.2 j hj];exact hv
  refine⟨(List.range len).map fun i=>if h:i<len then (each i h).choose else [],⟨by simp,fun v hv=>?_,fun h0=>?_⟩,by omega⟩
  ·obtain ⟨i,hi,rfl⟩:=cF.1 hv;have Aj:i<len:=p_.1 hi;simp only[Aj,dif_pos];exact (each i Aj).choose_spec.2
  ·obtain ⟨b,o,s⟩:=x;have h32:=(each 0 h0).choose_spec.2.1;obtain ⟨u,hu⟩:∃u,(U8 (each 0 h0).choose)[0]?=some u:=⟨_,ay (by rw[aX,h32];decide)⟩
   have rZ:=(each 0 h0).choose_spec.1 0 u hu;obtain rfl:s=none:=by simpa [Addr.add] using World.cell?_spot rZ
   have e1:∀i j,((⟨b,o,none⟩:Addr).add (i*32)).add j=⟨b,o+i*32+j,none⟩:=fun i j=>by rw[add_plain];exact add_plain _ _ _
   refine⟨b,o,rfl,fun k v hv j u hu=>?_⟩;have hk:=(aA.1 hv).1;simp only[dI,List.length_range] at hk;rw[qb,List.getElem?_range hk] at hv;simp only[iZ,hk,dif_pos,aC] at hv;subst hv;have:=(each k hk).choose_spec.1 j u hu;rw[e1] at this;exact this
structure afg (V:World) (o:rO):Prop where
 s:E.B.pZ V o.ps o.ms o.xs/\o.ms+80<=17592186044416
 v:vF V o.pv o.mv o.vs/\o.mv*32<=140737488355328
theorem adG{H:Type}{enc:TypeId × Value->H}{V:World}{cs:List Value}{n:Nat}{y:DataW H × List MemPlace}(hd:DataW.trod enc prog V 0 (fun _=>true) true n 81 cs=some y)(hw:∀k∈y.1.weights prog 81,k<=reachBytes) :
  ∃o:rO,cs=o.cells.toList/\afg V o:=by
 obtain ⟨xs,k,_,hy,hl,hxl,hf⟩:=DataW.trod_struct underlying81 hd;rw[Pv] at hl;have ak7:xs.length=5:=hxl
 match cs,hl,xs,ak7 with
 | [c0,c1,c2,c3,c4],_,[y0,y1,y2,y3,y4],_ =>
  have g0:DataW.trod enc prog V 0 (fun _=>true) true k 3 (([c0,c1,c2,c3,c4].drop 0).take (prog.cellsOf 3))=some y0:=hf 0 _ rfl;have g1:DataW.trod enc prog V 0 (fun _=>true) true k 59 (([c0,c1,c2,c3,c4].drop 1).take (prog.cellsOf 59))=some y1:=hf 1 _ rfl;have g2:DataW.trod enc prog V 0 (fun _=>true) true k 79 (([c0,c1,c2,c3,c4].drop 2).take (prog.cellsOf 79))=some y2:=hf 2 _ rfl;have g3:DataW.trod enc prog V 0 (fun _=>true) true k 4 (([c0,c1,c2,c3,c4].drop 3).take (prog.cellsOf 4))=some y3:=hf 3 _ rfl;have g4:DataW.trod enc prog V 0 (fun _=>true) true k 3 (([c0,c1,c2,c3,c4].drop 4).take (prog.cellsOf 3))=some y4:=hf 4 _ rfl;rw[Gk] at g0 g4;rw[ae2] at g3;rw[aa9] at g1;rw[aa7] at g2;simp only[List.drop_zero,jh,ig,jy] at g0 g1 g2 g3 g4;obtain ⟨kd,e0,_,_⟩:=iz fe g0;obtain ⟨nn,e4,_,_⟩:=iz fe g4;obtain ⟨pb,e3,_⟩:=DataW.trod_bool underlying4 g3;obtain ⟨pi,mi,ci,rfl⟩:=Hl mG g1;obtain ⟨pl,ml,cl,rfl⟩:=Hl underlying79 g2;simp only[lX,gJ] at e0 e3 e4;subst e0 e3 e4;simp only[l_,List.map_nil] at hy;subst hy;obtain ⟨l,hl4⟩:=Vg g1 (fun n hn=>hw n (by
   simp only[DataW.weights,underlying81];exact qU (j:=1) (t:=59) rfl rfl _ hn))
  obtain ⟨E,hl5⟩:=Vf g2 (fun n hn=>hw n (by
   simp only[DataW.weights,underlying81];exact qU (j:=2) (t:=79) rfl rfl _ hn))
  exact⟨⟨kd,pi,mi,ci,l,pl,ml,cl,E,pb,nn⟩,rfl,⟨hl4,hl5⟩⟩
theorem Ot{H:Type}{enc:TypeId × Value->H}{V:World}{a:Option Addr}{len cap:Nat}{d:DataW H}{p:List MemPlace}(h:DataW.Trod enc prog V 0 (fun _=>true) true 24 (.slice a len cap) d p)(hw:∀k∈d.weights prog 24,k<=reachBytes) :
  ∃os,vH V a len os/\len*72<=140737488351232:=by
 obtain ⟨fuel,hf⟩:=h;rcases open_slice underlying24 hf with ⟨hcs,_⟩ | ⟨x,l,c,m,n,D,Pl,hcs,_,hl,hm,Kr,hx,hcell⟩
 ·simp[Value.cells] at hcs;obtain ⟨rfl,rfl,rfl⟩:=hcs;exact⟨[],⟨rfl,fun h=>absurd h (gB 0),fun q hq=>absurd hq dL,fun q hq=>absurd hq dL⟩,by omega⟩
 ·simp[Value.cells] at hcs;obtain ⟨rfl,rfl,rfl⟩:=hcs;rw[Pv] at hcell;simp only[gS] at hx;have hlm:len<=m:=by rw[Kr];simpa using hl
  have nV:len*72<=140737488351232:=by
   have:=hw (cap*72) (by
    rw[hx.1];simp only[DataW.weights,underlying24,bZ];left;rw[abd];simp[Kr];omega)
   simp only[reachBytes] at this;omega
  have each:∀i,i<len->∃o:rO,afg V o/\∀(j:Nat) v,o.cells.toList[j]?=some v->V.cell? ((x.add (i*5)).add j)=some v:=by
   intro i hi;obtain ⟨cs',h1,h2⟩:=hcell i (by omega);obtain ⟨o,rfl,ho⟩:=adG h2 (fun k hk=>hw k (by
    rw[hx.1];simp only[DataW.weights,underlying24,bZ,bH];exact .inr (.inl (su (cF.2 ⟨i,p_.2 hi,rfl⟩) k hk))))
   have hs:=World.cells?_some h1;refine⟨o,ho,fun j v hv=>?_⟩;have hj:j<5:=(aA.1 hv).1;rw[hs.2.2 j hj];exact hv
  have zx:∀q∈(List.range len).map fun i=>if h:i<len then (each i h).choose else ⟨0,none,0,0,[],none,0,0,[],false,0⟩,afg V q:=by
   intro q hq;obtain ⟨i,hi,rfl⟩:=cF.1 hq;have Aj:i<len:=p_.1 hi;simp only[Aj,dif_pos];exact (each i Aj).choose_spec.1
  refine⟨(List.range len).map fun i=>if h:i<len then (each i h).choose else ⟨0,none,0,0,[],none,0,0,[],false,0⟩,⟨by simp,fun h0=>?_,fun q hq=>(zx q hq).s,fun q hq=>(zx q hq).v⟩,nV⟩;obtain ⟨b,o,s⟩:=x;have rZ:=(each 0 h0).choose_spec.2 0 _ rfl;obtain rfl:s=none:=by simpa [Addr.add] using World.cell?_spot rZ
  have e1:∀i j,((⟨b,o,none⟩:Addr).add (i*5)).add j=⟨b,o+i*5+j,none⟩:=fun i j=>by rw[add_plain];exact add_plain _ _ _
  refine⟨b,o,rfl,fun k q hq j v hv=>?_⟩;have hk:=(aA.1 hq).1;simp only[dI,List.length_range] at hk;rw[qb,List.getElem?_range hk] at hq;simp only[iZ,hk,dif_pos,aC] at hq;subst hq;have:=(each k hk).choose_spec.2 j v hv;rw[e1] at this;exact this
end Go.Proofs.Zq.Q
namespace Go.Proofs.Zq.Q
open Go.Proofs.Tryz
open Go.RowKit
structure js (w:World) (B:Nat) (d t:Int) (v:Value) (L:List C.En):Prop where
 st:w.heap[B]?=some (.cells #[.int .i64 d,.int .u64 t,v] 162 (0,0))
 row:C.eU 241 w 0 v L
 wf:C.dW L
 nR:L.length<=64
section
variable {w w':World} {B:Nat} {d t:Int} {v:Value} {L:List C.En}
theorem js.lt(h:js w B d t v L):B<w.heap.size:=(au.1 h.st).1
theorem js.later(h:js w B d t v L)(hb:Below w.heap.size w w'):js w' B d t v L:=⟨(hb.block B h.lt).trans h.st,C.eU.later h.row hb,h.wf,h.nR⟩
theorem js.c0(h:js w B d t v L):w.cell? ⟨B,0,none⟩=some (.int .i64 d):=by rw[aq _ _ _ _ _ _ h.st];rfl
theorem js.c1(h:js w B d t v L):w.cell? ⟨B,1,none⟩=some (.int .u64 t):=by rw[aq _ _ _ _ _ _ h.st];rfl
theorem js.c2(h:js w B d t v L):w.cell? ⟨B,2,none⟩=some v:=by rw[aq _ _ _ _ _ _ h.st];rfl
theorem js.GG(h:js w B d t v L):∃p c,v=.slice p L.length c/\C.lC w p L.length L/\L.length<=c:=by
 obtain ⟨p,c,e,hm,hc,_⟩:=C.eU.in h.row h.wf;exact⟨p,c,e,hm,hc⟩
end
def Th.gT (B:Nat)(d t:Int)(v:Value)(L:List C.En):Th:=⟨fun w G=>js w B d t v L/\∀g,v.ownBlock=some g->G g,fun b=>b=B,fun _ _ b h hb=>by rw[hb];exact h.1.lt,
 fun _ _ _ _ _ h hk hf hS xu=>⟨⟨(hk.block B h.1.lt (hf B rfl)).trans h.1.st,E.eB h.1.row hk fun g hg=>hS g (h.2 g hg),h.1.wf,h.1.nR⟩,fun g hg=>xu g (h.2 g hg)⟩⟩
section
variable {w0 w w':World} {K:Ks} {x y:Sx} {pd:List Cm} {X:Nat->Th} {i B:Nat} {d t:Int} {v:Value} {L:List C.En}
theorem DS.gT(h:DS w0 w K x y pd X)(h8:8<=i)(eC:i<40)(e:X i=.gT B d t v L):js w B d t v L:=by
 obtain ⟨T,G,h,hX⟩:=h;have:=h.jN.at' i eC;rw[hX i h8 eC,e] at this;exact this.1
theorem DS.Be(h:DS w0 w K x y pd X)(h8:8<=i)(eC:i<40)(e:X i=.gT B d t v L){d' t':Int}{cs:Array Value}(hc:cs=#[.int .i64 d',.int .u64 t',v]):DS w0 (w.setRow B cs) K x y pd (put X i (.gT B d' t' v L)):=by
 refine h.yQ h8 eC (fun G at'=>?_) (lV w B cs) (fun b hb=>by rw[e];exact hb) (fun b hb=>by rw[e];exact .inl hb);have a:=at' i h8 eC;rw[e] at a;have kk:=lV w B cs;refine⟨⟨by rw[hc];exact cK w B _ _ 162 (0,0) a.1.st,?_,a.1.wf,a.1.nR⟩,a.2⟩;refine E.eB a.1.row kk fun g hg eg=>?_;obtain ⟨cur,hc⟩:=E.rz a.1.row hg;rw[show g=B from eg,a.1.st] at hc;cases hc
theorem adr(h:DS w0 w K x y pd X)(h8:8<=i)(eC:i<40)(e:X i=.gT B d t v L):Calls prog 215 #[E.qp K.kr,v] w fun e w'=>e=.returned (.int .i64 (C.jH y.L L:Int))/\DS w0 w' K x (y.drp L) pd X:=by
 obtain ⟨vc,G,hl,at',im,-,back⟩:=h.zl;have a:=at' i h8 eC;rw[e] at a;obtain ⟨p,c,rfl,hE,hc⟩:=a.1.GG;refine (C.Us hl h.mP.k.wf h.mP.k.nR hE (by have:=a.1.nR;omega) (fun a' ha _ hb=>im _ hb (a.2 _ (by rw[ha];rfl)))).mono ?_;rintro e' w' ⟨rfl,xB,hw⟩;exact⟨rfl,back w' _ _ _ _ hw (h.mP.drp L)⟩
def La (d:Int)(n:Nat):Int:=if d=0 then 1 else if d<=n then 2 else 2+d-n
theorem qA(h:js w B d t v L)(h0:0<=d)(h1:d<=100):Calls prog 145 #[E.qp B] w fun e w'=>e=.returned (.int .i64 (La d L.length))/\Below w.heap.size w w':=by
 obtain ⟨q,c,rfl,hE,hc⟩:=h.GG;have c0:=h.c0;have c2:=h.c2;have hf:=h.nR;clear h;go_enter func145,ntmps145;by_cases hd:d=0
 ·subst hd;go_wp2;go_ret;exact⟨rfl,aV _ _⟩
 ·go_wp2_with fail;go_quiet (fail);by_cases hl:d<=L.length
  ·go_wp2;go_ret;refine⟨?_,av _⟩;rw[La,aD hd,aE hl];rfl
  ·go_wp2_with fail;go_quiet (fail);go_wp2;go_ret;refine⟨?_,ah (av _) (av _)⟩;rw[La,aD hd,aD (by omega)];show Ending.returned (.int .i64 (3+d-(L.length:Int)-1))=_;rw[show 3+d-(L.length:Int)-1=2+d-L.length by omega]
theorem ZH(h:js w B d t v L):Calls prog 146 #[E.qp B] w fun e w'=>e=.returned (.tuple #[.int .u64 t,.bool (decide (0<d))])/\∃m,w'=w.drewN m:=by
 have c0:=h.c0;have c1:=h.c1;clear h;go_enter func146,ntmps146;go_wp2_with fail;go_quiet (fail);go_wp2;go_ret2;exact⟨rfl,_,rfl⟩
def gF (W:World)(B:Nat)(K:Ks):Prop:=W.heap[B]?=some (.cells (qV K).toArray 43 (0,0))
theorem gF.new(w:World)(K:Ks):gF (w.alloc (.cells (qV K).toArray 43)) w.heap.size K:=aG w _
theorem gF.later{B:Nat}(h:gF w B K)(hb:Below w.heap.size w w'):gF w' B K:=(hb.block B (au.1 h).1).trans h
theorem gF.dr(h:gF w B K):w.cell? ⟨B,5,none⟩=some (E.qp K.dr):=by rw[aq _ _ _ _ _ _ h];rfl
theorem gF.lr(h:gF w B K):w.cell? ⟨B,6,none⟩=some (E.qp K.lr):=by rw[aq _ _ _ _ _ _ h];rfl
theorem gF.ar(h:gF w B K):w.cell? ⟨B,7,none⟩=some (E.qp K.ar):=by rw[aq _ _ _ _ _ _ h];rfl
theorem gF.kr(h:gF w B K):w.cell? ⟨B,8,none⟩=some (E.qp K.kr):=by rw[aq _ _ _ _ _ _ h];rfl
theorem gF.hi(h:gF w B K):w.cell? ⟨B,3,none⟩=some (.int .i64 K.c.hi):=by rw[aq _ _ _ _ _ _ h];rfl
theorem ng(w:World)(K:Ks):Calls prog 194 #[.agg (qV K).toArray] w fun e w'=>e=.returned (.bool true)/\Below w.heap.size w w':=by
 have h:=gF.new w K;have a1:=h.dr;have a2:=h.lr;have a3:=h.ar;have a4:=h.kr;have b:=ag w (.cells (qV K).toArray 43);clear h;go_enter func194,ntmps194;go_wp2;go_ret;exact⟨rfl,b⟩
end
end Go.Proofs.Zq.Q
namespace Go.Proofs.Zq.Q
open Go.RowKit
structure Pt.Up (p:Pt):Prop where
 ok:p.Ok
 idle:p.st=1->p.t=0/\p.L=[]/\p.k=0
 home:p.st≠1->p.st≠2->p.k=p.L.length
 nR:p.L.length<=64
def Pt.rd (p:Pt):Int:=if p.st=1 then 0 else if p.st=2 then p.k+1 else p.L.length+p.st-2
theorem Pt.Up.new:Pt.Up ⟨1,0,[],0⟩:=⟨⟨.inl rfl,fun e=>absurd (show (1:Int)=2 from e) (by decide)⟩,fun _=>⟨rfl,rfl,rfl⟩,fun e=>absurd rfl e,aI _⟩
section
variable {p:Pt}
theorem Pt.Up.rd0(h:p.Up):0<=p.rd/\p.rd<=100:=by
 have:=h.ok.lt;have:=h.nR;unfold Pt.rd;rcases h.ok.st with e | e | e | e | e <;> rw[e] <;> simp <;> omega
theorem Pt.Up.rst(h:p.Up):La p.rd p.L.length=p.st:=by
 have:=h.ok.lt;unfold La Pt.rd;rcases h.ok.st with e | e | e | e | e <;> rw[e]
 ·simp
 ·have:=this e;simp;omega
 ·simp;omega
 ·simp;omega
 ·simp;omega
theorem Pt.Up.aim(h:p.Up):decide (0<p.rd)=(p.st != 1):=by
 unfold Pt.rd;rcases h.ok.st with e | e | e | e | e <;> rw[e] <;> simp <;> omega
theorem Pt.Up.rest(h:p.Up)(h2:p.st≠2):p.L.drop p.k=[]:=by
 by_cases h1:p.st=1
 ·rw[(h.idle h1).2.1,List.drop_nil]
 ·rw[h.home h1 h2,List.drop_length]
theorem Pt.Up.step(h:p.Up)(hi:Int)(x:Sx)(hx:x.L.length<=64):(iI hi x p).2.2.2.Up:=by
 have ok:=h.ok.step hi x
 revert ok
 unfold iI;by_cases h2:p.st=2
 ·rw[aE h2,yM];split
  ·intro ok;refine⟨ok,fun e=>?_,fun _ e=>?_,h.nR⟩
   ·have e:(if p.k+1<p.L.length then (2:Int) else 3)=1:=e;split at e <;> omega
   ·have e:¬(if p.k+1<p.L.length then (2:Int) else 3)=2:=e;have:=h.ok.lt h2;show p.k+1=p.L.length;split at e <;> omega
  ·exact fun _=>h
 rw[aD h2];by_cases h3:p.st=3
 ·rw[aE h3];exact fun ok=>⟨ok,fun e=>absurd (show (4:Int)=1 from e) (by decide),fun _ _=>h.home (by omega) (by omega),h.nR⟩
 rw[aD h3];by_cases h4:p.st=4
 ·rw[aE h4,zu];split
  ·exact fun _=>h
  ·exact fun ok=>⟨ok,fun e=>absurd (show (5:Int)=1 from e) (by decide),fun _ _=>h.home (by omega) (by omega),h.nR⟩
 rw[aD h4];by_cases h5:p.st=5
 ·rw[aE h5,ku];split
  ·exact fun _=>.new
  ·exact fun _=>h
 rw[aD h5,tu];split
 ·intro ok;refine⟨ok,fun e=>?_,fun e1 e2=>?_,hx⟩
  ·have e:(if 0<x.L.length then (2:Int) else 3)=1:=e;split at e <;> omega
  ·have e:¬(if 0<x.L.length then (2:Int) else 3)=2:=e2;show 0=x.L.length;split at e <;> omega
 ·exact fun _=>h
end
structure Ls (w:World) (fl:Bool) (t e:TypeId) (v:Value) (us:List Value) (fs:List (List C.En)):Prop where
 row:w.ownsRow 0 t 1 v us.length us
 len:fs.length=us.length
 ltu:∀u∈us,∀b,u.ownBlock=some b->b<w.heap.size
 sh:∀u∈us,∃p n c,u=.slice p n c/\n<=64
 each:fl=true->∀(k:Nat) u f,us[k]?=some u->fs[k]?=some f->C.eU e w 0 u f
 wf:∀f∈fs,C.dW f/\f.length<=64
 sep:us.Pairwise fun u u'=>∀g,u.ownBlock=some g->u'.ownBlock≠some g
 off:∀u∈us,∀g,u.ownBlock=some g->v.ownBlock≠some g
def LFt (v:Value)(us:List Value)(b:Nat):Prop:=v.ownBlock=some b\/∃u∈us,u.ownBlock=some b
section
variable {w w':World} {fl:Bool} {t e:TypeId} {v v':Value} {us:List Value} {fs:List (List C.En)}
theorem Ls.lt(h:Ls w fl t e v us fs){b:Nat}(hb:LFt v us b):b<w.heap.size:=by
 rcases hb with hb | ⟨u,hu,hb⟩
 ·exact (h.row.lt b hb).2
 ·exact h.ltu u hu b hb
theorem Ls.kept{S:Nat->Prop}(h:Ls w fl t e v us fs)(hk:E.Kept S w w')(hS:∀b,LFt v us b->¬S b):Ls w' fl t e v us fs :=
 ⟨E.eB h.row hk fun g hg=>hS g (.inl hg),h.len,fun u hu b hb=>bN (h.ltu u hu b hb) hk.size,h.sh,fun MD k u f hu hf=>E.eB (h.each MD k u f hu hf) hk fun g hg=>hS g (.inr ⟨u,bt hu,hg⟩),h.wf,h.sep,h.off⟩
theorem Ls.app{S:Nat->Prop}{u:Value}{f:List C.En}(h:Ls w fl t e v us fs)(hk:E.Kept S w w')(hS:∀b,(∃u∈us,u.ownBlock=some b)\/u.ownBlock=some b->¬S b)(hr:w'.ownsRow 0 t 1 v' (us.length+1) (us++[u]))(hu:C.eU e w 0 u f)(hw:C.dW f/\f.length<=64)(yq:∀x∈us,∀g,x.ownBlock=some g->u.ownBlock≠some g)(alu:∀x∈us++[u],∀g,x.ownBlock=some g->v'.ownBlock≠some g):Ls w' fl t e v' (us++[u]) (fs++[f]):=by
 refine⟨by rw[aO,fO];exact hr,by simp[h.len],fun x hx b hb=>?_,fun x hx=>?_,fun MD k x y hx hy=>?_,fun x hx=>?_,?_,alu⟩
 ·rcases bH.1 hx with hx | hx
  ·exact bN (h.ltu x hx b hb) hk.size
  ·rw[bg.1 hx] at hb;exact bN (hu.lt b hb).2 hk.size
 ·rcases bH.1 hx with hx | hx
  ·exact h.sh x hx
  ·rw[bg.1 hx];obtain ⟨p,c,e⟩:=E.cB hu;exact⟨p,_,c,e,hw.2⟩
 ·rcases Nat.lt_or_ge k us.length with a | a
  ·rw[cg a] at hx;rw[cg (by rw[h.len];exact a)] at hy;exact E.eB (h.each MD k x y hx hy) hk fun g hg=>hS g (.inl ⟨x,bt hx,hg⟩)
  ·rw[aT a] at hx;rw[aT (by rw[h.len];exact a),h.len] at hy;have Ti:k-us.length=0:=by
    have:=(aA.1 hx).1;simp at this;omega
   rw[Ti] at hx hy;cases hx;cases hy;exact E.eB hu hk fun g hg=>hS g (.inr hg)
 ·rcases bH.1 hx with hx | hx
  ·exact h.wf x hx
  ·rw[bg.1 hx];exact hw
 ·exact jT.2 ⟨h.sep,List.pairwise_singleton _ _,fun x hx y hy g hg=>by rw[bg.1 hy];exact yq x hx g hg⟩
theorem Ls.nil(w:World)(fl:Bool)(t e:TypeId):Ls w fl t e (.slice none 0 0) [] []:=⟨cq _ _ _ _,rfl,fun _ h=>(by cases h),fun _ h=>(by cases h),fun _ k u f hu=>(by cases hu),fun _ h=>(by cases h),List.Pairwise.nil,fun _ h=>(by cases h)⟩
end
def Th.ls (fl:Bool)(t e:TypeId)(v:Value)(us:List Value)(fs:List (List C.En)):Th:=⟨fun w _=>Ls w fl t e v us fs,LFt v us,fun _ _ _ h hb=>Ls.lt h hb,fun _ _ _ _ _ h hk hf _ _=>Ls.kept h hk hf⟩
section
variable {w0 w w':World} {K:Ks} {x y:Sx} {pd:List Cm} {X:Nat->Th} {i j:Nat} {fl:Bool} {t e:TypeId} {v v' u:Value} {us:List Value} {fs:List (List C.En)} {f:List C.En}
theorem DS.ls(h:DS w0 w K x y pd X)(h8:8<=i)(eC:i<40)(ei:X i=.ls fl t e v us fs):Ls w fl t e v us fs:=by
 obtain ⟨T,G,h,hX⟩:=h;have:=h.jN.at' i eC;rw[hX i h8 eC,ei] at this;exact this
theorem DS.take(h:DS w0 w K x y pd X)(h8:8<=i)(eC:i<40)(j8:8<=j)(IV:j<40)(Jk:i≠j){t:Th}{S:Nat->Prop}(ht:∀G,(∀m,8<=m->m<40->(X m).at w G)->(∀b,(X i).iF b->¬(X j).iF b)->t.at w' G)(hk:E.Kept S w w')(hS:∀b,S b->(X i).iF b)(hf:∀b,t.iF b->(X i).iF b\/w.heap.size<=b\/(X j).iF b):DS w0 w' K x y pd (put (put X i t) j .no):=by
 obtain ⟨T,G,h,hX⟩:=h;have ei:=hX i h8 eC;have ej:=hX j j8 IV;have lo:=h.jN.lo i eC;have ap:=h.jN.apart i j eC IV Jk;rw[ei,ej] at ap;refine⟨put (put T i t) j .no,G,⟨h.jN.move (S:=S) eC Jk (ht G (fun m a b=>by rw[<-hX m a b];exact h.jN.at' m b) ap) hk (fun b hb=>by rw[ei];exact hS b hb) (fun b hb=>by rw[ei,ej];exact (hf b hb).elim .inl fun a=>.inr (a.elim .inl fun a=>.inr ⟨IV,a⟩)) h.below.size (fun _ a=>a) (fun g a=>.inl a),hk.uR h.below (fun b h1 h2=>by have:=lo b (by rw[ei];exact hS b h2);omega) (az _),?_,?_,?_,?_,?_,?_,?_,h.lU,h.mP,h.cx,h.cy⟩,fun m a b=>?_⟩
 ·rw[af _ _ (by omega),af _ _ (by omega)];exact h.t0
 ·rw[af _ _ (by omega),af _ _ (by omega)];exact h.t1
 ·rw[af _ _ (by omega),af _ _ (by omega)];exact h.t2
 ·rw[af _ _ (by omega),af _ _ (by omega)];exact h.t3
 ·rw[af _ _ (by omega),af _ _ (by omega)];exact h.t4
 ·rw[af _ _ (by omega),af _ _ (by omega)];exact h.t5
 ·rw[af _ _ (show 6≠j by omega),af _ _ (show 6≠i by omega),af _ _ (show 7≠j by omega),af _ _ (show 7≠i by omega)];exact h.t6
 ·by_cases e:m=j
  ·subst e;rw[ax,ax]
  ·rw[af _ _ e,af _ _ e];by_cases e2:m=i
   ·subst e2;rw[ax,ax]
   ·rw[af _ _ e2,af _ _ e2];exact hX m a b
theorem DS.join(h:DS w0 w K x y pd X)(h8:8<=i)(eC:i<40)(j8:8<=j)(IV:j<40)(Jk:i≠j)(ei:X i=.ls fl t e v us fs)(ej:X j=.row e 34 u f.length (C.EC f))(hw:C.dW f/\f.length<=64)(hr:w'.ownsRow 0 t 1 v' (us.length+1) (us++[u]))(hk:E.Kept (fun b=>v.ownBlock=some b) w w')(hn:v'.ownBlock=v.ownBlock\/v'.ownBlock=some w.heap.size):DS w0 w' K x y pd (put (put X i (.ls fl t e v' (us++[u]) (fs++[f]))) j .no):=by
 have hl:=h.ls h8 eC ei;refine h.take h8 eC j8 IV Jk (fun G at' ap=>?_) hk (fun b hb=>by rw[ei];exact .inl hb) (fun b hb=>?_)
 ·have hu:=at' j j8 IV;rw[ej] at hu;rw[ei,ej] at ap;refine hl.app (S:=fun b=>v.ownBlock=some b) hk (fun b hb hv=>?_) hr hu hw (fun x hx g hg hu'=>ap g (.inr ⟨x,hx,hg⟩) hu') (fun x hx g hg hv=>?_)
  ·rcases hb with ⟨a,ha,hb⟩ | hb
   ·exact hl.off a ha b hb hv
   ·exact ap b (.inl hv) hb
  ·have hu':C.eU e w 0 u f:=hu;have Ah:x∈us\/x=u:=(bH.1 hx).elim .inl fun a=>.inr (bg.1 a);rcases hn with hn | hn
   ·rw[hn] at hv;rcases Ah with hx | rfl
    ·exact hl.off x hx g hg hv
    ·exact ap g (.inl hv) hg
   ·rw[hn] at hv;cases hv;rcases Ah with hx | rfl
    ·exact absurd (hl.ltu x hx _ hg) (gB _)
    ·exact absurd (hu'.lt _ hg).2 (gB _)
 ·rw[ei,ej];rcases hb with hb | ⟨a,ha,hb⟩
  ·rcases hn with hn | hn
   ·rw[hn] at hb;exact .inl (.inl hb)
   ·rw[hn] at hb;cases hb;exact .inr (.inl (az _))
  ·rcases bH.1 ha with ha | ha
   ·exact .inl (.inr ⟨a,ha,hb⟩)
   ·rw[bg.1 ha] at hb;exact .inr (.inr hb)
end
open Go.Proofs.Tryz
section
variable {w0 w w':World} {K:Ks} {x y:Sx} {pd:List Cm} {X:Nat->Th} {i j B:Nat} {d t:Int} {v:Value} {L:List C.En}
theorem DS.uv(h:DS w0 w K x y pd X):w.cell? ⟨K.lr,7,none⟩=some (.int .u64 y.g.tail):=by
 obtain ⟨S,b,hl,-,-⟩:=h.uf;exact hl.log.c7
theorem DS.akL(h:DS w0 w K x y pd X):w.cell? ⟨K.lr,8,none⟩=some (.int .u64 y.g.fin):=by
 obtain ⟨S,b,hl,-,-⟩:=h.uf;exact hl.log.c8
theorem DS.NY(h:DS w0 w K x y pd X):w.cell? ⟨K.lr,9,none⟩=some (.int .u64 y.g.mark):=by
 obtain ⟨S,b,hl,-,-⟩:=h.uf;exact hl.log.c9
theorem DS.Ec(h:DS w0 w K x y pd X):w.cell? ⟨K.ar,8,none⟩=some (.int .i64 y.a.used):=by
 obtain ⟨G,vW,vI,ws,is,hl,-⟩:=h.nC;rw[hl.c];rfl
theorem DS.KY(h:DS w0 w K x y pd X):∃q c,w.cell? ⟨K.ar,6,none⟩=some (.slice q y.a.W.length c):=by
 obtain ⟨G,vW,vI,ws,is,hl,-⟩:=h.nC;obtain ⟨q,c,e⟩:=E.cB hl.wr;have hn:=hl.wm.len;rw[E.wl,dI] at hn;refine⟨q,c,?_⟩;rw[hl.c,<-hn];show some vW=_;rw[e]
theorem DS.Hz(h:DS w0 w K x y pd X):w.cell? ⟨K.kr,2,none⟩=some (.bool y.s):=by
 obtain ⟨v,G,hl,-⟩:=h.zl;exact hl.c2
theorem DS.Ia(h:DS w0 w K x y pd X):w.cell? ⟨K.kr,3,none⟩=some (.int .u64 y.p):=by
 obtain ⟨v,G,hl,-⟩:=h.zl;exact hl.c3
theorem DS.agB(h:DS w0 w K x y pd X):∃q c,w.cell? ⟨K.kr,1,none⟩=some (.slice q y.L.length c)/\C.lC w q y.L.length y.L/\y.L.length<=c:=by
 obtain ⟨v,G,hl,-⟩:=h.zl;obtain ⟨q,c,rfl,hE,hc,-⟩:=C.eU.in hl.row h.mP.k.wf;exact⟨q,c,hl.c1,hE,hc⟩
theorem aah(a:E.Ad):a.Af=decide (0<a.W.length):=by
 unfold E.Ad.Af;cases a.W <;> simp
theorem gF.load(h:gF w B K):(Instr.loadAt 43 (.pointer (some ⟨B,0,none⟩))).run prog w=.ok (.agg (qV K).toArray) w:=b_ w B 0 43 (qV K) _ (bE.range (t:=43) h) underlying43 rfl (by rfl)
theorem CX(h:DS w0 w K x y pd X)(h8:8<=i)(eC:i<40)(e:X i=.gT B d t v L)(hd:0<d):Calls prog 147 #[E.qp B,.agg (qV K).toArray] w fun e w'=>e=.returned (.bool true)/\Below w.heap.size w w':=by
 obtain ⟨r,hr⟩:=zE w.heap.size;obtain ⟨w1,dZ⟩:=zE (w.alloc (.cells (qV K).toArray 43));have b1:Below w.heap.size w w1:=by rw[<-dZ];exact ag w _
 have hI:gF w1 r K:=by rw[<-dZ,<-hr];exact gF.new w K
 have jk:=zH hI.load;have gj:=zH b1;have kD:=zH (h.later b1);have CE:=zH hI;clear h b1 hI;go_enter func147,ntmps147;go_wp2_with ((with_reducible refine aQ ?_);(refine lJ 43 jk.out ?_))
 refine (ng w1 K).mono ?_;rintro e' w2 ⟨rfl,b2⟩;have c0:=((kD.out.later b2).gT h8 eC e).c0;have gD:Hid (Below w.heap.size w w2):=ah gj.out b2;have fh:=zH (kD.out.later b2);have YS:=zH (CE.out.later b2);clear b2 kD gj CE dZ jk;go_wp2;go_ret;exact⟨rfl,gD.out⟩
theorem Lr(h:DS w0 w K x y pd X)(h8:8<=i)(eC:i<40)(e:X i=.gT B 0 t v L)(hs:y.s=false):Calls prog 147 #[E.qp B,.agg (qV K).toArray] w fun e w'=>e=.returned (.bool false)/\Below w.heap.size w w':=by
 obtain ⟨r,hr⟩:=zE w.heap.size;obtain ⟨w1,dZ⟩:=zE (w.alloc (.cells (qV K).toArray 43));have b1:Below w.heap.size w w1:=by rw[<-dZ];exact ag w _
 have hI:gF w1 r K:=by rw[<-dZ,<-hr];exact gF.new w K
 have jk:=zH hI.load;have gj:=zH b1;have kD:=zH (h.later b1);have CE:=zH hI;clear h b1 hI;go_enter func147,ntmps147;go_wp2_with ((with_reducible refine aQ ?_);(refine lJ 43 jk.out ?_))
 refine (ng w1 K).mono ?_;rintro e' w2 ⟨rfl,b2⟩;have c0:=((kD.out.later b2).gT h8 eC e).c0;have gD:Hid (Below w.heap.size w w2):=ah gj.out b2;have fh:=zH (kD.out.later b2);have YS:=zH (CE.out.later b2);clear b2 kD gj CE dZ jk;go_wp2_with fail;have fu:Hid (DS w0 w2.drew K x y pd X):=fh.out.later (av 1);have Tt:Hid (gF w2.drew r K):=YS.out.later (av 1);have vN:Hid (Below w.heap.size w w2.drew):=ah gD.out (av 1);refine zR (fun W=>DS w0 W K x y pd X/\gF W r K) ⟨fu.out,Tt.out⟩ fun aa=>?_;generalize w2.drew=w3 at *;refine tk 0 aa ?_;refine de 1 aa (fun _ s=>s.2.kr) ?_;refine fI 2 3 aa ?_;refine de 4 aa (fun _ s=>s.1.Hz) ?_;refine fI 5 6 aa ?_;refine dA 7 aa ?_;refine dA 8 aa ?_;refine dA 9 aa ?_;refine dA 10 aa ?_;refine dA 11 aa ?_;refine dA 12 aa ?_;refine dA 13 aa ?_;refine dA 14 aa ?_;refine dA 15 aa ?_;refine dA 16 aa ?_;refine dA 17 aa ?_;refine dA 18 aa ?_;refine tk 19 aa ?_;clear aa;refine zD ?_;go_wp2;go_ret;exact⟨rfl,vN.out⟩
theorem Lq(h:DS w0 w K x y pd X)(h8:8<=i)(eC:i<40)(e:X i=.gT B 0 t v L)(hs:y.s=true)(hl:decide (y.p+1<=y.g.tail)=true):Calls prog 147 #[E.qp B,.agg (qV K).toArray] w fun e w'=>e=.returned (.bool false)/\Below w.heap.size w w':=by
 obtain ⟨r,hr⟩:=zE w.heap.size;obtain ⟨w1,dZ⟩:=zE (w.alloc (.cells (qV K).toArray 43));have b1:Below w.heap.size w w1:=by rw[<-dZ];exact ag w _
 have hI:gF w1 r K:=by rw[<-dZ,<-hr];exact gF.new w K
 have jk:=zH hI.load;have gj:=zH b1;have kD:=zH (h.later b1);have CE:=zH hI;clear h b1 hI;go_enter func147,ntmps147;go_wp2_with ((with_reducible refine aQ ?_);(refine lJ 43 jk.out ?_))
 refine (ng w1 K).mono ?_;rintro e' w2 ⟨rfl,b2⟩;have c0:=((kD.out.later b2).gT h8 eC e).c0;have gD:Hid (Below w.heap.size w w2):=ah gj.out b2;have fh:=zH (kD.out.later b2);have YS:=zH (CE.out.later b2);clear b2 kD gj CE dZ jk;go_wp2_with fail;have hw:IntKind.u64.wrap (y.p+1)=y.p+1:=by
  have:=fh.out.mP.p0;rw[eD];omega
 have fu:Hid (DS w0 w2.drew K x y pd X):=fh.out.later (av 1);have Tt:Hid (gF w2.drew r K):=YS.out.later (av 1);have vN:Hid (Below w.heap.size w w2.drew):=ah gD.out (av 1);refine zR (fun W=>DS w0 W K x y pd X/\gF W r K) ⟨fu.out,Tt.out⟩ fun aa=>?_;generalize w2.drew=w3 at *;refine tk 0 aa ?_;refine de 1 aa (fun _ s=>s.2.kr) ?_;refine fI 2 3 aa ?_;refine de 4 aa (fun _ s=>s.1.Hz) ?_;refine gh 5 6 7 aa ?_;refine de 8 aa (fun _ s=>s.2.kr) ?_;refine fI 9 10 aa ?_;refine de 11 aa (fun _ s=>s.1.Ia) ?_;refine fI 12 13 aa ?_;refine de 14 aa (fun _ s=>s.2.lr) ?_;refine fI 15 16 aa ?_;refine de 17 aa (fun _ s=>s.1.uv) ?_;refine fI 18 19 aa ?_;clear aa;refine zD ?_;go_wp2;go_ret;exact⟨rfl,vN.out⟩
theorem Lp(h:DS w0 w K x y pd X)(h8:8<=i)(eC:i<40)(e:X i=.gT B 0 t v L)(hs:y.s=true)(hl:decide (y.p+1<=y.g.tail)=false)(hu:decide (K.c.hi<=y.a.used)=true):Calls prog 147 #[E.qp B,.agg (qV K).toArray] w fun e w'=>e=.returned (.bool true)/\Below w.heap.size w w':=by
 obtain ⟨r,hr⟩:=zE w.heap.size;obtain ⟨w1,dZ⟩:=zE (w.alloc (.cells (qV K).toArray 43));have b1:Below w.heap.size w w1:=by rw[<-dZ];exact ag w _
 have hI:gF w1 r K:=by rw[<-dZ,<-hr];exact gF.new w K
 have jk:=zH hI.load;have gj:=zH b1;have kD:=zH (h.later b1);have CE:=zH hI;clear h b1 hI;go_enter func147,ntmps147;go_wp2_with ((with_reducible refine aQ ?_);(refine lJ 43 jk.out ?_))
 refine (ng w1 K).mono ?_;rintro e' w2 ⟨rfl,b2⟩;have c0:=((kD.out.later b2).gT h8 eC e).c0;have gD:Hid (Below w.heap.size w w2):=ah gj.out b2;have fh:=zH (kD.out.later b2);have YS:=zH (CE.out.later b2);clear b2 kD gj CE dZ jk;go_wp2_with fail;have hw:IntKind.u64.wrap (y.p+1)=y.p+1:=by
  have:=fh.out.mP.p0;rw[eD];omega
 have fu:Hid (DS w0 w2.drew K x y pd X):=fh.out.later (av 1);have Tt:Hid (gF w2.drew r K):=YS.out.later (av 1);have vN:Hid (Below w.heap.size w w2.drew):=ah gD.out (av 1);refine zR (fun W=>DS w0 W K x y pd X/\gF W r K) ⟨fu.out,Tt.out⟩ fun aa=>?_;generalize w2.drew=w3 at *;refine tk 0 aa ?_;refine de 1 aa (fun _ s=>s.2.kr) ?_;refine fI 2 3 aa ?_;refine de 4 aa (fun _ s=>s.1.Hz) ?_;refine gh 5 6 7 aa ?_;refine de 8 aa (fun _ s=>s.2.kr) ?_;refine fI 9 10 aa ?_;refine de 11 aa (fun _ s=>s.1.Ia) ?_;refine fI 12 13 aa ?_;refine de 14 aa (fun _ s=>s.2.lr) ?_;refine fI 15 16 aa ?_;refine de 17 aa (fun _ s=>s.1.uv) ?_;refine fI 18 19 aa ?_;clear aa;refine zD ?_;go_wp2_with fail;obtain ⟨qw,cw,cW⟩:=fu.out.KY;have gM:Hid (DS w0 w3.drew K x y pd X):=fu.out.later (av 1);have HK4:Hid (gF w3.drew r K):=Tt.out.later (av 1);have CA:Hid (w3.drew.cell? ⟨K.ar,6,none⟩=some (.slice qw (y.a.W.length) cw)):=cW;have Gw:Hid (Below w.heap.size w w3.drew):=ah vN.out (av 1);clear cW;refine zR (fun W=>DS w0 W K x y pd X/\gF W r K/\W.cell? ⟨K.ar,6,none⟩=some (.slice qw (y.a.W.length) cw)) ⟨gM.out,HK4.out,CA.out⟩ fun aa=>?_;generalize w3.drew=w4 at *;refine tk 0 aa ?_;refine de 1 aa (fun _ s=>s.2.1.ar) ?_;refine fI 2 3 aa ?_;refine de 4 aa (fun _ s=>s.1.Ec) ?_;refine fI 5 6 aa ?_;refine de 7 aa (fun _ s=>s.2.1.hi) ?_;refine fI 8 9 aa ?_;refine dA 10 aa ?_;refine dA 11 aa ?_;refine dA 12 aa ?_;refine dA 13 aa ?_;refine dA 14 aa ?_;refine dA 15 aa ?_;refine dA 16 aa ?_;refine dA 17 aa ?_;refine dA 18 aa ?_;refine dA 19 aa ?_;refine dA 20 aa ?_;refine dA 21 aa ?_;refine dA 22 aa ?_;refine fI 23 24 aa ?_;clear aa;refine zD ?_;go_wp2;go_ret;exact⟨rfl,Gw.out⟩
theorem Lo(h:DS w0 w K x y pd X)(h8:8<=i)(eC:i<40)(e:X i=.gT B 0 t v L)(hs:y.s=true)(hl:decide (y.p+1<=y.g.tail)=false)(hu:decide (K.c.hi<=y.a.used)=false)(hW:y.a.W.length=0):Calls prog 147 #[E.qp B,.agg (qV K).toArray] w fun e w'=>e=.returned (.bool false)/\Below w.heap.size w w':=by
 obtain ⟨r,hr⟩:=zE w.heap.size;obtain ⟨w1,dZ⟩:=zE (w.alloc (.cells (qV K).toArray 43));have b1:Below w.heap.size w w1:=by rw[<-dZ];exact ag w _
 have hI:gF w1 r K:=by rw[<-dZ,<-hr];exact gF.new w K
 have jk:=zH hI.load;have gj:=zH b1;have kD:=zH (h.later b1);have CE:=zH hI;clear h b1 hI;go_enter func147,ntmps147;go_wp2_with ((with_reducible refine aQ ?_);(refine lJ 43 jk.out ?_))
 refine (ng w1 K).mono ?_;rintro e' w2 ⟨rfl,b2⟩;have c0:=((kD.out.later b2).gT h8 eC e).c0;have gD:Hid (Below w.heap.size w w2):=ah gj.out b2;have fh:=zH (kD.out.later b2);have YS:=zH (CE.out.later b2);clear b2 kD gj CE dZ jk;go_wp2_with fail;have hw:IntKind.u64.wrap (y.p+1)=y.p+1:=by
  have:=fh.out.mP.p0;rw[eD];omega
 have fu:Hid (DS w0 w2.drew K x y pd X):=fh.out.later (av 1);have Tt:Hid (gF w2.drew r K):=YS.out.later (av 1);have vN:Hid (Below w.heap.size w w2.drew):=ah gD.out (av 1);refine zR (fun W=>DS w0 W K x y pd X/\gF W r K) ⟨fu.out,Tt.out⟩ fun aa=>?_;generalize w2.drew=w3 at *;refine tk 0 aa ?_;refine de 1 aa (fun _ s=>s.2.kr) ?_;refine fI 2 3 aa ?_;refine de 4 aa (fun _ s=>s.1.Hz) ?_;refine gh 5 6 7 aa ?_;refine de 8 aa (fun _ s=>s.2.kr) ?_;refine fI 9 10 aa ?_;refine de 11 aa (fun _ s=>s.1.Ia) ?_;refine fI 12 13 aa ?_;refine de 14 aa (fun _ s=>s.2.lr) ?_;refine fI 15 16 aa ?_;refine de 17 aa (fun _ s=>s.1.uv) ?_;refine fI 18 19 aa ?_;clear aa;refine zD ?_;go_wp2_with fail;obtain ⟨qw,cw,cW⟩:=fu.out.KY;rw[hW] at cW;have gM:Hid (DS w0 w3.drew K x y pd X):=fu.out.later (av 1);have HK4:Hid (gF w3.drew r K):=Tt.out.later (av 1);have CA:Hid (w3.drew.cell? ⟨K.ar,6,none⟩=some (.slice qw (0) cw)):=cW;have Gw:Hid (Below w.heap.size w w3.drew):=ah vN.out (av 1);clear cW;refine zR (fun W=>DS w0 W K x y pd X/\gF W r K/\W.cell? ⟨K.ar,6,none⟩=some (.slice qw (0) cw)) ⟨gM.out,HK4.out,CA.out⟩ fun aa=>?_;generalize w3.drew=w4 at *;refine tk 0 aa ?_;refine de 1 aa (fun _ s=>s.2.1.ar) ?_;refine fI 2 3 aa ?_;refine de 4 aa (fun _ s=>s.1.Ec) ?_;refine fI 5 6 aa ?_;refine de 7 aa (fun _ s=>s.2.1.hi) ?_;refine gh 8 9 10 aa ?_;refine de 11 aa (fun _ s=>s.2.1.ar) ?_;refine fI 12 13 aa ?_;refine de 14 aa (fun _ s=>s.2.2) ?_;refine gh 15 16 17 aa ?_;refine dA 18 aa ?_;refine dA 19 aa ?_;refine dA 20 aa ?_;refine dA 21 aa ?_;refine gh 22 23 24 aa ?_;clear aa;refine zD ?_;go_wp2;go_ret;exact⟨rfl,Gw.out⟩
theorem Ln(h:DS w0 w K x y pd X)(h8:8<=i)(eC:i<40)(e:X i=.gT B 0 t v L)(hN:y.a.next<=1000)(hs:y.s=true)(hl:decide (y.p+1<=y.g.tail)=false)(hu:decide (K.c.hi<=y.a.used)=false){n:Nat}(hW:y.a.W.length=n+1):Calls prog 147 #[E.qp B,.agg (qV K).toArray] w fun e w'=>e=.returned (.bool (!y.a.fits))/\Below w.heap.size w w':=by
 obtain ⟨r,hr⟩:=zE w.heap.size;obtain ⟨w1,dZ⟩:=zE (w.alloc (.cells (qV K).toArray 43));have b1:Below w.heap.size w w1:=by rw[<-dZ];exact ag w _
 have hI:gF w1 r K:=by rw[<-dZ,<-hr];exact gF.new w K
 have jk:=zH hI.load;have gj:=zH b1;have kD:=zH (h.later b1);have CE:=zH hI;clear h b1 hI;go_enter func147,ntmps147;go_wp2_with ((with_reducible refine aQ ?_);(refine lJ 43 jk.out ?_))
 refine (ng w1 K).mono ?_;rintro e' w2 ⟨rfl,b2⟩;have c0:=((kD.out.later b2).gT h8 eC e).c0;have gD:Hid (Below w.heap.size w w2):=ah gj.out b2;have fh:=zH (kD.out.later b2);have YS:=zH (CE.out.later b2);clear b2 kD gj CE dZ jk;go_wp2_with fail;have hw:IntKind.u64.wrap (y.p+1)=y.p+1:=by
  have:=fh.out.mP.p0;rw[eD];omega
 have fu:Hid (DS w0 w2.drew K x y pd X):=fh.out.later (av 1);have Tt:Hid (gF w2.drew r K):=YS.out.later (av 1);have vN:Hid (Below w.heap.size w w2.drew):=ah gD.out (av 1);refine zR (fun W=>DS w0 W K x y pd X/\gF W r K) ⟨fu.out,Tt.out⟩ fun aa=>?_;generalize w2.drew=w3 at *;refine tk 0 aa ?_;refine de 1 aa (fun _ s=>s.2.kr) ?_;refine fI 2 3 aa ?_;refine de 4 aa (fun _ s=>s.1.Hz) ?_;refine gh 5 6 7 aa ?_;refine de 8 aa (fun _ s=>s.2.kr) ?_;refine fI 9 10 aa ?_;refine de 11 aa (fun _ s=>s.1.Ia) ?_;refine fI 12 13 aa ?_;refine de 14 aa (fun _ s=>s.2.lr) ?_;refine fI 15 16 aa ?_;refine de 17 aa (fun _ s=>s.1.uv) ?_;refine fI 18 19 aa ?_;clear aa;refine zD ?_;go_wp2_with fail;obtain ⟨qw,cw,cW⟩:=fu.out.KY;rw[hW] at cW;have gM:Hid (DS w0 w3.drew K x y pd X):=fu.out.later (av 1);have HK4:Hid (gF w3.drew r K):=Tt.out.later (av 1);have CA:Hid (w3.drew.cell? ⟨K.ar,6,none⟩=some (.slice qw (n+1) cw)):=cW;have Gw:Hid (Below w.heap.size w w3.drew):=ah vN.out (av 1);clear cW;refine zR (fun W=>DS w0 W K x y pd X/\gF W r K/\W.cell? ⟨K.ar,6,none⟩=some (.slice qw (n+1) cw)) ⟨gM.out,HK4.out,CA.out⟩ fun aa=>?_;generalize w3.drew=w4 at *;refine tk 0 aa ?_;refine de 1 aa (fun _ s=>s.2.1.ar) ?_;refine fI 2 3 aa ?_;refine de 4 aa (fun _ s=>s.1.Ec) ?_;refine fI 5 6 aa ?_;refine de 7 aa (fun _ s=>s.2.1.hi) ?_;refine gh 8 9 10 aa ?_;refine de 11 aa (fun _ s=>s.2.1.ar) ?_;refine fI 12 13 aa ?_;refine de 14 aa (fun _ s=>s.2.2) ?_;refine gu 15 16 17 18 aa ?_;refine de 19 aa (fun _ s=>s.2.1.ar) ?_;refine iA 20 fun Kc aJ=>?_;go_simp;refine (adq gM.out hN).mono ?_;rintro e' w5 ⟨rfl,m,rfl⟩;have HB5:Hid (Below w.heap.size w (w4.drewN m)):=ah Gw.out (av m);refine aJ.out _ _ ⟨gM.out.later (av m),HK4.out.later (av m),CA.out⟩ (fun aa=>?_);clear aJ Kc;refine gu 21 22 23 24 aa ?_;clear aa;refine zD ?_;go_wp2;go_ret;exact⟨rfl,HB5.out⟩
theorem CW(h:DS w0 w K x y pd X)(hN:y.a.next<=1000)(h8:8<=i)(eC:i<40)(e:X i=.gT B 0 t v L):Calls prog 147 #[E.qp B,.agg (qV K).toArray] w fun e w'=>e=.returned (.bool (rM y K.c.hi))/\Below w.heap.size w w':=by
 unfold rM;rw[aah];cases hs:y.s with
 | false=>exact Lr h h8 eC e hs
 | true =>
  by_cases hl:y.p+1<=y.g.tail
  ·rw[aF (show ¬y.g.tail<y.p+1 by omega)];exact Lq h h8 eC e hs (aP hl)
  ·rw[aP (show y.g.tail<y.p+1 by omega)];by_cases hu:K.c.hi<=y.a.used
   ·rw[aP hu];exact Lp h h8 eC e hs (aF hl) (aP hu)
   ·rw[aF hu];by_cases hW:0<y.a.W.length
    ·rw[aP hW];exact Ln h h8 eC e hN hs (aF hl) (aF hu) (n:=y.a.W.length-1) (by omega)
    ·rw[aF hW];exact Lo h h8 eC e hs (aF hl) (aF hu) (by omega)
