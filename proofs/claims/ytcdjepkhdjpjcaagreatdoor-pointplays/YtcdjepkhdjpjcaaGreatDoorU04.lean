import Derived.Test.YtcdjepkhdjpjcaaGreatDoorU03
set_option maxHeartbeats 20000000
set_option maxRecDepth 100000
namespace Go.Proofs.Zq
open Go.Proofs.Tryz
open Go.RowKit
theorem uN(off:Nat)(vs:List Value)(cs:List Value)(h:off+vs.length<=cs.length) :
  vs.toArray.zipIdx.foldl (fun cs (x:Value × Nat)=>cs.setIfInBounds (off+x.2) x.1) cs.toArray=(cs.take off++vs++cs.drop (off+vs.length)).toArray:=by
 rw[<-Array.foldl_toList,Array.toList_zipIdx];obtain ⟨h1,h2⟩:=Great.foldl_set off vs 0 cs.toArray;apply Array.ext_getElem?;intro k;have e:=h2 k;simp only[Nat.add_zero,aM] at e;refine Eq.trans e ?_;rw[dV,dV];by_cases c1:k<off
 ·rw[aD (by omega),aS,cg (by simp;omega),fG,aE c1]
 ·by_cases c2:k<off+vs.length
  ·rw[aE ⟨by omega,c2,by omega⟩,aS,aT (by simp;omega),cg (by simp;omega)]
   congr 1;simp;omega
  ·rw[aD (by omega),aT (by simp;omega),iH]
   congr 1;simp;omega
theorem UR:placesOf prog 125=some [(0,1),(1,64)]:=by kernel_rfl
theorem Nx:(prog.info? 125).bind (·.zero)=some (.agg (.int .i64 0 :: List.replicate 64 (Value.int .u8 0)).toArray):=by kernel_rfl
theorem EP(ps:List (Nat × Nat))(cs:List Value)(o0 n0 o1 n1:Nat)(hp:ps=[(o0,n0),(o1,n1)])(v0 v1:Value)(c0 c1:List Value)(h0:v0.cells=c0.toArray)(h1:v1.cells=c1.toArray)(e0:c0.length=n0)(e1:c1.length=n1)(ho0:o0=0)(ho1:n0=o1)(hl:cs.length=n0+n1) :
  Instr.fill (ps.toArray[·]?) cs.toArray [(0,v0),(1,v1)]=some (c0++c1).toArray:=by
 subst hp ho0 ho1;have a0:=uN 0 c0 cs (by omega);have a1:=uN n0 c1 (cs.take 0++c0++cs.drop (0+c0.length)) (by simp;omega);simp only[Instr.fill];rw[h0,h1];simp only[aM,dV,List.getElem?_cons_zero,fk];rw[aD (by simp[e0];omega)];have a0':c0.toArray.zipIdx.foldl (fun cs x=>match x with | (c,j)=>cs.setIfInBounds (0+j) c) cs.toArray=(cs.take 0++c0++cs.drop (0+c0.length)).toArray:=a0;rw[a0'];simp only[aM];rw[aD (by simp[e0,e1];omega)];have a1':c1.toArray.zipIdx.foldl (fun cs x=>match x with | (c,j)=>cs.setIfInBounds (n0+j) c) (cs.take 0++c0++cs.drop (0+c0.length)).toArray=_:=a1;rw[a1']
 congr 2
 apply mH;intro k;simp only[jy,bF,aW];rw[fD (by omega),aL (by omega),jm (by simp;omega),jQ]
theorem abf(s:Int)(b:List Int)(hb:b.length=64):prog.built 125 [(0,.int .i64 s),(1,.agg (U8 b).toArray)]=some (.int .i64 s :: U8 b).toArray:=by
 rw[jr 125 _ _ _ UR Nx];exact EP _ _ 0 1 1 64 rfl _ _ [.int .i64 s] (U8 b) rfl rfl rfl (by rw[aX,hb]) rfl rfl (by simp)
theorem Hu(w:World)(s:Nat)(b:List Int)(hb:b.length=64):(Instr.build 125 #[(0,.int .i64 s),(1,.agg (U8 b).toArray)]).run prog w=.ok (.agg (dy ⟨s,b⟩).toArray) w :=
 eo w 125 _ _ (abf s b hb)
def Z80:Array Value:=(.int .i64 0 :: List.replicate 64 (Value.int .u8 0)).toArray
theorem XU:Z80.size=65:=by simp[Z80]
theorem zv4(t:TypeId)(z:Value)(hz:(prog.info? t).bind (·.zero)=some z)(w:World):(zeroValue t).run prog w=.ok z w:=by
 cases hi:prog.info? t with
 | none=>simp[hi] at hz
 | some it =>
  simp only[hi,q_] at hz;simp[zeroValue,typeInfo,hi,hz]
theorem Hw(w:World):(Instr.alloc 125 true (.tuple #[])).run prog w=.ok (.pointer (some ⟨w.heap.size,0,none⟩)) (w.alloc (.cells Z80 125)):=by
 simp only[Instr.alloc,aU,zv4 125 _ Nx,aH];simp[newVar,newRow,Value.cells,Z80]
theorem KI:∀(u v:World),u.heap=v.heap->u.tape=v.tape->u.drawn=v.drawn->u.os=v.os->u.output=v.output->u=v
 | ⟨_,_,_,_,_⟩,⟨_,_,_,_,_⟩,h1,h2,h3,h4,h5=>by
  simp only at h1 h2 h3 h4 h5;subst h1 h2 h3 h4 h5;rfl
theorem CT(w:World)(a b:Array Value)(t:TypeId):(w.alloc (.cells a t)).setRow w.heap.size b=w.alloc (.cells b t):=by
 refine KI _ _ ?_ rfl rfl rfl rfl;apply Array.ext_getElem?;intro k;by_cases c:k=w.heap.size
 ·subst c;rw[cK _ _ a b t (0,0) (aG w _),aG]
 ·have e1:((w.alloc (.cells a t)).setRow w.heap.size b).heap[k]?=(w.alloc (.cells a t)).heap[k]?:=by
   simp only[World.setRow,Array.getElem?_modify];rw[aD (fun h=>c h.symm)]
  rw[e1];show (w.heap.push _)[k]?=(w.heap.push _)[k]?;rw[Array.getElem?_push,Array.getElem?_push,aD c,aD c]
theorem uu(w:World)(t:TypeId)(Z cs:Array Value)(hz:Z.size=cs.size)(hi:(prog.info? t).map (·.size)=some cs.size)(h1:cs.all (·.oneCell')=true) :
  (Instr.storeAt t (.pointer (some ⟨w.heap.size,0,none⟩)) (.agg cs)).run prog (w.alloc (.cells Z t))=.ok () (w.alloc (.cells cs t)):=by
 simp only[Instr.storeAt,Instr.sureAddr,aU,bQ,aH,run_storeVar_row (w.alloc (.cells Z t)) w.heap.size t t Z cs (aG w _) hi hz h1,CT]
theorem Zc(x:Wr):(dy x).toArray.all (·.oneCell')=true:=gy (uF x)
theorem NB(b:List Int):(U8 b).toArray.all (·.oneCell')=true:=gy (eO b)
theorem Hr(w:World)(x:Wr)(hx:x.b.length=64):(Instr.storeAt 125 (.pointer (some ⟨w.heap.size,0,none⟩)) (.agg (dy x).toArray)).run prog (w.alloc (.cells Z80 125))=.ok () (w.alloc (.cells (dy x).toArray 125)) :=
 uu w 125 Z80 _ (by simp[XU,dy,hx]) (by rw[AX];simp[dy,hx]) (Zc x)
theorem xU(w:World)(x:Wr)(hx:x.b.length=64):(Instr.buildSlice 119 1 #[(0,.agg (dy x).toArray)]).run prog w=.ok (.slice (some ⟨w.heap.size,0,none⟩) 1 1) (w.alloc (.cells (dy x).toArray 125)):=by
 obtain ⟨i0,hi,ij,gm,iL⟩:=cj VP;refine run_buildSlice w 119 125 1 _ _ i0 _ underlying119 hi ij (by rw[gm];decide) (by rw[gm];decide) ?_;rw[gm];have hl:(dy x).length=65:=by simp[dy,hx]
 have hA:∀A:Array Value,A.size=65->Instr.fill (fun i=>some (i*65,65)) A [(0,.agg (dy x).toArray)]=some (dy x).toArray:=by
  intro A hA;have a0:=uN 0 (dy x) A.toList (by simp;omega);simp only[Instr.fill,Value.cells,aM,Nat.zero_mul];rw[aD (by simp[hl,hA])];have a0':(dy x).toArray.zipIdx.foldl (fun cs x=>match x with | (c,j)=>cs.setIfInBounds (0+j) c) A=((A.toList.take 0++dy x++A.toList.drop (0+(dy x).length))).toArray:=a0;rw[a0',jm (by simp[hl,hA])];simp
 exact hA _ (by simp)
theorem EZ{o:Oper}{a:Act}{w w':World}{v:Value}{K:Act->World->Prop}{Q:Exit->Act->World->Prop}(heq:(execOp a.eval o).run prog w=.ok (.value v) w')(h:K (a.put o.dst v) w'):o.wp prog a w K Q:=by
 unfold Oper.wp;rw[heq];exact h
theorem GL{o:Oper}{a:Act}{w w':World}{K:Act->World->Prop}{Q:Exit->Act->World->Prop}(heq:(execOp a.eval o).run prog w=.ok .skip w')(h:K (a.put o.dst undef) w'):o.wp prog a w K Q:=by
 unfold Oper.wp;rw[heq];exact h
theorem mj{ops:Array Oper}{rest:List Oper}{o:Oper}{a:Act}{w:World}{Q:Exit->Act->World->Prop}(jt:o.guard=none)(ho:o.op=.alloc 125)
  (h:wpList prog ops Q rest (a.put o.dst (.pointer (some ⟨w.heap.size,0,none⟩))) (w.alloc (.cells Z80 125))):wpList prog ops Q (o :: rest) a w :=
 iQ jt fun _ hK=>EZ (by unfold execOp;simp only[ho,aU,Hw,aH,bQ]) (hK _ _ h)
theorem AE{ops:Array Oper}{rest:List Oper}{o:Oper}{a:Act}{w:World}{Q:Exit->Act->World->Prop}(jt:o.guard=none)(x y:Operand)(ho:o.op=.build 125 #[(0,x),(1,y)])(s:Nat)(b:List Int)(hx:a.eval x=.int .i64 s)(hy:a.eval y=.agg (U8 b).toArray)(hb:b.length=64)
  (h:wpList prog ops Q rest (a.put o.dst (.agg (dy ⟨s,b⟩).toArray)) w):wpList prog ops Q (o :: rest) a w :=
 iQ jt fun _ hK=>EZ (by
  have e:(#[(0,x),(1,y)]:Array (Nat × Operand)).map (fun (i,x)=>(i,a.eval x))=#[(0,a.eval x),(1,a.eval y)]:=by simp
  unfold execOp;simp only[ho];rw[e,hx,hy];simp only[aU,Hu w s b hb,aH,bQ]) (hK _ _ h)
theorem mh{ops:Array Oper}{rest:List Oper}{o:Oper}{a:Act}{w:World}{Q:Exit->Act->World->Prop}(jt:o.guard=none)(x y:Operand)(ho:o.op=.store 125 x y)(z:Wr)(hx:a.eval x=.pointer (some ⟨w.heap.size,0,none⟩))(hy:a.eval y=.agg (dy z).toArray)(hz:z.b.length=64)
  (h:wpList prog ops Q rest (a.put o.dst undef) (w.alloc (.cells (dy z).toArray 125))):wpList prog ops Q (o :: rest) a (w.alloc (.cells Z80 125)) :=
 iQ jt fun _ hK=>GL (by unfold execOp;simp only[ho,hx,hy,aU,Hr w z hz,aH,bQ]) (hK _ _ h)
theorem rR{o:Oper}{a:Act}{w:World}{K:Act->World->Prop}{Q:Exit->Act->World->Prop}(x:Operand)(ho:o.op=.buildSlice 119 1 #[(0,x)])(z:Wr)(hx:a.eval x=.agg (dy z).toArray)(hz:z.b.length=64)
  (h:K (a.put o.dst (.slice (some ⟨w.heap.size,0,none⟩) 1 1)) (w.alloc (.cells (dy z).toArray 125))):o.wp prog a w K Q :=
 EZ (by
  have e:(#[(0,x)]:Array (Nat × Operand)).map (fun (i,x)=>(i,a.eval x))=#[(0,a.eval x)]:=by simp
  unfold execOp;simp only[ho];rw[e,hx];simp only[aU,xU w z hz,aH,bQ]) h
theorem oy(w:World)(cs:List Value)(t:TypeId):(w.alloc (.cells cs.toArray t)).rangeAt w.heap.size 0 cs:=fun j v hv=>by
 rw[aq _ _ _ _ t (0,0) (aG w _),aW,dV];exact hv
theorem rC(w:World)(cs ds:List Value)(o:Nat)(t:TypeId)(h:∀j v,ds[j]?=some v->cs[o+j]?=some v):(w.alloc (.cells cs.toArray t)).rangeAt w.heap.size o ds:=fun j v hv=>by
 rw[aq _ _ _ _ t (0,0) (aG w _),dV];exact h j v hv
theorem uG(x:Wr):∀j v,(U8 x.b)[j]?=some v->(dy x)[1+j]?=some v:=fun j v hv=>by
 rw[Nat.add_comm];simpa [dy] using hv
theorem jK.range{w:World}{g o n:Nat}{b:List Int}(h:jK w (some ⟨g,o,none⟩) n b):w.rangeAt g o (U8 b):=fun j v hv=>by
 have:=h.news j v hv
 rwa [fo] at this
theorem pK{w:World}{g t:Nat}{cs:List Value}(h:w.heap[g]?=some (.cells cs.toArray t (0,0)))(j:Nat)(v:Value):(w.setCell ⟨g,j,none⟩ v).heap[g]?=some (.cells (cs.set j v).toArray t (0,0)):=by
 rw[heap_setCell_same w g j cs.toArray t v h];simp
structure Ya (w w3:World) (S:Nat->Prop) (p n:Nat) (d:List Int) (ws:List Wr) (X:Wr) (q cap:Nat) (v:Value):Prop where
 str:w3.heap[p]?=some (.cells #[.slice (some ⟨q,0,none⟩) n cap,v] 121 (0,0))
 pl:Pl w3 q n cap (sec d) (newest ws d)
 wt:w3.ownsRow 0 125 65 v (ws.length+1) (WC (ws++[X]))
 sv:∀k,v.ownBlock=some k->kX S w k
 rg:w3.rangeAt w.heap.size 1 (U8 X.b)
 kp:Kept S w w3
theorem OY{w w2:World}{S:Nat->Prop}{p n:Nat}{d:List Int}{ws:List Wr}{X:Wr}{q cap:Nat}{v:Value}{g lZ:Nat}{ob:Obj}
  (hp:PD w S p n d ws q cap v) (dR:w2.ownsRow 0 125 65 (.slice (some ⟨g,0,none⟩) (ws.length+1) lZ) (ws.length+1) (WC ws++dy X))
  (cU:((w.alloc (.cells (dy X).toArray 125)).alloc ob).grownBy w2 v.ownBlock) (lf:v.ownBlock=some g\/g=w.heap.size+2) :
  w2.rangeAt w.heap.size 0 (dy X)/\w2.cell? ⟨p,1,none⟩=some v/\w2.frozen? ⟨p,1,none⟩=false/\(w2.setCell ⟨p,1,none⟩ (.slice (some ⟨g,0,none⟩) (ws.length+1) lZ)).rangeAt w.heap.size 0 (dy X) /\
  Ya w (w2.setCell ⟨p,1,none⟩ (.slice (some ⟨g,0,none⟩) (ws.length+1) lZ)) S p n d ws X q cap (.slice (some ⟨g,0,none⟩) (ws.length+1) lZ):=by
 have h1:=(hp.later (ag w (.cells (dy X).toArray 125)))
 have h2:=h1.later (ag _ ob);have hlp:=hp.bC.lt;have hlq:=hp.pl.bC.lt;have nV:((w.alloc (.cells (dy X).toArray 125)).alloc ob).heap.size=w.heap.size+2:=by simp
 have hv:∀k,v.ownBlock=some k->k<w.heap.size:=fun k hk=>(gY hp.wt hk).elim fun _ hb=>hb.lt;have bp:w2.heap[p]?=some (.cells #[.slice (some ⟨q,0,none⟩) n cap,v] 121 (0,0)):=(cU.block p (by omega) (fun e=>(h2.pv p e.symm).1 rfl)).trans h2.str;have bq:w2.heap[q]?=((w.alloc (.cells (dy X).toArray 125)).alloc ob).heap[q]?:=cU.block q (by omega) (fun e=>(h2.pv q e.symm).2 rfl);have bx:w2.heap[w.heap.size]?=(w.alloc (.cells (dy X).toArray 125)).heap[w.heap.size]? :=
  (cU.block w.heap.size (by omega) (fun e=>by have:=hv _ e.symm;omega)).trans (mL _ ob _ (by simp))
 have r2:w2.rangeAt w.heap.size 0 (dy X):=gL (oy w _ 125) bx;have hgp:g≠p:=(gU dR).1.ne ⟨_,bp,rfl⟩ (by decide);have bx3:(w2.setCell ⟨p,1,none⟩ (.slice (some ⟨g,0,none⟩) (ws.length+1) lZ)).heap[w.heap.size]?=w2.heap[w.heap.size]?:=cJ _ _ _ _ (by show w.heap.size≠p;omega);refine⟨r2,?_,mK _ _ _ _ 121 bp,gL r2 bx3,?_⟩
 ·rw[aq _ _ _ _ 121 (0,0) bp];rfl
 refine⟨pK (cs:=[_,_]) bp 1 _,?_,?_,?_,?_,?_⟩
 ·exact (h2.pl.same bq).same (cJ _ _ _ _ (fun e=>hp.pq e.symm))
 ·rw[abt];exact gO dR (fun k hk=>cJ _ _ _ _ (fun e=>hgp (by simp only[Value.ownBlock,aC] at hk;rw[hk];exact e)))
 ·intro k hk;simp only[Value.ownBlock,aC] at hk;subst hk;rcases lf with lf | lf
  ·exact .inl (hp.sv _ lf)
  ·right;omega
 ·refine gL (w:=w2) ?_ bx3;exact gL (rC w _ _ 1 125 (uG X)) bx
 ·refine Kept.setCell ?_ (fun _=>hp.sp) _;exact (((Kept.refl S w).alloc _).alloc _).grown cU (fun k hk _=>hp.sv k hk)
theorem Ya.done{w w3:World}{S:Nat->Prop}{p n:Nat}{d:List Int}{ws:List Wr}{X:Wr}{q cap:Nat}{v v0:Value}(h:Ya w w3 S p n d ws X q cap v)(hp:PD w S p n d ws q cap v0)(hs:X.s<n)(hb:X.b.length=64)(hy:Bytes X.b) :
  pz (w3.setCells q (X.s*128+64) (U8 X.b)) (kX S w) p n d (ws++[X])/\Kept S w (w3.setCells q (X.s*128+64) (U8 X.b)):=by
 have Dj:pJ w3 p 121 2:=⟨_,h.str,rfl⟩
 have Wb:p≠q:=Dj.ne h.pl.bC (by decide);have ho:∀k,k≠q->(w3.setCells q (X.s*128+64) (U8 X.b)).heap[k]?=w3.heap[k]?:=fun k hk=>jZ hk _ _ _;refine⟨⟨q,cap,v,?_⟩,Kept.setCells (fun _=>hp.sq) _ _ _ h.kp⟩;refine⟨(ho p Wb).trans h.str,?_,gO (by rw[aO,fO];exact h.wt) (fun k hk=>?_),.inl hp.sp,.inl hp.sq,h.sv,hp.n1,hp.n2,hp.dl,hp.db,hp.fit.snoc hs hb hy⟩
 ·refine (h.pl.adg X.b hb hs).congr (fun i _=>rfl) (fun i _=>?_);rw[Iz ws d i X.s X.b]
 ·obtain ⟨sz,kN⟩:=gY h.wt hk;exact ho k (kN.ne h.pl.bC (by decide))
theorem KF{w:World}{S:Nat->Prop}{p n:Nat}{d:List Int}{ws:List Wr}(h:pz w S p n d ws)(i:Nat)(hi:i<n)(a:Option Addr)(c:Nat)(b:List Int)(hb:jK w a 64 b)(hk:ws.length<=100000):Calls prog 159 #[.pointer (some ⟨p,0,none⟩),.int .i64 i,.slice a 64 c] w fun e w'=>e=.returned (.int .i64 0)/\pz w' (kX S w) p n d (ws++[⟨i,b⟩])/\Kept S w w':=by
 obtain ⟨q,cap,v,h⟩:=h;have h0:=h.cell0;obtain ⟨g,o,rfl,_⟩:=hb.cells (by omega);have HR:=zH hb.range;have HH:=zH h;have lf:∀w,(Instr.arrayAt 123 (.slice (some ⟨g,o,none⟩) 64 c)).run prog w=.ok (.pointer (some ⟨g,o,none⟩)) w:=fun w=>run_arrayAt w 123 _ 64 _ 64 c kS (by omega);have HL:=zH hb.len;have HI:Hid ((prog.info? 123).map (·.size)=some (U8 b).length):=by show _=_;rw[aX,HL.out];exact sD
 have HY:=zH hb.byte;clear h hb;go_enter func159,ntmps159;go_wp2_with fail;refine (Ig i w p n q cap h0).mono ?_;rintro e w1 ⟨rfl,rfl⟩;rw[QI,aE (by omega)];go_wp2_with (first | (refine pE (by rfl) 123 (.tmp 20) (by rfl) g o (by rfl) (U8 b) _ HR.out kS rfl HI.out ?_) | (refine AE (by rfl) (.tmp 18) (.tmp 21) (by rfl) i b (by rfl) (by rfl) HL.out ?_) | (refine mj (by rfl) (by rfl) ?_) | (refine mh (by rfl) (.tmp 8) (.tmp 22) (by rfl) ⟨i,b⟩ (by rfl) (by rfl) HL.out ?_))
 simp only[Act.put,zA,zB,zC];obtain ⟨X,hX⟩:=zE (Wr.mk i b);have Ap:Hid (X.b.length=64):=by rw[<-hX];exact HL.out
 have YJ:Hid (X.s=i/\X.b=b):=by rw[<-hX];exact⟨rfl,rfl⟩
 rw[hX];have r0:(w.alloc (.cells (dy X).toArray 125)).rangeAt w.heap.size 0 (dy X):=oy w _ 125;have nV:(w.alloc (.cells (dy X).toArray 125)).heap.size=w.heap.size+1:=by simp
 have Te:PD (w.alloc (.cells (dy X).toArray 125)) S p n d ws q cap v:=HH.out.later (ag w _);have hK0:Kept S w (w.alloc (.cells (dy X).toArray 125)):=Kept.bP (ag w _);obtain ⟨W,hW⟩:=zE (w.alloc (.cells (dy X).toArray 125));rw[hW] at r0 nV Te hK0 ⊢;have HW:=zH hW;clear hW;obtain ⟨i0,BZ,ij,gm,iL⟩:=cj VP;have c1:=Te.nH;have c2:∀ob,(W.alloc ob).cell? ⟨p,1,none⟩=some v:=fun ob=>(Te.later (ag W ob)).nH;refine zR ((fun w'=>w'.rangeAt w.heap.size 0 (dy X))) r0 fun aa=>?_;refine dz (i:=0) (v:=?v0) (by simp;rfl) (by kernel_rfl) (by kernel_rfl) (by kernel_rfl) (fun _ _ _ h=>h) (Or.inl ⟨by rfl,?y0⟩) aa ?r0
 case y0=>intro w fc;go_simp;with_reducible rfl
 simp only[Act.put,zA,zB,zC];refine dz (i:=1) (v:=?v1) (by simp;rfl) (by kernel_rfl) (by kernel_rfl) (by kernel_rfl) (fun _ _ _ h=>h) (Or.inl ⟨by rfl,?y1⟩) aa ?r1
 case y1=>intro w fc;go_simp;with_reducible rfl
 simp only[Act.put,zA,zB,zC];refine dz (i:=2) (v:=?v2) (by simp;rfl) (by kernel_rfl) (by kernel_rfl) (by kernel_rfl) (fun _ _ _ h=>h) (Or.inl ⟨by rfl,?y2⟩) aa ?r2
 case y2=>intro w fc;go_simp;with_reducible rfl
 simp only[Act.put,zA,zB,zC];refine dz (i:=3) (v:=?v3) (by simp;rfl) (by kernel_rfl) (by kernel_rfl) (by kernel_rfl) (fun _ _ _ h=>h) (Or.inl ⟨by rfl,?y3⟩) aa ?r3
 case y3=>intro w fc;go_simp;with_reducible rfl
 simp only[Act.put,zA,zB,zC];refine dz (i:=5) (v:=_) (by simp;rfl) (by kernel_rfl) (by kernel_rfl) (by kernel_rfl) (fun _ _ _ h=>h) (mT (by rfl) 125 (.tmp 8) rfl w.heap.size 0 rfl (dy X) _ (fun _ h=>h) underlying125 rfl (by rw[AX];simp[dy,Ap.out])) aa ?_;simp only[Act.put,zA,zB,zC];refine ck (rs:=[4,6]) (by kernel_rfl) (by simp) ?_;refine bu (by simp;rfl) (fun K hK=>?_) (bu (by simp;rfl) (fun K hK=>?_) bO)
 ·go_simp;refine hK.out _ _ aa (fun aa=>?_);clear hK K;refine ck (rs:=[6]) (by kernel_rfl) (by simp) ?_;refine bu (by simp;rfl) (fun K hK=>?_) bO;rw[aE (by rfl)];refine rR (.tmp 28) rfl X rfl Ap.out ?_;refine hK.out _ _ (World.rangeAt_alloc aa _) (fun aa=>?_);clear hK K;simp only[Act.put,zA,zB,zC];have e0:W.drew.heap.size=w.heap.size+1:=nV;simp only[e0,World.alloc_drew];refine ck (rs:=[7]) (by kernel_rfl) (by simp) ?_;refine bu (by simp;rfl) (fun K hK=>?_) bO;refine step_append_lies _ rfl (.tmp 27) (.tmp 29) 119 rfl 0 125 i0 _ 65 72 underlying119 BZ ij gm iL (by simp[Value.cells]) (by omega) v ws.length (WC ws) rfl (gO (Te.later (ag W (.cells (dy X).toArray 125))).wt (fun _ _=>rfl)) ⟨w.heap.size+1,0,none⟩ 1 1 (dy X) rfl (by simp[dy,Ap.out]) ?_ (uF X) (by omega) (by unfold maxLen;omega) (by omega) (aI _) (w.heap.size+2) (by simp[nV]) ?_
  ·intro j u hu;have e:=oy W (dy X) 125 j u hu;rw[nV] at e;rw[fo];exact e
  intro g2 qN w2 dR cU FY eP;rw[<-HW.out] at cU;obtain ⟨s1,s2,s3,s4,s5⟩:=OY (ob:=.cells (dy X).toArray 125) HH.out dR ⟨cU.os,cU.tape,cU.output,cU.size,cU.block⟩ (Fw FY id id);refine hK.out _ _ s1 (fun aa=>?_);clear hK K;simp only[Act.put,zA,zB,zC];refine dz (i:=8) (v:=?v8) (by simp;rfl) (by kernel_rfl) (by kernel_rfl) (by kernel_rfl) (fun _ _ _ h=>h) (Or.inl ⟨by rfl,?y8⟩) aa ?r8
  case y8=>intro w fc;go_simp;with_reducible rfl
  simp only[Act.put,zA,zB,zC];refine dz (i:=9) (v:=?v9) (by simp;rfl) (by kernel_rfl) (by kernel_rfl) (by kernel_rfl) (fun _ _ _ h=>h) (Or.inl ⟨by rfl,?y9⟩) aa ?r9
  case y9=>intro w fc;go_simp;with_reducible rfl
  simp only[Act.put,zA,zB,zC];refine ck (rs:=[10]) (by kernel_rfl) (by simp) ?_;refine bu (by simp;rfl) (fun K hK=>?_) bO;go_simp;refine hK.out _ _ s4 (fun aa=>?_);clear hK K;refine zD ?_;have t0:(w2.setCell ⟨p,1,none⟩ (.slice (some ⟨g2,0,none⟩) (ws.length+1) qN)).cell? ⟨p,0,none⟩=some (.slice (some ⟨q,0,none⟩) n cap):=by
   rw[aq _ _ _ _ 121 (0,0) s5.str];rfl
  have t1:=s5.rg;rw[YJ.out.2] at t1;have t2:(w2.setCell ⟨p,1,none⟩ (.slice (some ⟨g2,0,none⟩) (ws.length+1) qN)).there q (i*128+64) 64:=s5.pl.bC.there _ _ (by have:=s5.pl.BF;omega);have HD:Hid (pz ((w2.setCell ⟨p,1,none⟩ (.slice (some ⟨g2,0,none⟩) (ws.length+1) qN)).setCells q (i*128+64) (U8 b)) (kX S w) p n d (ws++[X])/\Kept S w ((w2.setCell ⟨p,1,none⟩ (.slice (some ⟨g2,0,none⟩) (ws.length+1) qN)).setCells q (i*128+64) (U8 b))):=by
   have:=s5.done HH.out (by rw[YJ.out.1];exact hi) Ap.out (by rw[YJ.out.2];exact HY.out);rw[YJ.out.1,YJ.out.2] at this;exact this
  have hqs:w.heap.size≠q:=by have:=HH.out.pl.bC.lt;omega
  have Wb:p≠q:=HH.out.pq;obtain ⟨w3,jM⟩:=zE (w2.setCell ⟨p,1,none⟩ (.slice (some ⟨g2,0,none⟩) (ws.length+1) qN));rw[jM] at t0 t1 t2 HD ⊢;clear jM s1 s2 s3 s4 s5 dR cU FY eP aa;go_wp2;have hu:=kS;have Wn:=HI.out;have Rz:(U8 b).length=64:=by rw[aX];exact HL.out
  have hu1:=eO b;have k0:(w3.drew.setCells q (i*128+64) (U8 b)).cell? ⟨p,0,none⟩=some (.slice (some ⟨q,0,none⟩) n cap):=by
   rw[kO _ _ _ _ _ (fun e=>absurd e Wb)];exact t0
  have k1:(w3.drew.setCells q (i*128+64) (U8 b)).rangeAt w.heap.size 1 (U8 b):=eZ (w:=w3.drew) t1 _ _ _ (Or.inl hqs);have k2:(w3.drew.setCells q (i*128+64) (U8 b)).there q (i*128+64) 64:=World.there_setCells (w:=w3.drew) t2 _ _ _;have i0':(0:Int)<=(i:Int):=by omega
  have i1':(i:Int)<(n:Int):=by omega
  go_region_held3 (fun w'=>w'.cell? ⟨p,0,none⟩=some (.slice (some ⟨q,0,none⟩) n cap)/\w'.rangeAt w.heap.size 1 (U8 b)/\w'.there q (i*128+64) 64) (first | exact⟨t0,t1,t2⟩ | exact⟨k0,k1,k2⟩) (fail)
  clear hu Wn Rz hu1 k0 k1 k2;rw[jJ];go_wp2;go_ret;rw[hX];exact⟨rfl,HD.out.1.later ⟨rfl,rfl,rfl,az _,fun _ _=>rfl⟩,HD.out.2.drew⟩
 ·rw[aE (by rfl)];refine rR (.tmp 28) rfl X rfl Ap.out ?_;refine hK.out _ _ (World.rangeAt_alloc aa _) (fun aa=>?_);clear hK K;simp only[Act.put,zA,zB,zC];refine ck (rs:=[4]) (by kernel_rfl) (by simp) ?_;refine bu (by simp;rfl) (fun K hK=>?_) bO;have c3:=c2 (.cells (dy X).toArray 125);go_simp;refine hK.out _ _ aa (fun aa=>?_);clear hK K;refine ck (rs:=[7]) (by kernel_rfl) (by simp) ?_;refine bu (by simp;rfl) (fun K hK=>?_) bO;refine step_append_lies _ rfl (.tmp 27) (.tmp 29) 119 rfl 0 125 i0 _ 65 72 underlying119 BZ ij gm iL (by simp[Value.cells]) (by omega) v ws.length (WC ws) rfl (gO (Te.later (ag W (.cells (dy X).toArray 125))).wt (fun _ _=>rfl)) ⟨w.heap.size+1,0,none⟩ 1 1 (dy X) rfl (by simp[dy,Ap.out]) ?_ (uF X) (by omega) (by unfold maxLen;omega) (by omega) (aI _) (w.heap.size+2) (by simp[nV]) ?_
  ·intro j u hu;have e:=oy W (dy X) 125 j u hu;rw[nV] at e;rw[fo];exact e
  intro g2 qN w2 dR cU FY eP;rw[<-HW.out] at cU;obtain ⟨s1,s2,s3,s4,s5⟩:=OY (ob:=.cells (dy X).toArray 125) HH.out dR ⟨cU.os,cU.tape,cU.output,cU.size,cU.block⟩ (Fw FY id id);refine hK.out _ _ s1 (fun aa=>?_);clear hK K;simp only[Act.put,zA,zB,zC];refine dz (i:=8) (v:=?v8b) (by simp;rfl) (by kernel_rfl) (by kernel_rfl) (by kernel_rfl) (fun _ _ _ h=>h) (Or.inl ⟨by rfl,?y8b⟩) aa ?r8b
  case y8b=>intro w fc;go_simp;with_reducible rfl
  simp only[Act.put,zA,zB,zC];refine dz (i:=9) (v:=?v9b) (by simp;rfl) (by kernel_rfl) (by kernel_rfl) (by kernel_rfl) (fun _ _ _ h=>h) (Or.inl ⟨by rfl,?y9b⟩) aa ?r9b
  case y9b=>intro w fc;go_simp;with_reducible rfl
  simp only[Act.put,zA,zB,zC];refine ck (rs:=[10]) (by kernel_rfl) (by simp) ?_;refine bu (by simp;rfl) (fun K hK=>?_) bO;go_simp;refine hK.out _ _ s4 (fun aa=>?_);clear hK K;refine zD ?_;have t0:(w2.setCell ⟨p,1,none⟩ (.slice (some ⟨g2,0,none⟩) (ws.length+1) qN)).cell? ⟨p,0,none⟩=some (.slice (some ⟨q,0,none⟩) n cap):=by
   rw[aq _ _ _ _ 121 (0,0) s5.str];rfl
  have t1:=s5.rg;rw[YJ.out.2] at t1;have t2:(w2.setCell ⟨p,1,none⟩ (.slice (some ⟨g2,0,none⟩) (ws.length+1) qN)).there q (i*128+64) 64:=s5.pl.bC.there _ _ (by have:=s5.pl.BF;omega);have HD:Hid (pz ((w2.setCell ⟨p,1,none⟩ (.slice (some ⟨g2,0,none⟩) (ws.length+1) qN)).setCells q (i*128+64) (U8 b)) (kX S w) p n d (ws++[X])/\Kept S w ((w2.setCell ⟨p,1,none⟩ (.slice (some ⟨g2,0,none⟩) (ws.length+1) qN)).setCells q (i*128+64) (U8 b))):=by
   have:=s5.done HH.out (by rw[YJ.out.1];exact hi) Ap.out (by rw[YJ.out.2];exact HY.out);rw[YJ.out.1,YJ.out.2] at this;exact this
  have hqs:w.heap.size≠q:=by have:=HH.out.pl.bC.lt;omega
  have Wb:p≠q:=HH.out.pq;obtain ⟨w3,jM⟩:=zE (w2.setCell ⟨p,1,none⟩ (.slice (some ⟨g2,0,none⟩) (ws.length+1) qN));rw[jM] at t0 t1 t2 HD ⊢;clear jM s1 s2 s3 s4 s5 dR cU FY eP aa;go_wp2;have hu:=kS;have Wn:=HI.out;have Rz:(U8 b).length=64:=by rw[aX];exact HL.out
  have hu1:=eO b;have k0:(w3.drew.setCells q (i*128+64) (U8 b)).cell? ⟨p,0,none⟩=some (.slice (some ⟨q,0,none⟩) n cap):=by
   rw[kO _ _ _ _ _ (fun e=>absurd e Wb)];exact t0
  have k1:(w3.drew.setCells q (i*128+64) (U8 b)).rangeAt w.heap.size 1 (U8 b):=eZ (w:=w3.drew) t1 _ _ _ (Or.inl hqs);have k2:(w3.drew.setCells q (i*128+64) (U8 b)).there q (i*128+64) 64:=World.there_setCells (w:=w3.drew) t2 _ _ _;have i0':(0:Int)<=(i:Int):=by omega
  have i1':(i:Int)<(n:Int):=by omega
  go_region_held3 (fun w'=>w'.cell? ⟨p,0,none⟩=some (.slice (some ⟨q,0,none⟩) n cap)/\w'.rangeAt w.heap.size 1 (U8 b)/\w'.there q (i*128+64) 64) (first | exact⟨t0,t1,t2⟩ | exact⟨k0,k1,k2⟩) (fail)
  clear hu Wn Rz hu1 k0 k1 k2;rw[jJ];go_wp2;go_ret;rw[hX];exact⟨rfl,HD.out.1.later ⟨rfl,rfl,rfl,az _,fun _ _=>rfl⟩,HD.out.2.drew⟩
structure EX (w wr:World) (S:Nat->Prop) (p n:Nat) (ws:List Wr) (q cap:Nat) (v:Value) (D N:Nat->List Int):Prop where
 str:wr.heap[p]?=some (.cells #[.slice (some ⟨q,0,none⟩) n cap,.slice none 0 0] 121 (0,0))
 pl:Pl wr q n cap D N
 wt:wr.ownsRow 0 125 65 v ws.length (WC ws)
 kp:Kept S w wr
theorem EX.below{w wr w':World}{S:Nat->Prop}{p n:Nat}{ws:List Wr}{q cap:Nat}{v:Value}{D N:Nat->List Int}(h:EX w wr S p n ws q cap v D N)(hb:Below wr.heap.size wr w'):EX w w' S p n ws q cap v D N :=
 have hp:p<wr.heap.size:=pJ.lt (t:=121) (sz:=2) ⟨_,h.str,rfl⟩
 ⟨(hb.block p hp).trans h.str,h.pl.same (hb.block q h.pl.bC.lt),gO h.wt (fun _ hk=>hb.block _ ((gY h.wt hk).elim fun _ hb=>hb.lt)),h.kp.trans (T:=fun _=>False) (Kept.bP hb) (fun _ _ f=>f.elim)⟩
theorem EX.cell0{w wr:World}{S:Nat->Prop}{p n:Nat}{ws:List Wr}{q cap:Nat}{v:Value}{D N:Nat->List Int}(h:EX w wr S p n ws q cap v D N):wr.cell? ⟨p,0,none⟩=some (.slice (some ⟨q,0,none⟩) n cap):=by
 rw[aq _ _ _ _ 121 (0,0) h.str];rfl
theorem EX.set{w wr:World}{S:Nat->Prop}{p n:Nat}{ws:List Wr}{q cap:Nat}{v:Value}{D N D' N':Nat->List Int}(h:EX w wr S p n ws q cap v D N)(hq:S q)(o:Nat)(vs:List Value)(hp:Pl (wr.setCells q o vs) q n cap D' N'):EX w (wr.setCells q o vs) S p n ws q cap v D' N':=by
 have Dj:pJ wr p 121 2:=⟨_,h.str,rfl⟩
 have ho:∀k,k≠q->(wr.setCells q o vs).heap[k]?=wr.heap[k]?:=fun k hk=>jZ hk _ _ _;refine⟨(ho p (Dj.ne h.pl.bC (by decide))).trans h.str,hp,gO h.wt (fun k hk=>?_),Kept.setCells (fun _=>hq) _ _ _ h.kp⟩;obtain ⟨sz,kN⟩:=gY h.wt hk;exact ho k (kN.ne h.pl.bC (by decide))
theorem EX.start{w:World}{S:Nat->Prop}{p n:Nat}{d:List Int}{ws:List Wr}{q cap:Nat}{v:Value}(h:PD w S p n d ws q cap v):EX w (w.setCell ⟨p,1,none⟩ (.slice none 0 0)) S p n ws q cap v (sec d) (newest ws d):=by
 refine⟨pK (cs:=[_,_]) h.str 1 _,h.pl.same (cJ _ _ _ _ (fun e=>h.pq e.symm)),gO h.wt (fun k hk=>cJ _ _ _ _ (h.pv k hk).1),(Kept.refl S w).setCell (fun _=>h.sp) _⟩
theorem EX.done{w wr:World}{S:Nat->Prop}{p n:Nat}{d:List Int}{ws:List Wr}{q cap:Nat}{v:Value}{N:Nat->List Int}{K:Nat->Bool}(h:EX w wr S p n ws q cap v (sec (settle K ws d)) N)(hp:PD w S p n d ws q cap v)(hn:∀i,i<n->N i=sec (settle K ws d) i):pz wr S p n (settle K ws d) [] :=
 ⟨q,cap,.slice none 0 0,h.str,h.pl.congr (fun _ _=>rfl) (fun i hi=>hn i hi),cq _ _ _ _,hp.sp,hp.sq,fun k hk=>(by simp[Value.ownBlock] at hk),hp.n1,hp.n2,iD hp.dl hp.fit _,oF hp.db hp.fit _,Fit.nil _⟩
theorem Az{w:World}{v:Value}{ws:List Wr}{n k:Nat}(h:w.ownsRow 0 125 65 v ws.length (WC ws))(hf:Fit n ws)(hk:k<ws.length):∃g c,v=.slice (some ⟨g,0,none⟩) ws.length c/\w.rangeAt g (k*65) (dy ws[k]):=by
 obtain ⟨pv,c,rfl,h0,h1⟩:=iE h;cases pv with
 | none=>have:=(h0 rfl).1;omega
 | some a =>
  obtain ⟨g,rfl⟩:=h1 a rfl;refine⟨g,c,rfl,oM h (fun j u hu=>?_)⟩;have hj:j<65:=by
   have:=(aA.1 hu).1;simpa [dy,(hf.at k hk).2.1] using this
  have e:=pT (ws.map dy) (Fa hf) k (by simpa using hk) j hj;rw[Nat.mul_comm] at e;unfold WC;rw[e];simpa using hu
theorem MM(i:Int)(w:World):Calls prog 165 #[.int .i64 i] w fun e w'=>e=.returned (.bool true)/\w=w':=by
 go_enter func165,ntmps165;go_wp2;go_ret;exact⟨rfl,rfl⟩
theorem Fj{w:World}{S:Nat->Prop}{p n:Nat}{d:List Int}{ws:List Wr}(h:pz w S p n d ws)(hk:ws.length<=100000)(K:Nat->Bool)(hKt:∀k,K k=true) :
  Calls prog 164 #[.pointer (some ⟨p,0,none⟩),.func (.func 165) #[] #[]] w fun e w'=>e=.returned (.int .i64 ws.length)/\pz w' S p n (settle K ws d) []/\Kept S w w':=by
 obtain ⟨q,cap,v,h⟩:=h;have h1:=h.nH;have hf:=h.free 1;have HH:=zH h;have HM:=zH (EX.start h);obtain ⟨pv,cv,rfl,_⟩:=iE h.wt;clear h;have HK:=zH hKt;clear hKt;go_enter func164,ntmps164;go_wp2;clear h1 hf
 go_loopw [20] (fun i wr=>∃k:Nat,k<=ws.length/\i=.int .i64 k/\Hid (EX w wr S p n ws q cap (.slice pv ws.length cv) (sec (m_ K ws d k)) (newest ws d))) (fun i _=>ws.length-(intOf i).toNat)
 case atStart=>exact⟨0,by omega,rfl,HM.out⟩
 case round =>
  obtain ⟨k,vK,rfl,HR⟩:=hrel;by_cases eP:k<ws.length
  ·obtain ⟨g,c',e,hr⟩:=Az HR.out.wt HH.out.fit eP;simp only[cE,nY] at e;obtain ⟨rfl,rfl⟩:=e;have HX:=HH.out.fit.at k eP;have HS:=zH (mZ K ws d k eP);generalize ws[k]=X at *;go_wp2_with (first | (refine pE (by rfl) 125 (.tmp 23) (by rfl) g (k*65) (by rfl) (dy X) _ hr underlying125 rfl (by rw[AX];simp[dy,HX.2.1]) ?_) | (refine mj (by rfl) (by rfl) ?_) | (refine mh (by rfl) (.tmp 7) (.tmp 24) (by rfl) X (by rfl) (by rfl) HX.2.1 ?_) | fail)
   have hM:=HR.out.below (ag wr (.cells (dy X).toArray 125));have MC:=HK.out k;refine (MM k _).mono ?_;rw[<-MC];rintro e w1 ⟨rfl,rfl⟩;cases hKk:K k with
   | false =>
    have HM2:Hid (EX w (wr.alloc (.cells (dy X).toArray 125)) S p n ws q cap (.slice (some ⟨g,0,none⟩) ws.length cv) (sec (m_ K ws d (k+1))) (newest ws d)):=by
     show EX _ _ _ _ _ _ _ _ _ _ _;rw[HS.out,hKk];exact hM
    clear hM hr HR HS hKk;go_wp2;go_roundw
    case rel=>exact⟨k+1,by omega,by go_num,HM2.out⟩
    case measure=>simp[intOf];omega
   | true =>
    have t0:=hM.cell0;have t1:(wr.alloc (.cells (dy X).toArray 125)).cell? ⟨wr.heap.size,0,none⟩=some (.int .i64 (X.s:Int)):=by
     rw[aq _ _ _ _ 125 (0,0) (aG wr _)];rfl
    have t2:(wr.alloc (.cells (dy X).toArray 125)).rangeAt wr.heap.size 1 (U8 X.b):=rC wr _ _ 1 125 (uG X);have t3:(wr.alloc (.cells (dy X).toArray 125)).there q (X.s*128) 64:=hM.pl.bC.there _ _ (by have:=hM.pl.BF;omega);have HM2:Hid (EX w ((wr.alloc (.cells (dy X).toArray 125)).setCells q (X.s*128) (U8 X.b)) S p n ws q cap (.slice (some ⟨g,0,none⟩) ws.length cv) (sec (m_ K ws d (k+1))) (newest ws d)):=by
     show EX _ _ _ _ _ _ _ _ _ _ _;rw[HS.out,hKk,aE rfl];refine hM.set HH.out.sq _ _ ((hM.pl.agw X.b HX.2.1 HX.1).congr (fun i hi=>?_) (fun _ _=>rfl));exact (Fl (iD HH.out.dl HH.out.fit k) HX.1 HX.2.1 hi).symm
    have Wb:p≠q:=HH.out.pq;have hwq:wr.heap.size≠q:=by have:=HR.out.pl.bC.lt;omega
    have Ap:=zH HX.2.1;have i1:(X.s:Int)<(n:Int):=by omega
    have i0:(0:Int)<=(X.s:Int):=by omega
    obtain ⟨W,hW⟩:=zE (wr.alloc (.cells (dy X).toArray 125));rw[hW] at t0 t1 t2 t3 HM2 ⊢;clear hM hr HR HS hKk HX hW;go_wp2;have hu:=kS;have Rz:(U8 X.b).length=64:=by rw[aX];exact Ap.out
    have Wn:(prog.info? 123).map (·.size)=some (U8 X.b).length:=by rw[Rz];exact sD
    have hu1:=eO X.b;have k0:(W.drew.setCells q (X.s*128) (U8 X.b)).cell? ⟨p,0,none⟩=some (.slice (some ⟨q,0,none⟩) n cap):=by
     rw[kO _ _ _ _ _ (fun e=>absurd e Wb)];exact t0
    have k1:(W.drew.setCells q (X.s*128) (U8 X.b)).cell? ⟨wr.heap.size,0,none⟩=some (.int .i64 (X.s:Int)):=by
     rw[kO _ _ _ _ _ (fun e=>absurd e hwq)];exact t1
    have k2:(W.drew.setCells q (X.s*128) (U8 X.b)).rangeAt wr.heap.size 1 (U8 X.b):=eZ (w:=W.drew) t2 _ _ _ (Or.inl hwq);have k3:(W.drew.setCells q (X.s*128) (U8 X.b)).there q (X.s*128) 64:=World.there_setCells (w:=W.drew) t3 _ _ _
    go_region_held3 (fun w'=>w'.cell? ⟨p,0,none⟩=some (.slice (some ⟨q,0,none⟩) n cap)/\w'.cell? ⟨wr.heap.size,0,none⟩=some (.int .i64 (X.s:Int))/\w'.rangeAt wr.heap.size 1 (U8 X.b)/\w'.there q (X.s*128) 64) (first | exact⟨t0,t1,t2,t3⟩ | exact⟨k0,k1,k2,k3⟩) (fail)
    clear hu Wn Rz hu1 k0 k1 k2 k3 t0 t1 t2 t3;rw[jJ];go_wp2;go_roundw
    case rel=>exact⟨k+1,by omega,by go_num,HM2.out.below ⟨rfl,rfl,rfl,az _,fun _ _=>rfl⟩⟩
    case measure=>simp[intOf];omega
  ·obtain rfl:ws.length=k:=by omega
   have CL:=zH HR.out;clear HR;go_wp2;clear HM;obtain ⟨w0,mI⟩:∃w0,w0=wr:=⟨_,rfl⟩
   subst mI
   go_loopw [41] (fun i wr=>∃k:Nat,k<=ws.length/\i=.int .i64 k/\Hid (EX w wr S p n ws q cap (.slice pv ws.length cv) (sec (settle K ws d)) (fun i=>again (settle K ws d) ws d i k))) (fun i _=>ws.length-(intOf i).toNat)
   case atStart=>exact⟨0,by omega,rfl,CL.out⟩
   case round =>
    obtain ⟨k,arv,rfl,HR⟩:=hrel;by_cases uW:k<ws.length
    ·obtain ⟨g,c',e,hr⟩:=Az HR.out.wt HH.out.fit uW;simp only[cE,nY] at e;obtain ⟨rfl,rfl⟩:=e;have HX:=HH.out.fit.at k uW;have HS:Hid (∀i,again (settle K ws d) ws d i (k+1)=if ws[k].s=i then sec (settle K ws d) i else again (settle K ws d) ws d i k):=fun i=>vE _ ws d i k uW;generalize ws[k]=X at *;have hM:=HR.out.below (ag wr (.cells (dy X).toArray 125));have t0:=hM.cell0;have t1:(wr.alloc (.cells (dy X).toArray 125)).cell? ⟨wr.heap.size,0,none⟩=some (.int .i64 (X.s:Int)):=by
      rw[aq _ _ _ _ 125 (0,0) (aG wr _)];rfl
     have HL:=zH (hM.pl.dl X.s HX.1);have HT:Hid ((wr.alloc (.cells (dy X).toArray 125)).drew.rangeAt q (X.s*128) (U8 (sec (settle K ws d) X.s))/\(wr.alloc (.cells (dy X).toArray 125)).drew.there q (X.s*128+64) 64):=⟨hM.pl.ze X.s HX.1,hM.pl.bC.there _ _ (by have:=hM.pl.BF;omega)⟩
     have HM2:Hid (EX w ((wr.alloc (.cells (dy X).toArray 125)).setCells q (X.s*128+64) (U8 (sec (settle K ws d) X.s))) S p n ws q cap (.slice (some ⟨g,0,none⟩) ws.length cv) (sec (settle K ws d)) (fun i=>again (settle K ws d) ws d i (k+1))):=by
      refine hM.set HH.out.sq _ _ ((hM.pl.adg _ HL.out HX.1).congr (fun _ _=>rfl) (fun i hi=>?_));show (if i=X.s then _ else _)=again (settle K ws d) ws d i (k+1);rw[HS.out i];by_cases c:i=X.s
      ·rw[aE c,aE c.symm,c]
      ·rw[aD c,aD (fun e=>c e.symm)]
     have i1:(X.s:Int)<(n:Int):=by omega
     have i0:(0:Int)<=(X.s:Int):=by omega
     clear hM HR HS;generalize sec (settle K ws d) X.s=B at *;go_wp2_with (first | (refine pE (by rfl) 125 (.tmp 43) (by rfl) g (k*65) (by rfl) (dy X) _ hr underlying125 rfl (by rw[AX];simp[dy,HX.2.1]) ?_) | (refine mj (by rfl) (by rfl) ?_) | (refine mh (by rfl) (.tmp 9) (.tmp 44) (by rfl) X (by rfl) (by rfl) HX.2.1 ?_) | fail)
     simp only[Act.put,zA,zB,zC];obtain ⟨W,hW⟩:=zE (wr.alloc (.cells (dy X).toArray 125));rw[hW] at t0 t1 HT HM2 ⊢;clear hW hr
     go_region_held3 (fun w'=>w'.cell? ⟨p,0,none⟩=some (.slice (some ⟨q,0,none⟩) n cap)/\w'.cell? ⟨wr.heap.size,0,none⟩=some (.int .i64 (X.s:Int))) (exact⟨t0,t1⟩) (fail)
     clear t0 t1;go_wp2_with (first | (refine pE (by rfl) 123 (.tmp 55) (by rfl) q (X.s*128) (by rfl) (U8 B) _ HT.out.1 kS rfl (by rw[sD,aX,HL.out]) ?_) | (refine wpList_store_mid (by rfl) 123 (.tmp 58) (.tmp 56) (by rfl) q (X.s*128+64) (U8 B).toArray (by rfl) (by rfl) (by rw[aM,aX,HL.out];exact HT.out.2) (by rw[sD,aM,aX,HL.out]) (NB B) ?_) | fail)
     rw[jJ];go_roundw
     case rel=>exact⟨k+1,by omega,by go_num,HM2.out.below ⟨rfl,rfl,rfl,az _,fun _ _=>rfl⟩⟩
     case measure=>simp[intOf];omega
    ·obtain rfl:ws.length=k:=by omega
     have HD:Hid (pz wr S p n (settle K ws d) []/\Kept S w wr):=⟨HR.out.done HH.out (fun i hi=>Sy HH.out.dl HH.out.fit hi),HR.out.kp⟩
     clear HR CL;go_wp2;go_ret;exact⟨rfl,HD.out.1,HD.out.2⟩
theorem EN{w:World}{S:Nat->Prop}{p n:Nat}{d:List Int}{ws:List Wr}(h:pz w S p n d ws)(hk:ws.length<=100000) :
  Calls prog 98 #[.pointer (some ⟨p,0,none⟩)] w fun e w'=>e=.returned (.tuple #[.int .i64 ws.length,.int .i64 0])/\pz w' S p n (settle (fun _=>true) ws d) []/\Kept S w w':=by
 go_enter func98,ntmps98;go_wp2_with fail;refine (Fj h hk (fun _=>true) (fun _=>rfl)).mono ?_;rintro e w1 ⟨rfl,hd,OU⟩;go_wp2;go_ret2;exact⟨rfl,hd,OU⟩
structure JIn (w:World) (p:Option Addr) (n:Nat) (xs:List Int):Prop where
 len:xs.length=n
 cells:0<n->∃b o,p=some ⟨b,o,none⟩/\∀i,i<n->w.cell? ⟨b,o+i,none⟩=some (.int .i64 (xs.getD i 0))
theorem JIn.lt{w:World}{a:Addr}{n:Nat}{xs:List Int}(h:JIn w (some a) n xs)(h0:0<n):a.block<w.heap.size:=by
 obtain ⟨b,o,e,hc⟩:=h.cells h0;simp only[aC] at e;subst e;exact cG w _ (hc 0 h0)
def kV (xs:List Int):Nat->Bool:=fun i=>decide ((i:Int)∈xs)
