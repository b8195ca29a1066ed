import Derived.Test.YtcdjepkhdjpjcaaGreatDoorU24
set_option maxHeartbeats 20000000
set_option maxRecDepth 100000
namespace Go.Proofs.Zq.C
open Go.Proofs.Tryz
open Go.RowKit
section
variable {w w':World} {Q:Nat} {n nx:Int} {ve:Value} {L:List En}
theorem lC.mO{S:Nat->Prop}{p:Option Addr}{m:Nat}{l:List En}(h:lC w p m l)(hk:E.Kept S w w')(hs:∀a,p=some a->0<m->¬S a.block):lC w' p m l:=by
 refine⟨h.len,h.wf,fun h0=>?_⟩;obtain ⟨b,o,e,hr⟩:=h.cells h0;exact⟨b,o,e,pN hr (hk.block b (wE hr (by rw[iM h.wf,h.len];omega)) (hs _ e h0))⟩
theorem ru{l:List En}{k:Nat}{x:En}(hx:l[k]?=some x):l.take (k+1)=l.take k++[x]:=by
 obtain ⟨kN,ex⟩:=aA.1 hx;rw[bw kN,ex]
theorem JE(L l:List En):jH L l<=L.length:=by have:=Cp L l;omega
theorem RT(h:fC w Q n ve L nx)(hk:t_ n L nx){p:Option Addr}{m c:Nat}{l:List En}(hM:lC w p m l)(hm:m<=140737488355328)(yq:∀a,p=some a->0<m->¬(a.block=Q\/ve.ownBlock=some a.block)) :
  Calls prog 106 #[.pointer (some ⟨Q,0,none⟩),.slice p m c] w fun e w'=>e=.returned (.int .i64 (jH L l:Int))/\∃xB,pX w w' Q n ve xB (lQ L l) nx:=by
 have HK:=zH hk;have HM:=zH hM;have HL:=zH hM.len;have HA:=zH h;have Tr:=zH yq;have aex:=hk.nR;clear h hk hM yq;go_enter func106,ntmps106;go_wp2_with fail
 go_loopw [12,5] (fun v v2 W=>∃(k t:Nat) (xB:Value),v=.int .i64 (k:Int)/\v2=.int .i64 (t:Int)/\k<=m/\t<=64/\Hid (t=jH L (l.take k))/\Hid (pX w W Q n ve xB (lQ L (l.take k)) nx)) (fun v _ _=>m-(intOf v).toNat)
 case atStart=>exact⟨0,0,ve,rfl,rfl,by omega,by omega,(rfl:0=jH L (l.take 0)),(pX.refl HA.out:pX w w Q n ve ve (lQ L (l.take 0)) nx)⟩
 case round =>
  obtain ⟨k,t,xB,rfl,rfl,hk,ht,HT,HW⟩:=hrel;by_cases eP:k<m
  ·obtain ⟨x,hx⟩:∃x,l[k]?=some x:=⟨_,ay (by rw[HL.out];omega)⟩
   obtain ⟨b1,o1,e1,-⟩:=HM.out.cells (by omega);have OZ:lC wr p m l:=HM.out.mO HW.out.kept Tr.out;subst e1;have yo:x.Wf:=OZ.wf x (bt hx);have Yc:=zH (ru hx);have CM:Hid (t_ n (lQ L (l.take k)) nx):=HK.out.acC _;have zO:=zH (lC.load jG OZ hx);obtain ⟨w3,jM⟩:∃w3,w3=wr.alloc (.cells (aB lN).toArray 54):=⟨_,rfl⟩
   obtain ⟨w4,nU⟩:∃w4,w4=wr.alloc (.cells (aB x).toArray 54):=⟨_,rfl⟩
   have jw:Hid ((Instr.alloc 54 true (.tuple #[])).run prog wr=.ok (.pointer (some ⟨wr.heap.size,0,none⟩)) w3):=by rw[jM];exact nj jG wr
   have jf:Hid ((Instr.storeAt 54 (.pointer (some ⟨wr.heap.size,0,none⟩)) (.agg (aB x).toArray)).run prog w3=.ok () w4):=by rw[jM,nU];exact gX jG wr x yo.len
   have b4:Below wr.heap.size wr w4:=by rw[nU];exact ag wr _
   have l4:bE 54 w4 wr.heap.size (aB x):=by rw[nU];exact bE.new _ _ _
   have YR:=zH l4;have HXL:=zH yo.len;have CA:=zH (HW.out.later b4);have z0:w4.cell? ⟨wr.heap.size,0,none⟩=some (.int .i64 x.b):=bE.cell l4 0;have i1:(k:Int)<(m:Int):=by omega
   clear jM nU b4 l4 yo hx OZ HW;obtain ⟨D,hD⟩:∃D,D=lQ L (l.take k):=⟨_,rfl⟩
   have kD:Hid (lQ L (l.take (k+1))=qm D x):=by show _=_;rw[Yc.out,ER,hD]
   have fh:Hid (jH L (l.take (k+1))=t+wZ D x):=by show _=_;rw[Yc.out,vr,hD,HT.out]
   rw[<-hD] at CA CM;have hfD:=CM.out.nR;have afm:Hid (jH L (l.take (k+1))<=64):=bJ (JE _ _) aex;clear hD Yc HT;go_wp2_with ((with_reducible refine aQ ?_);(first | ((first | (refine aK (by rfl) 54 rfl rfl zO.out ?_) | (refine iT (by rfl) 54 rfl jw.out ?_));simp only[Act.put,zA,zB,zC]) | (refine qo 54 jf.out ?_)))
   refine (Pb CA.out.at' CM.out x.b).mono ?_;rintro e w5 ⟨rfl,b5⟩;have SD:=zH (CA.out.later b5);have HL5:=zH (bE.later YR.out b5);clear b5 CA YR zO jw jf z0;generalize wr.heap.size=bx at *;have p5:w5.cell? ⟨bx,33,none⟩=some (.int .u64 x.p):=by rw[bE.cell HL5.out];exact wY HXL.out
   have p5d:w5.drew.cell? ⟨bx,33,none⟩=some (.int .u64 x.p):=p5;have q5:=SD.out.at'.c1;have q5d:w5.drew.cell? ⟨Q,1,none⟩=some xB:=q5;cases lf:EF D x.b with
   | false =>
    have HN:Hid (qm D x=D/\wZ D x=0):=Xd CM.out.up (fun y h1=>by rw[lf] at h1;cases h1);have HTN:Hid (t=jH L (l.take (k+1))):=by show _=_;rw[fh.out,HN.out.2];rfl
    have HWN:Hid (∀q,pX w (w5.drewN q) Q n ve xB (lQ L (l.take (k+1))) nx):=by
     intro q;rw[kD.out,HN.out.1];exact SD.out.later (av q)
    clear lf q5 q5d p5 p5d;go_wp2_with fail;go_quiet (fail);go_wp2;go_roundw
    case rel=>exact⟨k+1,t,xB,by congr 1,rfl,by omega,ht,HTN,HWN.out _⟩
    case measure=>simp[intOf];omega
   | true =>
    obtain ⟨y,hy,hyb⟩:=qI lf
    have hpl:mM D x.b<D.length:=(aA.1 hy).1;obtain ⟨p6,c6,rfl,hc6,hg6⟩:=E.iW SD.out.at'.row;obtain ⟨g,rfl⟩:=hg6 (by omega);obtain ⟨p7,c7,e7,hE7,-⟩:=SD.out.at'.GG CM.out.wf;cases e7;have y5:=hE7.cp hy;rw[aW] at y5;have y5d:w5.drew.cell? ⟨g,mM D x.b*34+33,none⟩=some (.int .u64 y.p):=y5;have j1:((mM D x.b:Nat):Int)<(D.length:Int):=by omega
    have j0:(0:Int)<=((mM D x.b:Nat):Int):=by omega
    by_cases hpp:y.p=x.p
    ·have HC:=zH (aeR CM.out.up lf hy hpp);have Wb:(y.p == x.p)=true:=by rw[beq_iff_eq];exact hpp
     have HTN:Hid (t+1=jH L (l.take (k+1))):=by show _=_;rw[fh.out,HC.out.2]
     have Yy:t+1<=64:=by have:=HTN.out;have:=afm.out;omega
     clear lf hpp hE7 afm hy hyb;generalize mM D x.b=kp at *;go_wp2_with fail;go_quiet (fail);have qZ:Hid (Below w5.heap.size w5 (w5.drewN nq)):=av nq;have A6:fC (w5.drewN nq) Q n (.slice (some ⟨g,0,none⟩) D.length c6) D nx:=SD.out.at'.later (av nq);have q6:=A6.c1;have ahH:=RV A6.row CM.out.wf rfl hpl (by omega);have ai3:Hid (Calls prog 167 #[.slice (some ⟨g,0,none⟩) D.length c6,.int .i64 (kp:Int),.int .i64 ((kp:Int)+1)] (w5.drewN nq) fun e w'=>e=.returned (.slice (some ⟨g,0,none⟩) (D.length-1) c6)/\eU 54 w' 0 (.slice (some ⟨g,0,none⟩) (D.length-1) c6) (D.take kp++D.drop (kp+1))/\E.Kept (·=g) (w5.drewN nq) w'):=ahH;have HA6:Hid (fC (w5.drewN nq) Q n (.slice (some ⟨g,0,none⟩) D.length c6) D nx):=A6;clear ahH A6 y5 y5d q5 q5d p5 p5d;generalize w5.drewN nq=w6 at *;go_wp2_with fail;refine ai3.out.mono ?_;rintro e w7 ⟨rfl,hO,hK7⟩;have hK8:E.Kept (fun k=>(Value.slice (some ⟨g,0,none⟩) D.length c6).ownBlock=some k) w6 w7:=hK7.wider (fun x _ e=>by subst e;rfl);have yO:Hid (pX w (w7.setCell ⟨Q,1,none⟩ (.slice (some ⟨g,0,none⟩) (D.length-1) c6)) Q n ve (.slice (some ⟨g,0,none⟩) (D.length-1) c6) (lQ L (l.take (k+1))) nx):=by
      show pX _ _ _ _ _ _ _ _;rw[kD.out];exact SD.out.trans (pX.row HA6.out qZ.out (by rw[<-HC.out.1];exact hO) hK8 (.inl rfl))
     have r1:=(pX.cells HA6.out hK8).1;have r2:=(pX.cells HA6.out hK8).2;clear hO hK7 hK8 ai3 HA6 q6;go_wp2;go_roundw
     case rel=>exact⟨k+1,t+1,_,by congr 1,by congr 1,by omega,Yy,HTN,yO⟩
     case measure=>simp[intOf];omega
    ·have HN:Hid (qm D x=D/\wZ D x=0):=Xd CM.out.up (fun z _ h1=>by rw[hy] at h1;cases h1;exact hpp);have Wb:(y.p == x.p)=false:=by rw[gp];exact hpp
     have HTN:Hid (t=jH L (l.take (k+1))):=by show _=_;rw[fh.out,HN.out.2];rfl
     have HWN:Hid (∀q,pX w (w5.drewN q) Q n ve (.slice (some ⟨g,0,none⟩) D.length c6) (lQ L (l.take (k+1))) nx):=by
      intro q;rw[kD.out,HN.out.1];exact SD.out.later (av q)
     clear lf hpp hE7 afm hy hyb;generalize mM D x.b=kp at *;go_wp2_with fail;go_quiet (fail);clear y5 y5d q5 q5d p5 p5d;go_wp2;go_roundw
     case rel=>exact⟨k+1,t,_,by congr 1,rfl,by omega,ht,HTN,HWN.out _⟩
     case measure=>simp[intOf];omega
  ·have HE:Hid (l.take k=l):=aL (by rw[HL.out];omega);have HT2:Hid (t=jH L l):=by have:=HT.out;rw[HE.out] at this;exact this
   have CI:Hid (pX w wr Q n ve xB (lQ L l) nx):=by have:=HW.out;rw[HE.out] at this;exact this
   clear HT HW HE;go_wp2;go_ret;exact⟨by rw[<-HT2.out];rfl,xB,CI.out⟩
end
end Go.Proofs.Zq.C
namespace Go.Proofs.Zq.C
open Go.RowKit
open Go.Shelf
attribute [local go_sem] Oper.semAt_some
section
variable {F:Fence} {n:Nat} {P:Program} {ops:Array Oper} {rest:List Oper} {o:Oper} {a:Act} {w w':World} {Q:Exit->Act->World->Prop}
theorem oP(h:wpListIn F n P ops Q (o :: rest) a w):wpListIn F n P ops Q (o :: rest) a w:=h
theorem FP(jt:Region.wanted o (yielded ops a.tmps)=true)(hab:o.about P w a.eval=none)(hop:∀c,o.op≠.defer c){v:Value}(dM:(execOp a.eval o).run P w=.ok (.value v) w')(h:wpListIn F n P ops Q rest (a.put o.dst v) w'):wpListIn F n P ops Q (o :: rest) a w :=
 wpListIn_step fun K hK=>by
  rw[aE jt];unfold Oper.wpIn;refine⟨fun f hf=>(by rw[hab] at hf;cases hf),?_⟩;rw[Oper.semAt_plain F _ _ hop,dM];exact hK _ _ h
theorem ad6(jt:Region.wanted o (yielded ops a.tmps)=true)(hab:o.about P w a.eval=none)(hop:∀c,o.op≠.defer c)(dM:(execOp a.eval o).run P w=.ok .skip w')(h:wpListIn F n P ops Q rest (a.put o.dst undef) w'):wpListIn F n P ops Q (o :: rest) a w :=
 wpListIn_step fun K hK=>by
  rw[aE jt];unfold Oper.wpIn;refine⟨fun f hf=>(by rw[hab] at hf;cases hf),?_⟩;rw[Oper.semAt_plain F _ _ hop,dM];exact hK _ _ h
theorem rH(jt:Region.wanted o (yielded ops a.tmps)=true)(ty:TypeId){x:Operand}(ho:o.op=.load ty x){p v:Value}(hx:a.eval x=p)(dM:(Instr.loadAt ty p).run P w=.ok v w)(h:wpListIn F n P ops Q rest (a.put o.dst v) w):wpListIn F n P ops Q (o :: rest) a w :=
 FP jt (by simp[Oper.about,ho]) (by rw[ho];intro c e;cases e) (by unfold execOp;simp only[ho,hx,aU,dM,aH,bQ]) h
theorem oQ(jt:Region.wanted o (yielded ops a.tmps)=true)(ty:TypeId)(ho:o.op=.alloc ty){v:Value}(dM:(Instr.alloc ty true (.tuple #[])).run P w=.ok v w')(h:wpListIn F n P ops Q rest (a.put o.dst v) w'):wpListIn F n P ops Q (o :: rest) a w :=
 FP jt (by simp[Oper.about,ho]) (by rw[ho];intro c e;cases e) (by unfold execOp;simp only[ho,aU,dM,aH,bQ]) h
theorem nE(jt:Region.wanted o (yielded ops a.tmps)=true)(ty:TypeId){x y:Operand}(ho:o.op=.store ty x y){p v:Value}(hx:a.eval x=p)(hy:a.eval y=v)(dM:(Instr.storeAt ty p v).run P w=.ok () w')(h:wpListIn F n P ops Q rest (a.put o.dst undef) w'):wpListIn F n P ops Q (o :: rest) a w :=
 ad6 jt (by simp[Oper.about,ho]) (by rw[ho];intro c e;cases e) (by unfold execOp;simp only[ho,hx,hy,aU,dM,aH,bQ]) h
end
theorem kj{V V':World}(h:Below V.heap.size V V')(B:Nat):KeepsFrom B V V':=⟨h.size,fun k _ _ hk _=>(h.block k (au.1 hk).1).trans hk⟩
theorem kL{β:Type}{B:Nat}{J:β->World->Prop}(h:OwnFrom B J){s:β}{V V':World}(hs:J s V)(hb:Below V.heap.size V V'):J s V':=h s V V' none hs (ko hb) (fun _ e=>by cases e)
end Go.Proofs.Zq.C
namespace Go.Proofs.Zq.C
open Go.Proofs.Tryz
open Go.RowKit
open Go.Shelf
attribute [local go_sem] Oper.semAt_some
abbrev WE:={ e:En // e.Wf }
abbrev xw (xs:List WE):List En:=xs.map (·.1)
abbrev uH (B:Nat):Value:=.func (.func 82) #[] #[.pointer (some ⟨B,0,none⟩)]
theorem Gs(p:Option Addr)(w:World):Calls prog 34 #[.pointer p] w fun e w'=>e=.returned (uH w.heap.size)/\w'=w.alloc (.cells #[.pointer p] 35):=by
 go_enter func34,ntmps34;go_wp2;go_ret;exact⟨rfl,rfl⟩
def oZ (w:World)(p:Option Addr)(L:List En):Prop:=(p=none/\L=[])\/∃Q n ve nx,p=some ⟨Q,0,none⟩/\fC w Q n ve L nx/\dW L/\L.length<=64
theorem oZ.nR{w:World}{p:Option Addr}{L:List En}(h:oZ w p L):L.length<=64:=by
 rcases h with ⟨_,rfl⟩ | ⟨Q,n,ve,nx,_,_,_,h2⟩
 ·simp
 ·exact h2
theorem wX(xs:List WE)(x:WE):xw (xs++[x])=xw xs++[x.1]:=by simp[xw]
theorem tD(F:Fence)(n:Nat)(h7:F.fn 82)(vJ:F.round=none)(l B:Nat)(J:List WE->World->Prop)(W:World)(hB:W.cell? ⟨B,0,none⟩=some (.pointer none))(h0:J [] W) :
  CallsIn F n prog 82 #[.func (.yield l) #[] #[],.pointer (some ⟨B,0,none⟩)] W fun e W'=>(∃v,e=.returned v)/\J [] W':=by
 refine jx func82 rfl h7 ?_ vJ;simp only[ntmps82,aM,bz,dH,Nat.reduceAdd,Nat.reduceSub,dw,dn,dS,dF,bF,ct];gi_wp2;refine cC (kF rfl _ _ _) rfl ?_;exact⟨⟨_,rfl⟩,h0⟩
theorem Nt(F:Fence)(n:Nat)(h7:F.fn 82)(vJ:F.round=none)(_hn:1<=n)(l B Q fJ:Nat)(m nx:Int)(ve:Value)(L:List En)(iN:World)(hz:iN.heap.size=fJ)(hC:fC iN Q m ve L nx)(hw:dW L)(h64:L.length<=64)(J Jx:List WE->World->Prop)(W:World)(hJ:OwnFrom W.heap.size J)
  (hY:∀pre x V,J pre V->pre.length<L.length->YieldAt F (n-1) prog l #[.agg (aB x.1).toArray] V fun e V'=>KeepsFrom W.heap.size V V'/\((e=.returned (.bool true)/\J (pre++[x]) V'/\Below fJ V V')\/(e=.returned (.bool false)/\Jx (pre++[x]) V')))
  (hb:Below fJ iN W) (hB:W.cell? ⟨B,0,none⟩=some (.pointer (some ⟨Q,0,none⟩))) (h0:J [] W) :
  CallsIn F n prog 82 #[.func (.yield l) #[] #[],.pointer (some ⟨B,0,none⟩)] W fun e W'=>(∃v,e=.returned v)/\((∃xs,xw xs=L/\J xs W')\/(∃pre,xw pre <+: L/\Jx pre W')):=by
 subst hz;obtain ⟨p,c,rfl,hE,hc⟩:=(hC.later hb).GG hw;have c1:=(hC.later hb).c1;have HE:Hid (∀V,Below iN.heap.size iN V->lC V p L.length L):=fun V hV=>by
  obtain ⟨p',c',e',hE',-⟩:=(hC.later hV).GG hw;cases e';exact hE'
 have HB0:=zH hb;have HW:=zH hw;have HJ:=zH hJ;have HY:=zH hY;clear hC hE hb hw hJ hY;refine jx func82 rfl h7 ?_ vJ;simp only[ntmps82,aM,bz,dH,Nat.reduceAdd,Nat.reduceSub,dw,dn,dS,dF,bF,ct];gi_wp2
 gi_loopw [12] (fun i wr=>∃k:Nat,k<=L.length/\i=.int .i64 k/\Hid (∃xs:List WE,xw xs=L.take k/\J xs wr)/\Hid (Below iN.heap.size iN wr)) (fun i _=>L.length-(intOf i).toNat)
 case atStart=>exact⟨0,aI _,rfl,(⟨[],rfl,h0⟩:∃xs:List WE,xw xs=L.take 0/\J xs W),HB0⟩
 case round =>
  obtain ⟨k,hk,rfl,SG,HB⟩:=hrel;by_cases eP:k<L.length
  ·obtain ⟨xs,Yu,Ak⟩:=SG.out;obtain ⟨x,hx⟩:∃x,L[k]?=some x:=⟨_,ay eP⟩
   have yo:x.Wf:=HW.out x (bt hx);have hEr:=HE.out wr HB.out;obtain ⟨b1,o1,rfl,-⟩:=hEr.cells (by omega);have zO:=zH (lC.load jG hEr hx);obtain ⟨w3,jM⟩:∃w3,w3=wr.alloc (.cells (aB lN).toArray 54):=⟨_,rfl⟩
   obtain ⟨w4,nU⟩:∃w4,w4=wr.alloc (.cells (aB x).toArray 54):=⟨_,rfl⟩
   have jw:Hid ((Instr.alloc 54 true (.tuple #[])).run prog wr=.ok (.pointer (some ⟨wr.heap.size,0,none⟩)) w3):=by rw[jM];exact nj jG wr
   have jf:Hid ((Instr.storeAt 54 (.pointer (some ⟨wr.heap.size,0,none⟩)) (.agg (aB x).toArray)).run prog w3=.ok () w4):=by rw[jM,nU];exact gX jG wr x yo.len
   have b4:Below wr.heap.size wr w4:=by rw[nU];exact ag wr _
   have YR:Hid ((Instr.loadAt 54 (.pointer (some ⟨wr.heap.size,0,none⟩))).run prog w4=.ok (.agg (aB x).toArray) w4):=by rw[nU];exact bE.yV jG (bE.new _ _ _) yo.len
   have J4:J xs w4:=kL HJ.out Ak b4;have Gw:Hid (Below iN.heap.size iN w4):=ah HB.out b4;have hlen:xs.length=k:=by
    have:=congrArg List.length Yu;rw[dI,cr] at this;omega
   obtain ⟨fn,tmps,assign,body,hy,hR⟩:=HY.out xs ⟨x,yo⟩ w4 J4 (by omega);have HT:Hid (xw (xs++[⟨x,yo⟩])=L.take (k+1)):=by
    obtain ⟨kN,ex⟩:=aA.1 hx;show _=_;rw[wX,Yu,bw kN,ex]
   have i1:(k:Int)<(L.length:Int):=by omega
   dsimp only at hy;clear jM nU b4 hx hEr SG Ak Yu J4 hlen;gi_wp2_with ((with_reducible refine oP ?_);(first | ((first | (refine rH (by rfl) 54 rfl rfl zO.out ?_) | (refine rH (by rfl) 54 rfl rfl YR.out ?_) | (refine oQ (by rfl) 54 rfl jw.out ?_));simp only[Act.put,zA,zB,zC]) | ((refine nE (by rfl) 54 rfl rfl rfl jf.out ?_);simp only[Act.put])))
   refine hR.mono ?_;rintro e V3 ⟨-,(⟨rfl,Tl,tU⟩ | ⟨rfl,zy⟩)⟩
   ·have HJ3:Hid (∃ys:List WE,xw ys=L.take (k+1)/\J ys V3):=⟨_,HT.out,Tl⟩
    have vN:=zH (Gw.out.trans tU);clear Tl tU;gi_wp2;go_roundw
    case rel=>exact⟨k+1,by omega,by simp,HJ3,vN⟩
    case measure=>simp[intOf];omega
   ·have HJx:Hid (∃pre,xw pre <+: L/\Jx pre V3):=⟨_,by rw[HT.out];exact List.take_prefix _ _,zy⟩
    clear zy;gi_wp2;refine cC (kF rfl _ _ _) rfl ?_;exact⟨⟨_,rfl⟩,.inr HJx.out⟩
  ·have HF:Hid (∃xs:List WE,xw xs=L/\J xs wr):=by
    obtain ⟨xs,h1,h2⟩:=SG.out;exact⟨xs,by rw[h1,aL (by omega)],h2⟩
   clear SG;gi_wp2
   go_end0
   exact⟨⟨_,rfl⟩,.inl HF.out⟩
theorem XK(F:Fence)(n:Nat)(h7:F.fn 82)(vJ:F.round=none)(hn:1<=n)(B fJ:Nat)(p:Option Addr)(L:List En)(w iN:World)(sY:fJ<=w.heap.size)(BV:Below fJ iN w)(BU:iN.heap.size=fJ)
  (hB:Boxed w B 35 (.pointer p)) (hS:oZ iN p L) :
  E.Ke F n prog 82 #[.pointer (some ⟨B,0,none⟩)] (fun x:WE=>#[.agg (aB x.1).toArray]) (Below fJ) (fun ys=>xw ys=L) (fun pre=>xw pre <+: L) L.length w:=fun l J Jx W hW hJ _ hY h0=>by
 have MH:=(hW.cell (p:=⟨B,0,none⟩) hB.lt).trans hB.cell;have yD:Below fJ iN W:=BV.trans (hW.mono sY);rcases hS with ⟨rfl,rfl⟩ | ⟨Q,m,ve,nx,rfl,hC,h1,h2⟩
 ·exact (tD F n h7 vJ l B J W MH h0).mono fun e W' ⟨he,hj⟩=>⟨he,.inl ⟨_,rfl,hj⟩⟩
 ·exact Nt F n h7 vJ hn l B Q fJ m nx ve L iN BU hC h1 h2 J Jx W hJ hY yD MH h0
end Go.Proofs.Zq.C
namespace Go.Proofs.Zq.C
open Go.Proofs.Tryz
open Go.RowKit
open Go.Shelf
attribute [local go_sem] Oper.semAt_some
theorem Na(w:World)(cs:List Value)(ty:TypeId):∀j u,cs[j]?=some u->(w.alloc (.cells cs.toArray ty)).cell? ((⟨w.heap.size,0,none⟩:Addr).add j)=some u:=fun j u hu=>by
 rw[fo,aW,aq _ w.heap.size j _ ty (0,0) (aG w _)];simpa using hu
section
variable {F:Fence} {n:Nat} {P:Program} {ops:Array Oper} {rest:List Oper} {o:Oper} {a:Act} {w w':World} {Q:Exit->Act->World->Prop}
theorem IX(jt:Region.wanted o (yielded ops a.tmps)=true)(ty:TypeId){x:Operand}(ho:o.op=.buildSlice ty 1 #[(0,x)]){u v:Value}(hx:a.eval x=u)(dM:(Instr.buildSlice ty 1 #[(0,u)]).run P w=.ok v w')(h:wpListIn F n P ops Q rest (a.put o.dst v) w'):wpListIn F n P ops Q (o :: rest) a w :=
 FP jt (by simp[Oper.about,ho]) (by rw[ho];intro c e;cases e) (by
  have e:(#[(0,x)]:Array (Nat × Operand)).map (fun (i,y)=>(i,a.eval y))=#[(0,u)]:=by simp[hx]
  unfold execOp;simp only[ho];rw[e];simp only[aU,dM,aH,bQ]) h
theorem EG(jt:Region.wanted o (yielded ops a.tmps)=true){s x:Operand}{t ty:TypeId}(ho:o.op=.call { callee:=.builtin .append,args:=#[s,x],argTypes:=#[t,t] })(hty:o.type=ty){u1 u2 v:Value}(hs:a.eval s=u1)(hx:a.eval x=u2)(dM:(Builtin.append_ #[t,t] ty #[u1,u2]).run P w=.ok v w')(h:wpListIn F n P ops Q rest (a.put o.dst v) w'):wpListIn F n P ops Q (o :: rest) a w:=by
 subst hty;refine FP jt ?_ (by rw[ho];intro c e;cases e) (v:=v) (w':=w') ?_ h
 ·simp[Oper.about,ho,resolve,Target.leads,Sem.run_pure]
 ·simp[execOp,ho,resolve,invoke,builtin,hs,hx,dM,Result.andThen]
end
theorem aac(w:World)(m:Nat)(hm:m<=10000):∃cur:Array Value,(Instr.makeSlice 47 (.int .i64 0) (.int .i64 (m:Int))).run prog w=.ok (.slice (some ⟨w.heap.size,0,none⟩) 0 m) (w.alloc (.cells cur 54))/\cur.size=m*34:=by
 obtain ⟨i0,hi,h0,h1,h2⟩:=cj jG.inf;have Kr:(i0.bytes:Int)*(m:Int)<=281474976710656:=by rw[h2];omega
 have:=run_make (P:=prog) w 47 54 i0 _ jG.ut hi h0 .i64 .i64 0 (m:Int) (by omega) (by omega) Kr (by omega);rw[Int.toNat_natCast,h1] at this;exact⟨_,this,by simp[madeCells]⟩
theorem Ju{V:World}{fJ B k cap:Nat}{q:Option Addr}{l:List En}{x:En}(hb:Boxed V B 47 (.slice q k cap))(hr:V.ownsRow fJ 54 34 (.slice q k cap) k (EC l))(hx:x.Wf)(sY:fJ<=V.heap.size)(hB:fJ<=B)(hk:k<=9000) :
  ∃g' lZ V4,(Builtin.append_ #[47,47] 47 #[.slice q k cap,.slice (some ⟨V.heap.size,0,none⟩) 1 1]).run prog (V.alloc (.cells (aB x).toArray 54))=.ok (.slice (some ⟨g',0,none⟩) (k+1) lZ) V4/\Boxed V4 B 47 (.slice q k cap) /\
   (Boxed (V4.setCell ⟨B,0,none⟩ (.slice (some ⟨g',0,none⟩) (k+1) lZ)) B 47 (.slice (some ⟨g',0,none⟩) (k+1) lZ)/\(V4.setCell ⟨B,0,none⟩ (.slice (some ⟨g',0,none⟩) (k+1) lZ)).ownsRow fJ 54 34 (.slice (some ⟨g',0,none⟩) (k+1) lZ) (k+1) (EC (l++[x])) /\
    KeepsOthers V (V4.setCell ⟨B,0,none⟩ (.slice (some ⟨g',0,none⟩) (k+1) lZ))/\Below fJ V (V4.setCell ⟨B,0,none⟩ (.slice (some ⟨g',0,none⟩) (k+1) lZ)) /\
    ∀j t u,t≠54->j≠B->Boxed V j t u->Boxed (V4.setCell ⟨B,0,none⟩ (.slice (some ⟨g',0,none⟩) (k+1) lZ)) j t u):=by
 obtain ⟨i0,hi,ij,gm,iL⟩:=cj jG.inf;have h65:(10000:Nat)<=maxLen:=by decide
 obtain ⟨v',V4,dM,wQ,cU,-⟩:=run_append_own (P:=prog) (V.alloc (.cells (aB x).toArray 54)) fJ 47 47 54 i0 _ 34 48 jG.ut hi ij gm iL rfl (by decide) (.slice q k cap) k (EC l) (hr.alloc _) ⟨V.heap.size,0,none⟩ 1 1 (aB x) (by rw[cI hx.len]) (Na V (aB x) 54) (jv x) (by omega) (by omega) (by simp;omega);have hsh:=O.qE wQ (by omega);obtain ⟨g',lZ,rfl,-,-,-⟩:=hsh;obtain ⟨OK,uT,OM,wR,jb⟩:=hb.appended (by decide) hr sY hB wQ cU;rw[<-PT] at OM;exact⟨g',lZ,V4,dM,OK,uT,OM,wR,jb,fun j t u ht hj hbj=>((hbj.alloc _).kept cU (hbj.not_row ht hr)).other hj _⟩
theorem adt(t:Array Value)(k:Nat)(v:Value):(#[k].zip #[v]).foldl (fun t (p,v)=>t.setIfInBounds p v) t=t.setIfInBounds k v:=by simp
def Got (fJ B K:Nat)(pre:List WE)(W:World):Prop:=∃v,Boxed W B 47 v/\W.ownsRow fJ 54 34 v pre.length (EC (xw pre))/\pre.length<=K
theorem Om(fJ B K C:Nat):OwnFrom C (Got fJ B K) :=
 Own.from (holdsRow_own (β:=List WE) fJ B 47 54 34 (fun pre=>pre.length) (fun pre=>EC (xw pre)) (fun pre _=>pre.length<=K)) C
theorem ownsRow_putObj{W:World}{base n D:Nat}{e:TypeId}{size:Nat}{v:Value}{xs:List Value}{o:Obj}(h:W.ownsRow base e size v n xs)(o':Obj)(hK:W.heap[D]?=some o)(ho:o.isCells=false):(W.putObj D o').ownsRow base e size v n xs:=E.qF h fun g hg=>by
 refine World.putObj_heap_other ?_;rintro rfl;obtain ⟨cur,hc⟩:=E.rz h hg;rw[hK] at hc;cases hc;cases ho
section
variable {w:World} {p:Option Addr} {L:List En}
theorem Ae(hS:oZ w p L):Calls prog 20 #[.pointer p] w fun e w'=>e=.returned (.int .i64 (L.length:Int))/\w'=w:=by
 rcases hS with ⟨rfl,rfl⟩ | ⟨Q,n,ve,nx,rfl,h,-,-⟩
 ·exact len_nil w
 ·exact Mk h
theorem JB(hS:oZ w p L):Calls prog 12 #[.pointer p] w fun e w'=>∃v,e=.returned v/\eU 54 w' w.heap.size v L/\Below w.heap.size w w':=by
 have h64:=hS.nR;have HS:=zH hS;obtain ⟨cur,Jg,hcs⟩:=aac w L.length (by omega);have h65:(10000:Nat)<=maxLen:=by decide
 obtain ⟨w1,dZ⟩:∃w1,w1=w.alloc (.cells cur 54):=⟨_,rfl⟩
 rw[<-dZ] at Jg;have B1:Below w.heap.size w w1:=by rw[dZ];exact ag w _
 have s1:w1.heap.size=w.heap.size+1:=by rw[dZ];simp
 have r1:w1.ownsRow w.heap.size 54 34 (.slice (some ⟨w.heap.size,0,none⟩) 0 L.length) 0 []:=by rw[dZ];exact gN w cur L.length (az _) (by omega) hcs
 obtain ⟨w2,gz⟩:∃w2,w2=w1.alloc (.cells #[.slice (some ⟨w.heap.size,0,none⟩) 0 L.length] 47):=⟨_,rfl⟩
 have alD:w1.alloc (.cells #[.slice (some ⟨w.heap.size,0,none⟩) 0 L.length] 47)=w2:=gz.symm;have B2:Below w1.heap.size w1 w2:=by rw[gz];exact ag w1 _
 have b2:Boxed w2 (w.heap.size+1) 47 (.slice (some ⟨w.heap.size,0,none⟩) 0 L.length):=by rw[<-s1,gz];exact Boxed.new w1 _ _
 have s2:w2.heap.size=w.heap.size+2:=by rw[gz];simp[s1]
 obtain ⟨w3,jM⟩:∃w3,w3=w2.alloc (.cells #[.pointer p] 35):=⟨_,rfl⟩
 have B3:Below w2.heap.size w2 w3:=by rw[jM];exact ag w2 _
 have b3:Boxed w3 (w.heap.size+2) 35 (.pointer p):=by rw[<-s2,jM];exact Boxed.new w2 _ _
 have s3:w3.heap.size=w.heap.size+3:=by rw[jM];simp[s2]
 have HBX:Hid (Boxed w3 (w.heap.size+1) 47 (.slice (some ⟨w.heap.size,0,none⟩) 0 L.length)):=(B3.block _ b2.lt).trans b2;have HBP:=zH b3;have YL:=zH (E.dD (E.dD r1 B2) B3);have HB:Hid (Below w.heap.size w w3):=ah B1 (ah B2 B3);have Gt:=zH s3;have aja:Hid (Calls prog 34 #[.pointer p] w2 fun e w'=>e=.returned (uH (w.heap.size+2))/\w'=w3):=by
  have:=Gs p w2;rw[s2,<-jM] at this;exact this
 have jw:Hid ((Instr.alloc 47 true (.tuple #[])).run prog w1=.ok (.pointer (some ⟨w.heap.size+1,0,none⟩)) (w1.alloc (.cells #[.slice none 0 0] 47))):=by rw[<-s1];rfl
 have jf:Hid ((Instr.storeAt 47 (.pointer (some ⟨w.heap.size+1,0,none⟩)) (.slice (some ⟨w.heap.size,0,none⟩) 0 L.length)).run prog (w1.alloc (.cells #[.slice none 0 0] 47))=.ok () w2):=by
  have b:Boxed (w1.alloc (.cells #[.slice none 0 0] 47)) (w.heap.size+1) 47 (.slice none 0 0):=by rw[<-s1];exact Boxed.new w1 _ _
  have c1:=b.cell;have f1:=b.frozen;have e2:(w1.alloc (.cells #[.slice none 0 0] 47)).setCell ⟨w.heap.size+1,0,none⟩ (.slice (some ⟨w.heap.size,0,none⟩) 0 L.length)=w2:=by
   rw[bM _ (w.heap.size+1) 0 _ 47 (0,0) _ b,gz,<-s1];exact jA w1 _ _ _
  show _=_;rw[<-e2];go_simp
 clear dZ gz jM B1 B2 B3 b2 b3 s1 s2 s3 r1 hS hcs alD;refine (iR (n:=9)).1 ?_;refine callsIn_of_wp_marks func12 rfl trivial ?_ rfl;simp only[ntmps12,aM,bz,dH,Nat.reduceAdd,Nat.reduceSub,dw,dn,dS,dF,bF,ct];gi_wp2_with fail;refine⟨trivial,(iR.2 (Ae HS.out)).mono ?_⟩;rintro e w' ⟨rfl,rfl⟩;gi_wp2_with ((with_reducible refine oP ?_);(first | ((refine oQ (by rfl) 47 rfl jw.out ?_);simp only[Act.put,zA,zB,zC]) | ((refine nE (by rfl) 47 rfl rfl rfl jf.out ?_);simp only[Act.put])))
 refine⟨trivial,(iR.2 aja.out).mono ?_⟩;rintro e w4 ⟨rfl,rfl⟩;clear Jg jw jf aja;gi_wp2;refine E.wF (F:=Fence.wide) (n:=9) (P:=prog) rfl (by decide) (gf:=82) (lb:=#[.pointer (some ⟨w'.heap.size+2,0,none⟩)]) rfl trivial (enters_of func82 (by kernel_rfl) rfl)
  (XK Fence.wide (9-1) trivial rfl (by decide) (w'.heap.size+2) w'.heap.size p L w4 w' HB.out.size HB.out rfl HBP.out HS.out) belowK_t (fun W l o o' hl h hc=>(aV _ W).grown (grownBy_putObj' W l o') (by have:=Gt.out;have:=(au.1 h).1;omega) (fun k e=>by cases e;have:=Gt.out;omega)) (aV _ _) (fun _=>rfl)
  (fun pre W=>Got w'.heap.size (w'.heap.size+1) 64 pre W/\Below w'.heap.size w' W) (fun _ _ _=>False) ?hI (fun _ _ _ _ _ h=>h.elim) ⟨⟨_,HBX.out,YL.out,aI _⟩,HB.out⟩
  (fun x a' W=>∃Bx,bE 54 W Bx (aB x.1)/\a'={ tmps:=#[.pointer p,undef,.slice none 0 0,.pointer (some ⟨w'.heap.size+1,0,none⟩),.pointer (some ⟨Bx,0,none⟩),.pointer p,.int .i64 L.length,.slice (some ⟨w'.heap.size,0,none⟩) 0 L.length,.pointer p,uH (w'.heap.size+2),.agg (aB x.1).toArray,undef,undef,undef,undef,undef],defers:=[] })
  ?hAx ?assign ?body ?done ?stop
 case hI=>exact OwnFrom.and (Om _ _ _ _) (ownFrom_below (az _) HB.out.size)
 case hAx =>
  rintro x a' _ V V' row ⟨Bx,h1,h2⟩ hg hr;exact⟨Bx,(grownBy_keeps_cells hg (fun r e=>(hr r e).2) h1 rfl).trans h1,h2⟩
 case assign =>
  rintro l1 pre x V K ⟨⟨v,h1,h2,Cj⟩,h6⟩ hK;have A4:=zH (nj jG V);have T4:=zH (gX jG V x.1 x.2.len);have hb:=ag V (.cells (aB x.1).toArray 54);have Y:=hK _ _ (kj hb w4.heap.size) (hb.mono h6.size) ⟨⟨v,h1.alloc _,h2.alloc _,Cj⟩,h6.trans (hb.mono h6.size)⟩ ⟨V.heap.size,bE.new 54 V (aB x.1),rfl⟩;have HY:=zH Y;clear hK h1 h2 h6 hb Y;rw[adt];simp only[zA,zB,zC];gi_wp2_with ((with_reducible refine oP ?_);(first | ((refine oQ (by rfl) 54 rfl A4.out ?_);simp only[Act.put,zA,zB,zC]) | ((refine nE (by rfl) 54 rfl rfl rfl T4.out ?_);simp only[Act.put])))
  exact HY.out
 case body =>
  rintro l1 pre x a' V ⟨⟨v,h1,h2,Cj⟩,h6⟩ ⟨Bx,hx,rfl⟩ eP;obtain ⟨q,cap,rfl⟩:=E.cB h2;have c4:=h1.cell;have zO:=zH (bE.yV jG hx x.2.len);have CO:=zH (mE jG V x.1 x.2.len);obtain ⟨g',lZ,V4,dM,OK,uT⟩:=Ju h1 h2 x.2 h6.size (by omega) (by omega);have afo:=zH dM;have k1:=OK.cell;have k2:=OK.frozen;have yO:Hid (KeepsFrom w4.heap.size V (V4.setCell ⟨w'.heap.size+1,0,none⟩ (.slice (some ⟨g',0,none⟩) (pre.length+1) lZ))/\Below w'.heap.size V (V4.setCell ⟨w'.heap.size+1,0,none⟩ (.slice (some ⟨g',0,none⟩) (pre.length+1) lZ))/\(Got w'.heap.size (w'.heap.size+1) 64 (pre++[x]) (V4.setCell ⟨w'.heap.size+1,0,none⟩ (.slice (some ⟨g',0,none⟩) (pre.length+1) lZ))/\Below w'.heap.size w' (V4.setCell ⟨w'.heap.size+1,0,none⟩ (.slice (some ⟨g',0,none⟩) (pre.length+1) lZ)))):=by
   refine⟨uT.2.2.1.from _,uT.2.2.2.1,⟨_,uT.1,?_,?_⟩,h6.trans uT.2.2.2.1⟩
   ·rw[wX,show (pre++[x]).length=pre.length+1 by simp];exact uT.2.1
   ·simp;omega
  clear dM OK uT h1 h2 h6 hx;gi_wp2_with ((with_reducible refine oP ?_);(first | (refine rH (by rfl) 54 rfl rfl zO.out ?_) | (refine IX (u:=.agg (aB x.1).toArray) (by rfl) 47 rfl rfl CO.out ?_) | (refine EG (u1:=.slice q pre.length cap) (u2:=.slice (some ⟨V.heap.size,0,none⟩) 1 1) (by rfl) rfl rfl rfl rfl afo.out ?_));simp only[Act.put,zA,zB,zC])
  exact yO.out
 case done =>
  rintro D ys W hD YF ⟨⟨v,h1,h2,Cj⟩,h6⟩ hK;obtain ⟨q,cap,rfl⟩:=E.cB h2;have hb:=h1.cell;have HZ:Hid (eU 54 (W.putObj D (.deferred none)) w'.heap.size (.slice q ys.length cap) L/\Below w'.heap.size w' (W.putObj D (.deferred none))):=by
   have e1:xw ys=L:=YF;have e2:ys.length=L.length:=by rw[<-e1,dI]
   refine⟨?_,h6.trans (belowK_b (w:=w') (az _) _ D _ _ (by have:=Gt.out;omega) hK rfl rfl)⟩;have:=ownsRow_putObj h2 (.deferred none) hK rfl;show World.ownsRow _ _ _ _ _ _ _;rw[e1,e2] at this;rw[e2];exact this
  clear h1 h2 h6 YF;gi_wp2;refine⟨by simp,.inl ⟨_,_,rfl,run_takeDeferred hK,?_⟩⟩;exact⟨_,by simp[results,results12,go_sem],_,rfl,HZ.out⟩
 case stop =>
  rintro D c pre W hD yt h hK;exact h.elim
end
end Go.Proofs.Zq.C
namespace Go.Proofs.Zq.C
open Go.RowKit
theorem eH{w:World}{base lW:Nat}{e:TypeId}{size:Nat}{v:Value}{n:Nat}{xs:List Value}(h:w.ownsRow base e size v n xs)(hb:lW<=base):w.ownsRow lW e size v n xs:=by
 refine⟨h.1,?_⟩;rcases h.2 with h | ⟨g,cap,cur,e1,h1,r⟩
 ·exact .inl h
 ·exact .inr ⟨g,cap,cur,e1,bJ hb h1,r⟩
open Go.Proofs.Tryz
section
variable {P:Program} {ops:Array Oper} {S:World->Prop} {o:Oper} {a:Act}
theorem jE(jt:Region.wanted o (yielded ops a.tmps)=true)(ty:TypeId){ps:Array (Nat × Operand)}(ho:o.op=.build ty ps){vs:List (Nat × Value)}{v:Value}(hx:ps.toList.map (fun (i,x)=>(i,a.eval x))=vs)(dM:∀w,(Instr.build ty vs.toArray).run P w=.ok v w):YieldsIf P ops S o v a :=
 .inl ⟨jt,fun w _=>by unfold execOp;simp only[ho];rw[show ps.map (fun (i,x)=>(i,a.eval x))=vs.toArray by rw[<-hx,<-ny]];simp only[aU,dM,aH,bQ]⟩
theorem CS{w w':World}{K:Act->World->Prop}{Q:Exit->Act->World->Prop}{E:Prop}(hw:Region.wanted o (yielded ops a.tmps)=true)(ty n:Nat){ps:Array (Nat × Operand)}(ho:o.op=.buildSlice ty n ps){vs:List (Nat × Value)}{v:Value}(hx:ps.toList.map (fun (i,x)=>(i,a.eval x))=vs)(dM:(Instr.buildSlice ty n vs.toArray).run P w=.ok v w')(hK:K (a.put o.dst v) w') :
  if Region.wanted o (yielded ops a.tmps)=true then Oper.wp P o a w K Q else E:=by
 rw[aE hw];have hr:(execOp a.eval o).run P w=.ok (.value v) w':=by unfold execOp;simp only[ho];rw[show ps.map (fun (i,x)=>(i,a.eval x))=vs.toArray by rw[<-hx,<-ny]];simp only[aU,dM,aH,bQ]
 unfold Oper.wp;rw[hr];exact hK
end
section
variable {P:Program} {ops:Array Oper} {o:Oper} {a:Act}
theorem AU{w w':World}{K:Act->World->Prop}{Q:Exit->Act->World->Prop}{E:Prop}(hw:Region.wanted o (yielded ops a.tmps)=true){s x:Operand}{t ty:TypeId}(ho:o.op=.call { callee:=.builtin .append,args:=#[s,x],argTypes:=#[t,t] })(hty:o.type=ty){u1 u2 v:Value}(hs:a.eval s=u1)(hx:a.eval x=u2)(dM:(Builtin.append_ #[t,t] ty #[u1,u2]).run P w=.ok v w')(hK:K (a.put o.dst v) w') :
  if Region.wanted o (yielded ops a.tmps)=true then Oper.wp P o a w K Q else E:=by
 rw[aE hw];have hr:(execOp a.eval o).run P w=.ok (.value v) w':=by subst hty;simp[execOp,ho,resolve,invoke,builtin,hs,hx,dM,Result.andThen]
 unfold Oper.wp;rw[hr];exact hK
end
theorem abm{ts te:TypeId}(T:ET ts te){W:World}{B:Nat}{v:Value}{l0 l:List En}{q:Option Addr}{m c:Nat}(h0:eU te W B v l0)(mI:dW l0)(h:lC W q m l)(hp:0<m)(hm:(l0.length+m)*48<=140737488355328)(hB:B<=W.heap.size):∃q' c' W',(Builtin.append_ #[ts,ts] ts #[v,.slice q m c]).run prog W=.ok (.slice q' (l0.length+m) c') W'/\eU te W' B (.slice q' (l0.length+m) c') (l0++l)/\W.grownBy W' v.ownBlock/\((Value.slice q' (l0.length+m) c').ownBlock=v.ownBlock\/(Value.slice q' (l0.length+m) c').ownBlock=some W.heap.size):=by
 obtain ⟨i0,BZ,ij,gm,iL⟩:=cj T.inf;have h65:(140737488355328:Nat)<=maxLen:=by decide
 have Mw:dW (l0++l):=fun x hx=>(bH.1 hx).elim (mI x) (h.wf x);obtain ⟨b,o,e,hr⟩:=h.cells hp;subst e;obtain ⟨v',W',dM,wQ,cU,-,lf⟩:=run_append_own_at (P:=prog) W B ts ts te i0 _ 34 48 T.ut BZ ij gm iL rfl (by decide) v l0.length (EC l0) h0 ⟨b,o,none⟩ m c (EC l) (by rw[iM h.wf,h.len]) (fun j u hu=>by rw[fo];exact hr j u hu) (xo l) (by omega) hm hB;have jF:eU te W' B v' (l0++l):=by
  rw[eU,aO,h.len,iG];exact wQ
 have el:(l0++l).length=l0.length+m:=by rw[aO,h.len]
 obtain ⟨q',c',rfl,-,-,-⟩:=eU.in jF Mw;rw[el] at dM jF lf
 exact⟨q',c',W',dM,jF,cU,lf⟩
theorem ZV{W:World}{g:Nat}{x:En}{te:TypeId}(h:bE te W g (aB x))(hx:x.Wf):lC W (some ⟨g,0,none⟩) 1 [x]:=⟨rfl,fun y hy=>by rw[bg.1 hy];exact hx,fun _=>⟨g,0,rfl,fun j u hj=>by rw[aW,bE.cell h];simpa [EC] using hj⟩⟩
theorem lC.FJ{w:World}{p:Option Addr}{m k:Nat}{l:List En}(h:lC w p m l)(hk:k<m):∃x,l[k]?=some x/\x.Wf:=⟨_,ay (by rw[h.len];exact hk),h.wf _ (eA (by rw[h.len];exact hk))⟩
structure gG (w:World) (R:Nat) (n:Int) (v:Value) (L:List En) (s:Bool) (p:Int):Prop where
 st:w.heap[R]?=some (.cells #[.int .i64 n,v,.bool s,.int .u64 p] 219 (0,0))
 row:eU 241 w 0 v L
def rW (s:Bool)(p:Int):Int:=if s=true then p+1 else 0
section
variable {w w':World} {R:Nat} {n p:Int} {v:Value} {L:List En} {s:Bool}
theorem gG.lt(h:gG w R n v L s p):R<w.heap.size:=(au.1 h.st).1
theorem gG.c0(h:gG w R n v L s p):w.cell? ⟨R,0,none⟩=some (.int .i64 n):=by rw[aq _ R 0 _ 219 (0,0) h.st];rfl
theorem gG.c1(h:gG w R n v L s p):w.cell? ⟨R,1,none⟩=some v:=by rw[aq _ R 1 _ 219 (0,0) h.st];rfl
theorem gG.c2(h:gG w R n v L s p):w.cell? ⟨R,2,none⟩=some (.bool s):=by rw[aq _ R 2 _ 219 (0,0) h.st];rfl
theorem gG.c3(h:gG w R n v L s p):w.cell? ⟨R,3,none⟩=some (.int .u64 p):=by rw[aq _ R 3 _ 219 (0,0) h.st];rfl
theorem gG.free(h:gG w R n v L s p)(o:Nat):w.frozen? ⟨R,o,none⟩=false:=by simp[World.frozen?,h.st]
theorem gG.later(h:gG w R n v L s p)(hb:Below w.heap.size w w'):gG w' R n v L s p:=⟨(hb.block R h.lt).trans h.st,E.dD h.row hb⟩
theorem gG.mO{S:Nat->Prop}(h:gG w R n v L s p)(hk:E.Kept S w w')(hR:¬S R)(hi:∀g,v.ownBlock=some g->¬S g):gG w' R n v L s p:=⟨(hk.block R h.lt hR).trans h.st,E.eB h.row hk hi⟩
theorem gG.ne(h:gG w R n v L s p):v.ownBlock≠some R:=O.zZ h.row h.st (by decide)
theorem gG.GG(h:gG w R n v L s p)(hw:dW L):∃q c,v=.slice q L.length c/\lC w q L.length L/\L.length<=c:=by
 obtain ⟨q,c,e,hm,hc,_⟩:=eU.in h.row hw;exact⟨q,c,e,hm,hc⟩
theorem Zy{n:Int}(h1:1<=n)(h2:n<=64)(w:World):Calls prog 62 #[.int .i64 n] w fun e w'=>e=.returned (.tuple #[.pointer (some ⟨w.heap.size,0,none⟩),.int .i64 0])/\gG w' w.heap.size n (.slice none 0 0) [] false 0/\Below w.heap.size w w':=by
 go_enter func62,ntmps62;go_wp2;go_ret2;exact⟨rfl,⟨aG w _,cq _ _ _ _⟩,ag w _⟩
theorem afb{n:Int}{l:List Im}{m:Nat}(hm:l.length=m)(h:∀j y,j<m->l[j]?=some y->jC n y=false):l.any (jC n)=false:=by
 rw[qd];intro x hx;obtain ⟨j,hj⟩:=List.getElem?_of_mem hx;have:=h j x (by rw[<-hm];exact (aA.1 hj).1) hj;simp[this]
theorem PK{n:Int}{l:List Im}{x:Im}{k:Nat}(hx:l[k]?=some x)(h:jC n x=true):l.any (jC n)=true:=List.any_eq_true.2 ⟨x,bt hx,h⟩
theorem tN(h:gG w R n v L s p)(hp:0<=p/\p<=4611686018427387904){q:Option Addr}{m c:Nat}{l:List Im}(hM:uD w q m l)(hm:m<=140737488355328){ps:Int}(Yz:0<=ps/\ps<18446744073709551616):Calls prog 186 #[.pointer (some ⟨R,0,none⟩),.slice q m c,.int .u64 ps] w fun e w'=>e=.returned (.int .i64 (ji n (rW s p) l ps))/\Below w.heap.size w w':=by
 have HM:=zH hM;have HL:=zH hM.len;have HC:Hid (∀W,Below w.heap.size w W->W.cell? ⟨R,0,none⟩=some (.int .i64 n)/\W.cell? ⟨R,2,none⟩=some (.bool s)/\W.cell? ⟨R,3,none⟩=some (.int .u64 p)):=fun W hW=>⟨(h.later hW).c0,(h.later hW).c2,(h.later hW).c3⟩
 have GD:=hp.1;have Te:=hp.2;have aej:=Yz.1;have aei:=Yz.2;clear h hM hp Yz;go_enter func186,ntmps186;go_wp2_with fail
 go_loopw [7] (fun v W=>∃k:Nat,v=.int .i64 (k:Int)/\k<=m/\Hid (Below w.heap.size w W)/\Hid (∀j y,j<k->l[j]?=some y->jC n y=false)) (fun v _=>m-(intOf v).toNat)
 case atStart=>exact⟨0,rfl,by omega,aV _ _,(fun j y hj=>absurd hj (fW _):∀j y,j<0->l[j]?=some y->jC n y=false)⟩
 case round =>
  obtain ⟨k,rfl,hk,HB,HI⟩:=hrel;by_cases eP:k<m
  ·obtain ⟨x,hx⟩:∃x,l[k]?=some x:=⟨_,ay (by rw[HL.out];omega)⟩
   obtain ⟨b1,o1,rfl,-⟩:=HM.out.cells (by omega);have z0:∀t,(wr.drewN t).cell? ⟨b1,o1+k*33,none⟩=some (.int .i64 x.b):=fun t=>(HM.out.later HB.out).c0 hx;have y0:∀t,(wr.drewN t).cell? ⟨R,0,none⟩=some (.int .i64 n):=fun t=>(HC.out wr HB.out).1;have gD:Hid (∀t,Below w.heap.size w (wr.drewN t)):=fun t=>ah HB.out (av _);have i1:(k:Int)<(m:Int):=by omega
   have HX:=zH hx;clear hx;by_cases h1:x.b<0
   ·have d1:decide (x.b<0)=true:=aP h1;have HE:Hid (ji n (rW s p) l ps=51):=oL (PK HX.out (by simp[jC,h1]));clear h1;go_wp2_with fail;go_quiet (fail);go_wp2;go_ret;exact⟨by rw[HE.out];rfl,gD.out _⟩
   ·have d1:decide (x.b<0)=false:=aF h1;by_cases h2:n<=x.b
    ·have d2:decide (n<=x.b)=true:=aP h2;have HE:Hid (ji n (rW s p) l ps=51):=oL (PK HX.out (by simp[jC,h2]));clear h1 h2;go_wp2_with fail;go_quiet (fail);go_wp2;go_ret;exact⟨by rw[HE.out];rfl,gD.out _⟩
    ·have d2:decide (n<=x.b)=false:=aF h2;have SH:Hid (∀j y,j<k+1->l[j]?=some y->jC n y=false):=fun j y hj hy=>by
      by_cases e:j=k
      ·subst e;have:=HX.out;rw[hy] at this;cases this;simp[jC,h1,h2]
      ·exact HI.out j y (by omega) hy
     clear h1 h2;go_wp2_with fail;go_quiet (fail);go_wp2_with fail;go_roundw
     case rel=>exact⟨k+1,by congr 1,by omega,gD.out _,SH⟩
     case measure=>simp[intOf];omega
  ·have HO:Hid (l.any (jC n)=false):=afb HL.out fun j y hj=>HI.out j y (by omega);have HBo:=zH HB;clear HI HB hk;go_wp2_with fail;clear eP
   go_loopw [8] (fun v W=>∃k:Nat,v=.int .i64 ((k:Int)+1)/\k<=m/\Hid (Below w.heap.size w W)/\Hid (∀j x y,j<k->l[j]?=some x->l[j+1]?=some y->x.b<y.b)) (fun v _=>m+2-(intOf v).toNat)
   case atStart=>exact⟨0,rfl,by omega,HBo,(fun j x y hj=>absurd hj (fW _):∀j x y,j<0->l[j]?=some x->l[j+1]?=some y->x.b<y.b)⟩
   case round =>
    obtain ⟨k,rfl,hk,HB,HI⟩:=hrel;by_cases eP:(k:Int)+1<(m:Int)
    ·obtain ⟨x,hx⟩:∃x,l[k]?=some x:=⟨_,ay (by rw[HL.out];omega)⟩
     obtain ⟨y,hy⟩:∃y,l[k+1]?=some y:=⟨_,ay (by rw[HL.out];omega)⟩
     obtain ⟨b1,o1,rfl,-⟩:=HM.out.cells (by omega);have x0d:∀t,(wr.drewN t).cell? ⟨b1,o1+k*33,none⟩=some (.int .i64 x.b):=fun t=>(HM.out.later HB.out).c0 hx;have y0d:∀t,(wr.drewN t).cell? ⟨b1,o1+(k+1)*33,none⟩=some (.int .i64 y.b):=fun t=>(HM.out.later HB.out).c0 hy;have i0:(0:Int)<=(k:Int)+1:=by omega
     have i1:(k:Int)<(m:Int):=by omega
     have Yx:((k:Int)+1).toNat=k+1:=by omega
     have HX:=rf hx hy;have gD:Hid (∀t,Below w.heap.size w (wr.drewN t)):=fun t=>ah HB.out (av _);clear hx hy;by_cases hle:y.b<=x.b
     ·have hd:decide (y.b<=x.b)=true:=aP hle;have HE:Hid (ji n (rW s p) l ps=53):=xX HO.out (TN HX.out.1 HX.out.2 hle);clear hle;go_wp2_with fail;go_quiet (fail);go_wp2;go_ret;exact⟨by rw[HE.out];rfl,gD.out _⟩
     ·have hd:decide (y.b<=x.b)=false:=aF hle;have SH:Hid (∀j x y,j<k+1->l[j]?=some x->l[j+1]?=some y->x.b<y.b):=fun j x' y' hj Ah EH=>by
       by_cases e:j=k
       ·subst e;have a:=HX.out.1;have b:=HX.out.2;rw[Ah] at a;rw[EH] at b;cases a;cases b;omega
       ·exact HI.out j x' y' (by omega) Ah EH
      clear hle;go_wp2_with fail;go_quiet (fail);go_wp2_with fail;go_roundw
      case rel=>exact⟨k+1,by congr 1,by omega,gD.out _,SH⟩
      case measure=>simp[intOf];omega
    ·have HU:Hid (KM l=true):=NA fun j x y hx hy=>HI.out j x y (by have:=(aA.1 hy).1;have:=HL.out;omega) hx hy;have k2:=(HC.out wr HB.out).2.1;have k3:=(HC.out wr HB.out).2.2;clear HI;by_cases h3:4611686018427387904<ps
     ·have HE:Hid (ji n (rW s p) l ps=30):=qB HO.out HU.out (.inr h3);have d3:decide (4611686018427387904<ps)=true:=aP h3;go_wp2;go_ret;exact⟨by rw[HE.out];rfl,HB.out⟩
     ·have d3:decide (4611686018427387904<ps)=false:=aF h3;cases s with
      | false =>
       have HE:Hid (ji n (rW false p) l ps=0):=Fu HO.out HU.out (by simp[rW];omega);go_wp2;go_ret;exact⟨by rw[HE.out];rfl,HB.out⟩
      | true =>
       by_cases h4:ps<=p
       ·have HE:Hid (ji n (rW true p) l ps=30):=qB HO.out HU.out (.inl (by simp[rW];omega));go_wp2;go_ret;exact⟨by rw[HE.out];rfl,HB.out⟩
       ·have HE:Hid (ji n (rW true p) l ps=0):=Fu HO.out HU.out (by simp[rW];omega);go_wp2;go_ret;exact⟨by rw[HE.out];rfl,HB.out⟩
