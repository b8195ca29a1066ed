import Derived.Test.YtcdjepkhdjpjcaaGreatDoorU23
set_option maxHeartbeats 20000000
set_option maxRecDepth 100000
namespace Go.Proofs.Zq.C
open Go.Proofs.Tryz
open Go.RowKit
open Go.Shelf
section
variable {P:Program}
theorem cM{ops:Array Oper}{o:Oper}{a:Act}{w:World}{K:Act->World->Prop}{Q:Exit->Act->World->Prop}{E:Prop}
  (hg:o.guard=none) (d x:Operand) (dT sT:TypeId) (hop:o.op=Op.call { callee:=Callee.builtin Builtin.append,args:=#[d,x],argTypes:=#[dT,sT] })
  (v u:Value) (hd:a.eval d=v) (hx:a.eval x=u) {v':Value} {w':World} (hr:(Builtin.append_ #[dT,sT] o.type #[v,u]).run P w=.ok v' w') (hK:K (a.put o.dst v') w') :
  if Region.wanted o (yielded ops a.tmps)=true then Oper.wp P o a w K Q else E:=by
 have hw:Region.wanted o (yielded ops a.tmps)=true:=by simp[Region.wanted,hg]
 rw[aE hw];unfold Oper.wp;simp[execOp,hop,resolve,invoke,builtin,hd,hx,hr,Result.andThen];exact hK
end
theorem KC(k:Nat):∀u∈(Builtin.zeroCells (aB lN).toArray k).toList,u.oneCell'=true:=by
 intro u hu;simp only[Builtin.zeroCells,ny,cF] at hu;obtain ⟨j,-,rfl⟩:=hu;have hj:j % (aB lN).toArray.size<(aB lN).toArray.size:=Nat.mod_lt _ (by simp[aB]);rw[getElem!_pos (aB lN).toArray _ hj];exact jv lN _ (by rw[List.getElem_toArray];exact eA _)
theorem KZ{W:World}{g o n c:Nat}{cur:Array Value}(ty:TypeId)(hg:W.heap[g]?=some (.cells cur 54 (0,0)))(hn:0<n)(hf:o+n*34<=cur.size) :
  (Builtin.clear_ #[47] ty #[.slice (some ⟨g,o,none⟩) n c]).run prog W=.ok (.tuple #[]) (W.setRow g (cur.toList.take o++(Builtin.zeroCells (aB lN).toArray n).toList++cur.toList.drop (o+n*34)).toArray):=by
 have hl:(Builtin.zeroCells (aB lN).toArray n).toList.length=n*34:=by rw[gq];exact tE n
 have iU:=qP prog g o 54 (Builtin.zeroCells (aB lN).toArray n).toList 0 cur W hg (by rw[hl];omega) (KC n);rw[hl,Nat.add_zero] at iU;obtain ⟨m,rfl⟩:∃m,n=m+1:=⟨n-1,by omega⟩
 simp[Builtin.clear_,run_underlying jG.ut,zv 54 _ jG.zero,Value.cells,iU]
theorem aeW{α:Type}{C A D Z:List α}{a d m:Nat}(hA:C.take a=A)(u_:a<=C.length)(hd:D.length=d) :
  ((C.take a++D++C.drop m).take (a+d)++Z)=A++D++Z:=by
 have u_:(C.take a).length=a:=by rw[cr];omega
 rw[fD (by simp;omega),aL (by simp;omega),hA]
theorem afA(L:List En)(i:Nat):EC (L.take i++L.drop (i+1))=EC (L.take i)++EC (L.drop (i+1)):=iG _ _
theorem TF{L:List En}(h:dW L)(i:Nat):dW (L.take i++L.drop (i+1)):=(rj h i).append (vR h (i+1))
theorem aa0{L:List En}{i n:Nat}(hl:L.length=n)(hi:i<n):(L.take i++L.drop (i+1)).length=n-1:=by simp;omega
theorem RV{w:World}{B g c i n:Nat}{L:List En}(h:eU 54 w B (.slice (some ⟨g,0,none⟩) n c) L)(hw:dW L)(hl:L.length=n)(hi:i<n)(hn:n<=10000) :
  Calls prog 167 #[.slice (some ⟨g,0,none⟩) n c,.int .i64 (i:Int),.int .i64 ((i:Int)+1)] w fun e w'=>e=.returned (.slice (some ⟨g,0,none⟩) (n-1) c)/\eU 54 w' B (.slice (some ⟨g,0,none⟩) (n-1) c) (L.take i++L.drop (i+1))/\E.Kept (·=g) w w':=by
 obtain ⟨i0,BZ,ij,gm,iL⟩:=cj jG.inf;obtain ⟨cur,hg,hcs,htk,hB,MG,FX⟩:∃cur,w.heap[g]?=some (.cells cur 54 (0,0))/\cur.size=c*34/\cur.toList.take (n*34)=EC L/\B<=g/\c<=maxLen/\n<=c:=by
  rcases h.2 with ⟨e,_⟩ | ⟨g',cap,cur,e,h0,hg,h1,h2,h3,h4⟩
  ·cases e
  ·cases e;exact⟨cur,hg,h3,by rw[hl] at h4;exact h4,h0,h2,by rw[hl] at h1;exact h1⟩
 have hlen:cur.toList.length=c*34:=by rw[<-hcs];exact gq
 have ot:(EC (L.drop (i+1))).length=(n-(i+1))*34:=by rw[iM (vR hw (i+1)),cN,hl]
 have SN:cur.toList.take (i*34)=EC (L.take i):=by
  have e2:EC L=EC (L.take i)++EC (L.drop i):=by rw[<-iG,eE]
  have el:(EC (L.take i)).length=i*34:=by rw[iM (rj hw i),cr];omega
  rw[show cur.toList.take (i*34)=(cur.toList.take (n*34)).take (i*34) by rw[List.take_take,fX (eV _ (by omega))],htk,e2,<-el,gC]
 have hcell:∀j v,(EC L)[j]?=some v->w.cell? ⟨g,j,none⟩=some v:=fun j v hj=>by
  have:=h.cells (g:=g) rfl j v hj;rw[bW] at this
  rwa [aW] at this
 obtain ⟨Ad,hA,FU⟩:∃Ad:Addr,(if c=i+1 then some (⟨g,0,none⟩:Addr) else some ⟨g,(i+1)*34,none⟩)=some Ad/\∀j v,(EC (L.drop (i+1)))[j]?=some v->w.cell? (Ad.add j)=some v:=by
  by_cases hc:c=i+1
  ·refine⟨⟨g,0,none⟩,by simp[hc],fun j v hj=>?_⟩;have e0:(EC (L.drop (i+1)))=[]:=List.length_eq_zero_iff.1 (by rw[ot];omega);rw[e0] at hj;simp at hj
  ·refine⟨⟨g,(i+1)*34,none⟩,by simp[hc],fun j v hj=>?_⟩;rw[bW];have e2:EC L=EC (L.take (i+1))++EC (L.drop (i+1)):=by rw[<-iG,eE]
   have el:(EC (L.take (i+1))).length=(i+1)*34:=by rw[iM (rj hw (i+1)),cr];omega
   exact hcell _ v (by rw[e2,aT (by omega),el,iX];exact hj)
 obtain ⟨C1,O_⟩:∃C1:Array Value,C1=(cur.toList.take (i*34)++EC (L.drop (i+1))++cur.toList.drop (i*34+(EC (L.drop (i+1))).length)).toArray:=⟨_,rfl⟩
 have F_:C1.size=c*34:=by
  rw[O_];simp only[aM,aO,cr,cN,hlen,ot];have:=eV 34 FX;omega
 have rQ:Hid ((Builtin.append_ #[47,47] 47 #[.slice (some ⟨g,0,none⟩) i c,.slice (some Ad) (n-(i+1)) (c-(i+1))]).run prog w.drew=.ok (.slice (some ⟨g,0,none⟩) (i+(n-(i+1))) c) (w.drew.setRow g C1)):=by
  have:=run_append_room (P:=prog) w.drew 47 47 54 i0 jG.ut BZ g i c cur hg Ad (n-(i+1)) (c-(i+1)) (EC (L.drop (i+1))) (by rw[gm];exact ot) FU (xo _) (by omega) (by
   rw[gm,ot,hcs];have:=eV 34 FX;omega)
  rw[gm] at this;rw[O_];exact this
 have dZ:(w.drew.setRow g C1).heap[g]?=some (.cells C1 54 (0,0)):=cK w.drew g cur _ 54 (0,0) hg;have Jj:i+(n-(i+1))=n-1:=by omega
 have HCL:Hid (∀ty,(Builtin.clear_ #[47] ty #[.slice (some ⟨g,(n-1)*34,none⟩) (n-(n-1)) (c-(n-1))]).run prog (w.drew.setRow g C1)=.ok (.tuple #[]) ((w.drew.setRow g C1).setRow g (C1.toList.take ((n-1)*34)++((Builtin.zeroCells (aB lN).toArray (n-(n-1))).toList++C1.toList.drop ((n-1)*34+(n-(n-1))*34))).toArray)):=fun ty=>by
  rw[<-aS];exact KZ ty dZ (by omega) (by rw[F_];omega)
 obtain ⟨C2,Tm⟩:∃C2:Array Value,C2=(C1.toList.take ((n-1)*34)++((Builtin.zeroCells (aB lN).toArray (n-(n-1))).toList++C1.toList.drop ((n-1)*34+(n-(n-1))*34))).toArray:=⟨_,rfl⟩
 rw[<-Tm] at HCL;have SI:Hid (∀W:World,W.heap[g]?=some (.cells C2 54 (0,0))->eU 54 W B (.slice (some ⟨g,0,none⟩) (n-1) c) (L.take i++L.drop (i+1))):=fun W hW=>by
  have e:=aa0 hl hi;have e3:=iM (TF hw i);rw[e] at e3;have amC:C2.size=c*34:=by
   rw[Tm];have z:=tE (n-(n-1));simp only[aM,aO,cr,cN,gq,z,F_];omega
  refine⟨by rw[iM (TF hw i)],.inr ⟨g,c,_,by rw[e],hB,hW,by omega,MG,amC,?_⟩⟩;rw[e,Tm,O_];show List.take ((n-1)*34) (List.take ((n-1)*34) (cur.toList.take (i*34)++EC (L.drop (i+1))++cur.toList.drop (i*34+(EC (L.drop (i+1))).length))++_)=_;rw[show (n-1)*34=i*34+(n-(i+1))*34 by omega,aeW SN (by rw[hlen];omega) ot,afA,<-SN];have u_:(cur.toList.take (i*34)).length=i*34:=by rw[cr,hlen];omega
  rw[fD (by rw[aO,u_,ot];omega),aL (by rw[aO,u_,ot];omega)]
 have HG:Hid ((w.drew.setRow g C1).heap[g]?=some (.cells C1 54 (0,0))):=dZ;have HK:Hid (E.Kept (·=g) w (w.drew.setRow g C1)):=(E.Kept.bP _ (av 1)).trans (E.Kept.setRow _ g C1) (fun _ _ e=>e);clear FU O_ F_ Tm dZ SN ot hlen htk hcs h hw hcell hg BZ ij gm iL hl;have hz:¬((i:Int)=(i:Int)+1):=by omega
 have yD:(0:Int)<=(i:Int)+1:=by omega
 have hic:i<=c:=by omega
 have qj:(i:Int)+1<=(n:Int):=by omega
 have mixed:prog.follows Departure.mixedOrders=true:=by kernel_rfl
 go_enter func167,ntmps167;go_wp2_with fail
 go_region_law_o (refine cM rfl (.tmp 22) (.tmp 25) 47 47 rfl (.slice (some ⟨g,0,none⟩) i c) (.slice (some Ad) (n-(i+1)) (c-(i+1))) (by simp[Act.eval,Act.put]) (by simp[Act.eval,Act.put]) rQ.out ?_)
 have HGd:Hid (∀ty,(Builtin.clear_ #[47] ty #[.slice (some ⟨g,(n-1)*34,none⟩) (n-(n-1)) (c-(n-1))]).run prog (w.drew.setRow g C1)=.ok (.tuple #[]) ((w.drew.setRow g C1).setRow g C2)):=HCL.out;clear HCL rQ hA Jj hz yD qj mixed hic;generalize w.drew.setRow g C1=w1 at *;have Tj:=HGd.out;have s1:n-1<=n:=by omega
 have s2:n<=c:=FX;have s3:¬(c=n-1):=by omega
 clear HGd;go_wp2;go_ret;have K2:=HK.out.trans (E.Kept.setRow w1 g C2) (fun _ _ e=>e);exact⟨rfl,SI.out _ (cK w1 g C1 _ 54 (0,0) HG.out),K2⟩
end Go.Proofs.Zq.C
namespace Go.Proofs.Zq.C
open Go.Proofs.Tryz
open Go.RowKit
structure fC (w:World) (Q:Nat) (n:Int) (ve:Value) (L:List En) (nx:Int):Prop where
 st:w.heap[Q]?=some (.cells #[.int .i64 n,ve,.int .u64 nx] 105 (0,0))
 row:eU 54 w 0 ve L
section
variable {w w':World} {Q:Nat} {n nx:Int} {ve:Value} {L:List En}
theorem fC.lt(h:fC w Q n ve L nx):Q<w.heap.size:=(au.1 h.st).1
theorem fC.c0(h:fC w Q n ve L nx):w.cell? ⟨Q,0,none⟩=some (.int .i64 n):=by rw[aq _ Q 0 _ 105 (0,0) h.st];rfl
theorem fC.c1(h:fC w Q n ve L nx):w.cell? ⟨Q,1,none⟩=some ve:=by rw[aq _ Q 1 _ 105 (0,0) h.st];rfl
theorem fC.c2(h:fC w Q n ve L nx):w.cell? ⟨Q,2,none⟩=some (.int .u64 nx):=by rw[aq _ Q 2 _ 105 (0,0) h.st];rfl
theorem fC.free(h:fC w Q n ve L nx)(o:Nat):w.frozen? ⟨Q,o,none⟩=false:=by simp[World.frozen?,h.st]
theorem fC.later(h:fC w Q n ve L nx)(hb:Below w.heap.size w w'):fC w' Q n ve L nx:=⟨(hb.block Q h.lt).trans h.st,E.dD h.row hb⟩
theorem fC.mO{S:Nat->Prop}(h:fC w Q n ve L nx)(hk:E.Kept S w w')(hQ:¬S Q)(hi:∀g,ve.ownBlock=some g->¬S g):fC w' Q n ve L nx:=⟨(hk.block Q h.lt hQ).trans h.st,E.eB h.row hk hi⟩
theorem fC.ne(h:fC w Q n ve L nx):ve.ownBlock≠some Q:=O.zZ h.row h.st (by decide)
theorem fC.GG(h:fC w Q n ve L nx)(hw:dW L):∃p c,ve=.slice p L.length c/\lC w p L.length L/\L.length<=c:=by
 obtain ⟨p,c,e,hm,hc,_⟩:=eU.in h.row hw;exact⟨p,c,e,hm,hc⟩
theorem adL{n:Int}(h1:1<=n)(h2:n<=64)(w:World):Calls prog 59 #[.int .i64 n] w fun e w'=>e=.returned (.tuple #[.pointer (some ⟨w.heap.size,0,none⟩),.int .i64 0])/\fC w' w.heap.size n (.slice none 0 0) [] 0/\Below w.heap.size w w':=by
 go_enter func59,ntmps59;go_wp2;go_ret2;exact⟨rfl,⟨aG w _,cq _ _ _ _⟩,ag w _⟩
theorem Pb(h:fC w Q n ve L nx)(hk:t_ n L nx)(b:Int):Calls prog 49 #[.pointer (some ⟨Q,0,none⟩),.int .i64 b] w fun e w'=>e=.returned (.tuple #[.int .i64 (mM L b:Int),.bool (EF L b)])/\Below w.heap.size w w':=by
 have c1:=h.c1;obtain ⟨p,c,rfl,hM,hc⟩:=h.GG hk.wf;have HM:=zH hM;have HU:=zH hk.up;have hf:=hk.nR;clear h hk hM;go_enter func49,ntmps49;go_wp2_with (go_at_call 107;refine (Qi HM.out HU.out (by omega) b).mono ?_;rintro e w' ⟨rfl,hb⟩;have HB:=zH hb;clear hb)
 go_ret2;exact⟨rfl,HB.out⟩
theorem Mk(h:fC w Q n ve L nx):Calls prog 20 #[.pointer (some ⟨Q,0,none⟩)] w fun e w'=>e=.returned (.int .i64 (L.length:Int))/\w'=w:=by
 have c1:=h.c1;obtain ⟨p,c,rfl,_⟩:=E.iW h.row;clear h;go_enter func20,ntmps20;go_wp2;go_ret;exact⟨rfl,rfl⟩
theorem len_nil(w:World):Calls prog 20 #[.pointer none] w fun e w'=>e=.returned (.int .i64 0)/\w'=w:=by
 go_enter func20,ntmps20;go_wp2;go_ret;exact⟨rfl,rfl⟩
def VD (nx:Int):Int:=if nx=0 then 0 else nx-1
def Rj (nx:Int):Bool:=decide (nx≠0)
theorem aag(h:fC w Q n ve L nx)(h0:0<=nx)(h1:nx<=4611686018427387905):Calls prog 21 #[.pointer (some ⟨Q,0,none⟩)] w fun e w'=>e=.returned (.tuple #[.int .u64 (VD nx),.bool (Rj nx)])/\w'=w:=by
 have c2:=h.c2;clear h;go_enter func21,ntmps21;by_cases hz:nx=0
 ·have HZ:Hid (VD nx=0/\Rj nx=false):=⟨aE hz,by simp[Rj,hz]⟩
  subst hz;go_wp2;go_ret2;exact⟨by rw[HZ.out.1,HZ.out.2];rfl,rfl⟩
 ·have HZ:Hid (VD nx=nx-1/\Rj nx=true):=⟨aD hz,by simp[Rj,hz]⟩
  have iL:(nx == 0)=false:=by rw[gp];exact hz
  have hw:IntKind.u64.wrap (nx-1)=nx-1:=by rw[eD];omega
  clear hz;go_wp2;go_ret2;exact⟨by rw[HZ.out.1,HZ.out.2];rfl,rfl⟩
theorem ab2(w:World)(g:Nat)(i:En)(hi:i.v.length=32)(h:bE 54 w g (aB lN)):(Instr.storeAt 54 (.pointer (some ⟨g,0,none⟩)) (.agg (aB i).toArray)).run prog w=.ok () (w.setRow g (aB i).toArray) :=
 bE.store (ds:=aB i) h (by rw[jG.size,cI hi]) (by rw[cI hi,cI (bG 32)]) (vq i)
end
section
variable {w w':World} {Q:Nat} {n nx:Int} {ve:Value} {L:List En}
theorem uD.mO{S:Nat->Prop}{p:Option Addr}{m:Nat}{l:List Im}(h:uD w p m l)(hk:E.Kept S w w')(hs:∀a,p=some a->0<m->¬S a.block):uD w' p m l:=by
 refine⟨h.len,h.wf,fun h0=>?_⟩;obtain ⟨b,o,e,hr⟩:=h.cells h0;exact⟨b,o,e,pN hr (hk.block b (wE hr (by rw[X_ h.wf,h.len];omega)) (hs _ e h0))⟩
theorem VF(h:fC w Q n ve L nx)(i:Im)(hi:i.Wf)(_hn:i64 n):Calls prog 74 #[.pointer (some ⟨Q,0,none⟩),.agg (dO i).toArray] w fun e w'=>e=.returned (.bool (jC n i))/\Below w.heap.size w w':=by
 obtain ⟨w1,dZ⟩:∃w1,w1=w.alloc (.cells (dO i).toArray 84):=⟨_,rfl⟩
 have B1:Below w.heap.size w w1:=by rw[dZ];exact ag w _
 have gj:=zH B1;have k0:w1.cell? ⟨w.heap.size,0,none⟩=some (.int .i64 i.b):=by rw[dZ];exact bE.cell (bE.new 84 w (dO i)) 0
 have c0:w1.cell? ⟨Q,0,none⟩=some (.int .i64 n):=(h.later B1).c0;have k0d:w1.drew.cell? ⟨w.heap.size,0,none⟩=some (.int .i64 i.b):=k0;have c0d:w1.drew.cell? ⟨Q,0,none⟩=some (.int .i64 n):=c0;have VZ:=dZ.symm;have HO:Hid (∀r:Bool,(i.b<0->r=true)->(¬i.b<0->r=decide (n<=i.b))->jC n i=r):=fun r h1 h2=>by
  unfold jC;by_cases c:i.b<0
  ·rw[h1 c];simp[c]
  ·rw[h2 c];simp[c]
 have hb:=hi.b;obtain ⟨ib,iv⟩:=i;clear h hi dZ B1;go_enter func74,ntmps74;by_cases hc:ib<0
 ·have hd:decide (ib<0)=true:=aP hc;have HR:Hid (jC n ⟨ib,iv⟩=true):=HO.out true (fun _=>rfl) (fun h=>absurd hc h);go_wp2_with ((with_reducible refine aQ ?_);(refine CR (by rfl) 84 rfl _ rfl VZ ?_);simp only[Act.put,zA,zB,zC])
  go_quiet (fail);go_wp2;go_ret;exact⟨by rw[HR.out];rfl,ah gj.out (av _)⟩
 ·have hd:decide (ib<0)=false:=aF hc;have HR:Hid (jC n ⟨ib,iv⟩=decide (n<=ib)):=HO.out _ (fun h=>absurd h hc) (fun _=>rfl);go_wp2_with ((with_reducible refine aQ ?_);(refine CR (by rfl) 84 rfl _ rfl VZ ?_);simp only[Act.put,zA,zB,zC])
  go_quiet (fail);go_wp2;go_ret;exact⟨by rw[HR.out];rfl,ah gj.out (av _)⟩
abbrev VG (Q:Nat):Value:=.func (.func 74) #[.pointer (some ⟨Q,0,none⟩)] #[]
theorem VQ(h:fC w Q n ve L nx)(hn:i64 n){p:Option Addr}{m c:Nat}{l:List Im}(hM:uD w p m l)(hm:m<=140737488355328):Calls prog 134 #[.slice p m c,VG Q] w fun e w'=>∃r:Int,e=.returned (.int .i64 r)/\decide (0<=r)=l.any (jC n)/\Below w.heap.size w w':=by
 have HA:=zH h;have HM:=zH hM;have HL:=zH hM.len;clear h hM;go_enter func134,ntmps134;go_wp2_with fail
 go_loopw [8] (fun v W=>∃k:Nat,v=.int .i64 (k:Int)/\k<=m/\Hid (Below w.heap.size w W)/\Hid (∀j x,j<k->l[j]?=some x->jC n x=false)) (fun v _=>m-(intOf v).toNat)
 case atStart=>exact⟨0,rfl,by omega,aV _ _,(fun j x hj=>absurd hj (fW _):∀j x,j<0->l[j]?=some x->jC n x=false)⟩
 case round =>
  obtain ⟨k,rfl,hk,HB,HI⟩:=hrel;by_cases eP:k<m
  ·obtain ⟨x,hx⟩:∃x,l[k]?=some x:=⟨_,ay (by rw[HL.out];omega)⟩
   obtain ⟨b1,o1,rfl,-⟩:=HM.out.cells (by omega);have zO:=zH ((HM.out.later HB.out).load hx);have HX:=zH hx;have i1:(k:Int)<(m:Int):=by omega
   clear hx;go_wp2_with (first | ((with_reducible refine aQ ?_);(refine aK (by rfl) 84 rfl rfl zO.out ?_);simp only[Act.put,zA,zB,zC]))
   refine (VF (HA.out.later HB.out) x (HM.out.wf x (bt HX.out)) hn).mono ?_;rintro e w2 ⟨rfl,bn⟩;have gD:Hid (Below w.heap.size w w2):=ah HB.out bn;cases hz:jC n x with
   | true =>
    have HZ:=zH hz;clear hz zO;go_wp2_with fail;go_ret;refine⟨_,rfl,?_,gD.out⟩;rw[aP (by omega),eq_comm,List.any_eq_true];exact⟨x,bt HX.out,HZ.out⟩
   | false =>
    have SH:Hid (∀j y,j<k+1->l[j]?=some y->jC n y=false):=fun j y hj hy=>by
     by_cases e:j=k
     ·subst e;have:=HX.out;rw[hy] at this;cases this;exact hz
     ·exact HI.out j y (by omega) hy
    clear hz zO;go_wp2_with fail;go_roundw
    case rel=>exact⟨k+1,by congr 1,by omega,gD,SH⟩
    case measure=>simp[intOf];omega
  ·go_wp2_with fail;go_ret;refine⟨_,rfl,?_,HB.out⟩;rw[aF (by omega),eq_comm,qd];intro x hx;obtain ⟨j,hj,e⟩:=fL hx;have:=HI.out j x (by rw[HL.out] at hj;omega) (by rw[ay hj,e]);rw[this];decide
theorem JN(h:fC w Q n ve L nx)(hn:i64 n){p:Option Addr}{m c:Nat}{l:List Im}(hM:uD w p m l)(hm:m<=140737488355328):Calls prog 73 #[.slice p m c,VG Q] w fun e w'=>e=.returned (.bool (l.any (jC n)))/\Below w.heap.size w w':=by
 have HC:Hid (Calls prog 134 #[.slice p m c,VG Q] w fun e w'=>∃r:Int,e=.returned (.int .i64 r)/\decide (0<=r)=l.any (jC n)/\Below w.heap.size w w'):=VQ h hn hM hm;clear h hM;generalize l.any (jC n)=q at *;go_enter func73,ntmps73;go_wp2_with fail;refine HC.out.mono ?_;rintro e w1 ⟨r,rfl,hr,hb⟩;have HR:=zH hr;have HB:=zH hb;clear hr hb;go_wp2;go_ret;exact⟨by rw[<-HR.out];rfl,HB.out⟩
theorem TN{l:List Im}{k:Nat}{x y:Im}(hx:l[k]?=some x)(hy:l[k+1]?=some y)(h:y.b<=x.b):KM l=false:=by
 have hk:=(aA.1 hy).1;refine aF fun h2=>?_;have:=h2 k (by omega);simp[List.getD,hx,hy] at this;omega
theorem NA{l:List Im}(h:∀k x y,l[k]?=some x->l[k+1]?=some y->x.b<y.b):KM l=true:=by
 refine aP fun k hk=>?_;have e1:=ay (show k<l.length by omega);have e2:=ay (show k+1<l.length by omega);have:=h k _ _ e1 e2;simpa [List.getD,e1,e2] using this
theorem ZB{p:Option Addr}{m c:Nat}{l:List Im}(hM:uD w p m l)(hm:m<=140737488355328):Calls prog 75 #[.slice p m c] w fun e w'=>e=.returned (.bool (KM l))/\Below w.heap.size w w':=by
 have HM:=zH hM;have HL:=zH hM.len;clear hM;go_enter func75,ntmps75;go_wp2_with fail
 go_loopw [3] (fun v W=>∃k:Nat,v=.int .i64 ((k:Int)+1)/\k<=m/\Hid (Below w.heap.size w W)/\Hid (∀j x y,j<k->l[j]?=some x->l[j+1]?=some y->x.b<y.b)) (fun v _=>m+2-(intOf v).toNat)
 case atStart=>exact⟨0,rfl,by omega,aV _ _,(fun j x y hj=>absurd hj (fW _):∀j x y,j<0->l[j]?=some x->l[j+1]?=some y->x.b<y.b)⟩
 case round =>
  obtain ⟨k,rfl,hk,HB,HI⟩:=hrel;by_cases eP:(k:Int)+1<(m:Int)
  ·obtain ⟨x,hx⟩:∃x,l[k]?=some x:=⟨_,ay (by rw[HL.out];omega)⟩
   obtain ⟨y,hy⟩:∃y,l[k+1]?=some y:=⟨_,ay (by rw[HL.out];omega)⟩
   obtain ⟨b1,o1,rfl,-⟩:=HM.out.cells (by omega);have x0:=(HM.out.later HB.out).c0 hx;have y0:=(HM.out.later HB.out).c0 hy;have x0d:wr.drew.cell? ⟨b1,o1+k*33,none⟩=some (.int .i64 x.b):=x0;have y0d:wr.drew.cell? ⟨b1,o1+(k+1)*33,none⟩=some (.int .i64 y.b):=y0;have i0:(0:Int)<=(k:Int)+1:=by omega
   have i1:(k:Int)<(m:Int):=by omega
   have Yx:((k:Int)+1).toNat=k+1:=by omega
   have HX:=rf hx hy;clear hx hy;by_cases hle:y.b<=x.b
   ·have hd:decide (y.b<=x.b)=true:=aP hle;have HU:=zH (TN HX.out.1 HX.out.2 hle);clear hle;go_wp2_with fail;go_quiet (fail);go_wp2;go_ret;exact⟨by rw[HU.out];rfl,ah HB.out (av _)⟩
   ·have hd:decide (y.b<=x.b)=false:=aF hle;have SH:Hid (∀j x y,j<k+1->l[j]?=some x->l[j+1]?=some y->x.b<y.b):=fun j x' y' hj Ah EH=>by
     by_cases e:j=k
     ·subst e;have a:=HX.out.1;have b:=HX.out.2;rw[Ah] at a;rw[EH] at b;cases a;cases b;omega
     ·exact HI.out j x' y' (by omega) Ah EH
    clear hle;go_wp2_with fail;go_quiet (fail);have gD:Hid (Below w.heap.size w (wr.drewN 1)):=ah HB.out (av _);go_wp2;go_roundw
    case rel=>exact⟨k+1,by congr 1,by omega,ah HB.out (av _),SH⟩
    case measure=>simp[intOf];omega
  ·have HU:Hid (KM l=true):=NA fun j x y hx hy=>HI.out j x y (by have:=(aA.1 hy).1;rw[HL.out] at this;omega) hx hy;go_wp2_with fail;go_ret;exact⟨by rw[HU.out];rfl,HB.out⟩
end
section
variable {P:Program}
theorem ff{ops:Array Oper}{o:Oper}{a:Act}{w w':World}{K:Act->World->Prop}{Q:Exit->Act->World->Prop}{E:Prop}
  (hg:o.guard=none) (ty:TypeId) {x y:Operand} (ho:o.op=.store ty x y) {p v:Value} (hx:a.eval x=p) (hy:a.eval y=v) (hr:(Instr.storeAt ty p v).run P w=.ok () w') (hK:K (a.put o.dst undef) w') :
  if Region.wanted o (yielded ops a.tmps)=true then Oper.wp P o a w K Q else E:=by
 have hw:Region.wanted o (yielded ops a.tmps)=true:=by simp[Region.wanted,hg]
 rw[aE hw];have dM:(execOp a.eval o).run P w=.ok .skip w':=by unfold execOp;simp only[ho,hx,hy,aU,hr,aH,bQ]
 unfold Oper.wp;rw[dM];exact hK
theorem eT{ops:Array Oper}{o:Oper}{a:Act}{w w':World}{K:Act->World->Prop}{Q:Exit->Act->World->Prop}{E:Prop}
  (hg:o.guard=none) (ty:TypeId) {x:Operand} (ho:o.op=.buildSlice ty 1 #[(0,x)]) {u v:Value} (hx:a.eval x=u) (hr:(Instr.buildSlice ty 1 #[(0,u)]).run P w=.ok v w') (hK:K (a.put o.dst v) w') :
  if Region.wanted o (yielded ops a.tmps)=true then Oper.wp P o a w K Q else E:=by
 have hw:Region.wanted o (yielded ops a.tmps)=true:=by simp[Region.wanted,hg]
 rw[aE hw];have e:(#[(0,x)]:Array (Nat × Operand)).map (fun (i,y)=>(i,a.eval y))=#[(0,u)]:=by simp[hx]
 have dM:(execOp a.eval o).run P w=.ok (.value v) w':=by unfold execOp;simp only[ho];rw[e];simp only[aU,hr,aH,bQ]
 unfold Oper.wp;rw[dM];exact hK
theorem oB{ops:Array Oper}{S:World->Prop}{o:Oper}{a:Act}(hw:Region.wanted o (yielded ops a.tmps)=true)(ty:TypeId){x:Operand}(ho:o.op=.load ty x){p v:Value}(hx:a.eval x=p)(dM:∀w,S w->(Instr.loadAt ty p).run P w=.ok v w):YieldsIf P ops S o v a :=
 .inl ⟨hw,fun w hS=>by unfold execOp;simp only[ho,hx,aU,dM w hS,aH,bQ]⟩
end
structure pX (w w':World) (Q:Nat) (n:Int) (ve xB:Value) (L':List En) (nx':Int):Prop where
 at':fC w' Q n xB L' nx'
 kept:E.Kept (fun k=>k=Q\/ve.ownBlock=some k) w w'
 new:∀g,xB.ownBlock=some g->ve.ownBlock=some g\/w.heap.size<=g
section
variable {w w':World} {Q:Nat} {n nx:Int} {ve:Value} {L:List En}
theorem pX.refl(h:fC w Q n ve L nx):pX w w Q n ve ve L nx:=⟨h,E.Kept.refl _ _,fun _ h=>.inl h⟩
theorem pX.below(h:fC w Q n ve L nx)(hb:Below w.heap.size w w'):pX w w' Q n ve ve L nx:=⟨h.later hb,E.Kept.bP _ hb,fun _ h=>.inl h⟩
theorem pX.trans{w1 w2:World}{v1 v2:Value}{L1 L2:List En}{n1 n2:Int}(h:pX w w1 Q n ve v1 L1 n1)(k:pX w1 w2 Q n v1 v2 L2 n2):pX w w2 Q n ve v2 L2 n2 :=
 ⟨k.at',h.kept.trans k.kept (fun x hx e=>e.elim .inl fun e=>(h.new x e).elim .inr fun e=>by omega),fun g hg=>(k.new g hg).elim (fun e=>h.new g e) fun e=>.inr (bJ h.kept.size e)⟩
theorem pX.later{w1 w2:World}{v1:Value}{L1:List En}{n1:Int}(h:pX w w1 Q n ve v1 L1 n1)(hb:Below w1.heap.size w1 w2):pX w w2 Q n ve v1 L1 n1:=h.trans (pX.below h.at' hb)
theorem fC.lay{W:World}{v':Value}{L':List En}(st:W.heap[Q]?=some (.cells #[.int .i64 n,ve,.int .u64 nx] 105 (0,0)))(hr:eU 54 W 0 v' L'):fC (W.setCell ⟨Q,1,none⟩ v') Q n v' L' nx:=by
 refine⟨?_,E.eB hr (E.Kept.setCell (w:=W) Q 1 v') (fun g hg e=>O.zZ hr st (by decide) (by rw[hg];exact congrArg some e))⟩;rw[bM W Q 1 _ 105 (0,0) v' st];exact cK W Q _ _ 105 _ st
theorem fC.next{W:World}{nx':Int}(h:fC W Q n ve L nx):fC (W.setCell ⟨Q,2,none⟩ (.int .u64 nx')) Q n ve L nx':=by
 refine⟨?_,E.eB h.row (E.Kept.setCell (w:=W) Q 2 _) (fun g hg e=>h.ne (by rw[hg];exact congrArg some e))⟩;rw[bM W Q 2 _ 105 (0,0) _ h.st];exact cK W Q _ _ 105 _ h.st
theorem pX.row{w1 w2:World}{v':Value}{L':List En}(h:fC w1 Q n ve L nx)(hb:Below w.heap.size w w1)(hO:eU 54 w2 0 v' L')(hK:E.Kept (fun k=>ve.ownBlock=some k) w1 w2)(hN:v'.ownBlock=ve.ownBlock\/v'.ownBlock=some w1.heap.size):pX w (w2.setCell ⟨Q,1,none⟩ v') Q n ve v' L' nx:=by
 have st2:=(hK.block Q h.lt h.ne).trans h.st;refine⟨fC.lay st2 hO,((E.Kept.bP _ hb).trans hK (fun x _ e=>.inr e)).trans (E.Kept.setCell Q 1 v') (fun x _ e=>.inl e),fun g hg=>?_⟩;rcases hN with e | e
 ·exact .inl (e ▸ hg)
 ·rw[e] at hg;cases hg;exact .inr hb.size
theorem pX.cells{w1 w2:World}(h:fC w1 Q n ve L nx)(hK:E.Kept (fun k=>ve.ownBlock=some k) w1 w2):w2.cell? ⟨Q,1,none⟩=some ve/\w2.frozen? ⟨Q,1,none⟩=false:=by
 have st2:=(hK.block Q h.lt h.ne).trans h.st;exact⟨by rw[aq _ Q 1 _ 105 (0,0) st2];rfl,by simp[World.frozen?,st2]⟩
theorem VC(h:fC w Q n ve L nx)(hk:t_ n L nx){x:En}(hx:x.Wf):Calls prog 76 #[.pointer (some ⟨Q,0,none⟩),.agg (aB x).toArray] w fun e w'=>e=.returned (.tuple #[])/\∃xB,pX w w' Q n ve xB (uP L x) nx:=by
 have aex:=hk.nR;obtain ⟨w1,dZ⟩:∃w1,w1=w.alloc (.cells (aB x).toArray 54):=⟨_,rfl⟩
 have B1:Below w.heap.size w w1:=by rw[dZ];exact ag w _
 have HV1:Hid (bE 54 w1 w.heap.size (aB x)):=by rw[dZ];exact bE.new _ _ _
 have uE:=zH (h.later B1);have gj:=zH B1;have HNE:Hid (¬ve.ownBlock=some w.heap.size):=fun e=>by have:=(h.row.lt _ e).2;omega
 have HQN:=zH h.lt;have HK:=zH hk;have HX:Hid x.Wf:=hx;have k0:w1.cell? ⟨w.heap.size,0,none⟩=some (.int .i64 x.b):=bE.cell HV1.out 0;have VZ:=dZ.symm;clear B1 h hk hx dZ;go_enter func76,ntmps76;go_wp2_with fail;refine (Pb uE.out HK.out x.b).mono ?_;rintro e w2 ⟨rfl,bn⟩;have A2:fC w2 Q n ve L nx:=uE.out.later bn;have HV2:=zH (bE.later HV1.out bn);have gD:Hid (Below w.heap.size w w2):=ah gj.out bn;clear HV1 uE gj bn VZ k0;have ahk:=UO L x.b;cases lf:EF L x.b with
 | true =>
  obtain ⟨y,hy,hyb⟩:=qI lf
  have hpl:mM L x.b<L.length:=(aA.1 hy).1;have HPT:Hid (L.take (mM L x.b)++[x]++L.drop (mM L x.b+1)=uP L x):=by
   show _=_;rw[<-adY HK.out.up lf,List.set_eq_take_append_cons_drop,aE hpl];simp
  obtain ⟨p,c,rfl,hc,hg⟩:=E.iW A2.row;obtain ⟨g,rfl⟩:=hg (by omega);have rD:eU 54 w2.drew 0 (.slice (some ⟨g,0,none⟩) L.length c) L:=A2.row;obtain ⟨W',iU,ho,hgr⟩:=eU.put jG rD HK.out.wf x HX.out (mM L x.b) hpl;have jf:Hid ((Instr.storeAt 54 (.pointer (some ⟨g,mM L x.b*34,none⟩)) (.agg (aB x).toArray)).run prog w2.drew=.ok () W'):=iU;have jb:Below w.heap.size w w2.drew:=ah gD.out (show Below w2.heap.size w2 w2.drew from av 1);have kg:=E.rG (v:=.slice (some ⟨g,0,none⟩) L.length c) hgr;have AD:fC w2.drew Q n (.slice (some ⟨g,0,none⟩) L.length c) L nx:=A2.later (show Below w2.heap.size w2 w2.drew from av 1);have yO:Hid (pX w W' Q n (.slice (some ⟨g,0,none⟩) L.length c) (.slice (some ⟨g,0,none⟩) L.length c) (uP L x) nx):=by
   refine⟨⟨(kg.block Q AD.lt AD.ne).trans AD.st,?_⟩,(E.Kept.bP _ jb).trans kg (fun y _ e=>.inr e),fun g' EK=>.inl EK⟩;rw[<-HPT.out];exact ho
  have Nv:Hid (w2.drew.cell? ⟨Q,1,none⟩=some (.slice (some ⟨g,0,none⟩) L.length c)/\bE 54 w2.drew w.heap.size (aB x)):=⟨A2.c1,HV2.out⟩
  have zM:Hid (W'.cell? ⟨Q,1,none⟩=some (.slice (some ⟨g,0,none⟩) L.length c)/\bE 54 W' w.heap.size (aB x)):=⟨yO.out.at'.c1,(kg.block _ (bE.lt HV2.out) HNE.out).trans HV2.out⟩
  have i1:((mM L x.b:Nat):Int)<(L.length:Int):=by omega
  have i0:(0:Int)<=((mM L x.b:Nat):Int):=by omega
  clear iU ho hgr rD hy hyb A2 HPT HV2 gD kg AD jb HNE ahk hpl;generalize mM L x.b=k at *;go_wp2_with fail;refine zR (fun W=>W.cell? ⟨Q,1,none⟩=some (.slice (some ⟨g,0,none⟩) L.length c)/\bE 54 W w.heap.size (aB x)) Nv.out fun aa=>?_;refine gh 0 1 2 aa ?_;refine de 3 aa (fun _ fc=>fc.1) ?_;refine tk 4 aa ?_;refine dz (i:=5) (v:=_) (by simp;rfl) (by kernel_rfl) (by kernel_rfl) (by kernel_rfl) (fun _ _ _ h=>h) (oB (x:=.tmp 3) (p:=.pointer (some ⟨w.heap.size,0,none⟩)) (v:=.agg (aB x).toArray) (by rfl) 54 rfl rfl (fun W hW=>bE.yV jG hW.2 HX.out.len)) aa ?_;simp only[Act.put,zA,zB,zC];refine tk 6 aa ?_;refine ck (rs:=[7]) (by kernel_rfl) (by simp) ?_;refine bu (by simp;rfl) (fun Kc aJ=>?_) bO;refine ff rfl 54 rfl rfl rfl jf.out ?_;refine aJ.out _ _ zM.out (fun aa=>?_);clear aJ Kc aa;simp only[Act.put];refine zD ?_;go_wp2;refine cC (kF rfl _ _ _) rfl ?_;exact⟨rfl,_,yO.out⟩
 | false =>
  have HPT:=zH (adX HK.out.up lf);have AD:fC w2.drew Q n ve L nx:=A2.later (show Below w2.heap.size w2 w2.drew from av 1);obtain ⟨w3,jM⟩:∃w3,w3=w2.drew.alloc (.cells (aB x).toArray 54):=⟨_,rfl⟩
  have CO:Hid ((Instr.buildSlice 47 1 #[(0,.agg (aB x).toArray)]).run prog w2.drew=.ok (.slice (some ⟨w2.heap.size,0,none⟩) 1 1) w3):=by rw[jM];exact mE jG w2.drew x HX.out.len
  have b23:Below w2.drew.heap.size w2.drew w3:=by rw[jM];exact ag w2.drew _
  have l3:bE 54 w3 w2.heap.size (aB x):=by rw[jM];exact bE.new _ w2.drew _
  have A3:fC w3 Q n ve L nx:=AD.later b23;have SP:=zH A3;have HV3:Hid (bE 54 w3 w.heap.size (aB x)):=bE.later (w:=w2.drew) HV2.out b23;have vN:Hid (Below w.heap.size w w3):=ah gD.out (ah (show Below w2.heap.size w2 w2.drew from av 1) b23);have ahx:=Rn A3.row HK.out.wf HX.out l3 (fun e=>by have:=(AD.row.lt _ e).2;simp at this) ahk (by omega) (aI _);have aiU:=zH ahx;have Nv:Hid (w2.drew.cell? ⟨Q,1,none⟩=some ve/\bE 54 w2.drew w.heap.size (aB x)):=⟨A2.c1,HV2.out⟩
  have EY:=rf A3.c1 HV3.out;obtain ⟨g2,Wq⟩:∃g2,g2=w2.heap.size:=⟨_,rfl⟩
  rw[<-Wq] at aiU CO;have mixed:prog.follows Departure.mixedOrders=true:=by kernel_rfl
  clear jM b23 l3 A3 A2 AD ahx gD HV2 Wq;go_wp2_with fail;refine jg ?_;refine jX 11 (fun W=>W.cell? ⟨Q,1,none⟩=some ve/\bE 54 W w.heap.size (aB x)) mixed ?_;have aa:=Nv.out;refine vS 0 aa ?_;refine vS 1 aa ?_;refine vS 2 aa ?_;refine vS 3 aa ?_;refine iV (i:=4) (v:=?akG) (by simp;rfl) (by kernel_rfl) (by kernel_rfl) (by kernel_rfl) (by kernel_rfl) (fun _ _ _ h=>h) (Or.inl ⟨by rfl,?ya11⟩) aa ?akN
  case ya11=>intro w fc;have z:=fc.1;clear fc;go_simp;with_reducible rfl
  simp only[Act.put,zA,zB,zC];refine vS 5 aa ?_;refine iV (i:=6) (v:=_) (by simp;rfl) (by kernel_rfl) (by kernel_rfl) (by kernel_rfl) (by kernel_rfl) (fun _ _ _ h=>h) (oB (x:=.tmp 3) (p:=.pointer (some ⟨w.heap.size,0,none⟩)) (v:=.agg (aB x).toArray) (by rfl) 54 rfl rfl (fun W hW=>bE.yV jG hW.2 HX.out.len)) aa ?_;simp only[Act.put,zA,zB,zC];refine bU (rs:=[7]) (by kernel_rfl) (by simp) ?_;refine aR.cons (by simp;rfl) (fun Kc aJ=>?_) aR.nil;refine eT (by rfl) 47 rfl rfl CO.out ?_;refine aJ.out _ _ (fun _=>EY.out) ?_;clear aa;have aa:=EY.out;clear aJ Kc;simp only[Act.put,zA,zB,zC];refine bU (rs:=[8]) (by kernel_rfl) (by simp) ?_;refine aR.cons (by simp;rfl) (fun Kc aJ=>?_) aR.nil;go_simp;refine aiU.out.mono ?_;rintro e w4 ⟨v',rfl,hO,hK,hN⟩;obtain ⟨p4,m4,c4,rfl⟩:∃p4 m4 c4,v'=.slice p4 m4 c4:=by obtain ⟨p4,c4,e4,-,-⟩:=E.iW hO;exact⟨p4,_,c4,e4⟩
  have yO:Hid (pX w (w4.setCell ⟨Q,1,none⟩ (.slice p4 m4 c4)) Q n ve (.slice p4 m4 c4) (uP L x) nx):=pX.row SP.out vN.out (by rw[<-HPT.out];exact hO) hK hN;have HQ:=zH (pX.cells SP.out hK);have Ki:Hid (w4.cell? ⟨Q,1,none⟩=some ve/\bE 54 w4 w.heap.size (aB x)):=⟨HQ.out.1,(hK.block _ (bE.lt HV3.out) HNE.out).trans HV3.out⟩
  refine aJ.out _ _ (fun _=>Ki.out) ?_;clear aa;have aa:=Ki.out;clear aJ Kc hO hK hN;refine bU (rs:=[9]) (by kernel_rfl) (by simp) ?_;refine aR.cons (by simp;rfl) (fun Kc aJ=>?_) aR.nil;go_simp;refine aJ.out _ _ (fun _=>Ki.out) ?_;clear aa;have aa:=Ki.out;clear aJ Kc;refine vS 10 aa ?_;refine bU (rs:=[11]) (by kernel_rfl) (by simp) ?_;refine aR.cons (by simp;rfl) (fun Kc aJ=>?_) aR.nil;have q1:=HQ.out.1;have q2:=HQ.out.2;go_simp;refine aJ.out _ _ (fun h=>absurd rfl h) ?_;clear aJ Kc aa q1 q2;refine jY (by kernel_rfl) (lq ?_) _;go_wp2
  go_end0
  exact⟨rfl,_,yO.out⟩
end
def CZ (n:Int)(L:List En)(nx:Int)(l:List Im)(p:Int):List En:=if ji n nx l p=0 then lays L l p else L
def LM (n nx:Int)(l:List Im)(p:Int):Int:=if ji n nx l p=0 then p+1 else nx
theorem oL{n nx:Int}{l:List Im}{p:Int}(h:l.any (jC n)=true):ji n nx l p=51:=aE h
theorem xX{n nx:Int}{l:List Im}{p:Int}(h:l.any (jC n)=false)(h2:KM l=false):ji n nx l p=53:=by
 unfold ji;rw[aD (by rw[h];decide),aE h2]
theorem qB{n nx:Int}{l:List Im}{p:Int}(h:l.any (jC n)=false)(h2:KM l=true)(h3:p<nx\/4611686018427387904<p):ji n nx l p=30:=by
 unfold ji;rw[aD (by rw[h];decide),aD (by rw[h2];decide),aE h3]
theorem Fu{n nx:Int}{l:List Im}{p:Int}(h:l.any (jC n)=false)(h2:KM l=true)(h3:¬(p<nx\/4611686018427387904<p)):ji n nx l p=0:=by
 unfold ji;rw[aD (by rw[h];decide),aD (by rw[h2];decide),aD h3]
theorem t_.put{n nx p:Int}{L:List En}{l:List Im}(h:t_ n L nx)(hw:pY l)(hp:0<=p/\p<18446744073709551616):t_ n (CZ n L nx l p) (LM n nx l p):=by
 unfold CZ LM;by_cases e:ji n nx l p=0
 ·rw[aE e,aE e];have h1:l.any (jC n)=false:=by
   cases k:l.any (jC n) with
   | false=>rfl
   | true=>rw[oL k] at e;cases e
  have h2:KM l=true:=by
   cases k:KM l with
   | true=>rfl
   | false=>rw[xX h1 k] at e;cases e
  have h3:¬(p<nx\/4611686018427387904<p):=fun k=>by rw[qB h1 h2 k] at e;cases e
  exact (h.lays hp l hw (fun i hi=>by simpa using qd.1 h1 i hi)).next hp.1 (by omega)
 ·rw[aD e,aD e];exact h
section
variable {w w':World} {Q:Nat} {n nx:Int} {ve:Value} {L:List En}
theorem UF(h:fC w Q n ve L nx)(hk:t_ n L nx){p:Option Addr}{m c:Nat}{l:List Im}(hM:uD w p m l)(hm:m<=140737488355328)(yq:∀a,p=some a->0<m->¬(a.block=Q\/ve.ownBlock=some a.block)){ps:Int}(hp:0<=ps/\ps<18446744073709551616) :
  Calls prog 32 #[.pointer (some ⟨Q,0,none⟩),.slice p m c,.int .u64 ps] w fun e w'=>e=.returned (.int .i64 (ji n nx l ps))/\∃xB,pX w w' Q n ve xB (CZ n L nx l ps) (LM n nx l ps):=by
 have Wi:=hk.n1;have MB:=hk.n64;have HA:=zH h;have HK:=zH hk;have HM:=zH hM;have Tr:=zH yq;have Ts:Hid (∀e,ji n nx l ps=e->e≠0->CZ n L nx l ps=L/\LM n nx l ps=nx):=fun e h1 h2=>⟨aD (by rw[h1];exact h2),aD (by rw[h1];exact h2)⟩
 have am2:Hid (ji n nx l ps=0->CZ n L nx l ps=lays L l ps/\LM n nx l ps=ps+1):=fun h1=>⟨aE h1,aE h1⟩
 have GD:=hp.1;have Te:=hp.2;have arb:=hk.nx0;have ara:=hk.nx1;clear h hk hM yq hp;go_enter func32,ntmps32;go_wp2_with fail;refine (JN HA.out (by constructor <;> omega) HM.out hm).mono ?_;rintro e w1 ⟨rfl,b1⟩;cases ho:l.any (jC n) with
 | true =>
  have HE:Hid (ji n nx l ps=51):=oL ho;have HB:=zH b1;clear ho b1;go_wp2_with fail;go_ret;exact⟨by rw[HE.out];rfl,ve,by rw[(Ts.out _ HE.out (by decide)).1,(Ts.out _ HE.out (by decide)).2];exact pX.below HA.out HB.out⟩
 | false =>
  have HO:=zH ho;have gj:=zH b1;clear ho b1;go_wp2_with fail;refine (ZB (HM.out.later gj.out) hm).mono ?_;rintro e w2 ⟨rfl,b2⟩;have gD:Hid (Below w.heap.size w w2):=ah gj.out b2;clear b2 gj;cases hu:KM l with
  | false =>
   have HE:Hid (ji n nx l ps=53):=xX HO.out hu;clear hu;go_wp2_with fail;go_ret;exact⟨by rw[HE.out];rfl,ve,by rw[(Ts.out _ HE.out (by decide)).1,(Ts.out _ HE.out (by decide)).2];exact pX.below HA.out gD.out⟩
  | true =>
   have HU:=zH hu;have c2:=(HA.out.later gD.out).c2;clear hu;by_cases hr:ps<nx
   ·have HE:Hid (ji n nx l ps=30):=qB HO.out HU.out (.inl hr);go_wp2_with fail;go_ret;exact⟨by rw[HE.out];rfl,ve,by rw[(Ts.out _ HE.out (by decide)).1,(Ts.out _ HE.out (by decide)).2];exact pX.below HA.out gD.out⟩
   ·by_cases OM:4611686018427387904<ps
    ·have HE:Hid (ji n nx l ps=30):=qB HO.out HU.out (.inr OM);go_wp2_with fail;go_ret;exact⟨by rw[HE.out];rfl,ve,by rw[(Ts.out _ HE.out (by decide)).1,(Ts.out _ HE.out (by decide)).2];exact pX.below HA.out gD.out⟩
    ·have HE:Hid (ji n nx l ps=0):=Fu HO.out HU.out (fun h=>h.elim hr OM);have HY:=zH (am2.out HE.out);have HL:=zH HM.out.len;have CM:Hid (∀k,t_ n (lays L (l.take k) ps) nx):=fun k=>HK.out.lays ⟨GD,Te⟩ _ (fun x hx=>HM.out.wf x (eY hx)) (fun i hi=>by simpa using qd.1 HO.out i (eY hi));go_wp2_with fail
     go_loopw [34] (fun v W=>∃(k:Nat) (xB:Value),v=.int .i64 (k:Int)/\k<=m/\Hid (pX w W Q n ve xB (lays L (l.take k) ps) nx)) (fun v _=>m-(intOf v).toNat)
     case atStart=>exact⟨0,ve,rfl,by omega,(by rw[jy];exact pX.below HA.out gD.out:pX w w2 Q n ve ve (lays L (l.take 0) ps) nx)⟩
     case round =>
      obtain ⟨k,xB,rfl,hk,HW⟩:=hrel;by_cases eP:k<m
      ·obtain ⟨x,hx⟩:∃x,l[k]?=some x:=⟨_,ay (by rw[HL.out];omega)⟩
       obtain ⟨b1,o1,e1,-⟩:=HM.out.cells (by omega);have OZ:uD wr p m l:=HM.out.mO HW.out.kept Tr.out;subst e1;have yo:x.Wf:=OZ.wf x (bt hx);have Yc:Hid (l.take (k+1)=l.take k++[x]):=by
        show _=_;obtain ⟨kN,ex⟩:=aA.1 hx;rw[bw kN,ex]
       have zO:=zH (OZ.load hx);obtain ⟨w3,jM⟩:∃w3,w3=wr.alloc (.cells (dO VV).toArray 84):=⟨_,rfl⟩
       obtain ⟨w4,nU⟩:∃w4,w4=wr.alloc (.cells (dO x).toArray 84):=⟨_,rfl⟩
       have jw:Hid ((Instr.alloc 84 true (.tuple #[])).run prog wr=.ok (.pointer (some ⟨wr.heap.size,0,none⟩)) w3):=by rw[jM];exact afc wr
       have jf:Hid ((Instr.storeAt 84 (.pointer (some ⟨wr.heap.size,0,none⟩)) (.agg (dO x).toArray)).run prog w3=.ok () w4):=by rw[jM,nU];exact KQ wr x yo.len
       have b4:Below wr.heap.size wr w4:=by rw[nU];exact ag wr _
       have l4:bE 84 w4 wr.heap.size (dO x):=by rw[nU];exact bE.new _ _ _
       have CA:=zH (HW.out.later b4);have z0:w4.cell? ⟨wr.heap.size,0,none⟩=some (.int .i64 x.b):=bE.cell l4 0;have HLV:=zH (bE.adT l4 yo.len);have HBU:=zH (Xx jG w4 x.b x.v ps yo.len);have HXW:Hid (En.Wf ⟨x.b,x.v,ps⟩):=⟨yo.b,yo.len,yo.byte,GD,Te⟩
       have i1:(k:Int)<(m:Int):=by omega
       clear jM nU b4 l4 yo hx OZ HW;go_wp2_with ((with_reducible refine aQ ?_);(first | ((first | (refine aK (by rfl) 84 rfl rfl zO.out ?_) | (refine aK (by rfl) 51 rfl rfl HLV.out ?_) | (refine iT (by rfl) 84 rfl jw.out ?_) | (refine bh (vs:=[(0,.int .i64 x.b),(1,.agg (U8 x.v).toArray),(2,.int .u64 ps)]) (by rfl) 54 rfl (by rfl) HBU.out ?_));simp only[Act.put,zA,zB,zC]) | (refine qo 84 jf.out ?_)))
       refine (VC CA.out.at' (CM.out k) HXW.out).mono ?_;rintro e w5 ⟨rfl,ve5,hW5⟩;have SD:Hid (pX w w5 Q n ve ve5 (lays L (l.take (k+1)) ps) nx):=by
        show pX _ _ _ _ _ _ _ _;rw[Yc.out,EA];exact CA.out.trans hW5
       clear hW5 CA zO HLV jw jf HBU Yc z0;go_wp2_with fail;go_roundw
       case rel=>exact⟨k+1,ve5,by congr 1,by omega,SD⟩
       case measure=>simp[intOf];omega
      ·have CI:Hid (pX w wr Q n ve xB (lays L l ps) nx):=by
        have:=HW.out;rw[aL (by rw[HL.out];omega)] at this;exact this
       have q2:=CI.out.at'.c2;have f2:=CI.out.at'.free 2;have hwp:IntKind.u64.wrap (ps+1)=ps+1:=by rw[eD];omega
       clear HW;go_wp2;go_ret;refine⟨by rw[HE.out];rfl,xB,?_⟩;rw[HY.out.1,HY.out.2];exact⟨CI.out.at'.next,CI.out.kept.trans (E.Kept.setCell Q 2 _) (fun x _ e=>.inl e),CI.out.new⟩
