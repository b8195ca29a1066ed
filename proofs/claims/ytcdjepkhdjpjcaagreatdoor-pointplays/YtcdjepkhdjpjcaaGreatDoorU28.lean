import Derived.Test.YtcdjepkhdjpjcaaGreatDoorU27
set_option maxHeartbeats 20000000
set_option maxRecDepth 100000
namespace Go.Proofs.Zq.Q
open Go.Proofs.Tryz
open Go.RowKit
theorem aid:E.Tx 44 153 2 32:=by
 obtain ⟨i0,hi,h0,h1,h2⟩:=cj (show (prog.info? 153).map (fun i=>(i.zero,i.size,i.bytes))=some (some (.agg #[.slice none 0 0,.int .u64 0]),2,32) by kernel_rfl);exact⟨underlying44,⟨i0,_,hi,h0,h1,h2,rfl⟩,by decide,by decide⟩
def Th.RI (u:Option Addr × Nat)(q:Cm):Th:=⟨fun w G=>Gx w G u q,fun _=>False,fun _ _ _ _ h=>h.elim,fun _ _ _ _ _ h hk _ hS xu=>h.kept hk hS xu⟩
section
variable {w0 w w':World} {K:Ks} {x y:Sx} {pd:List Cm} {X T:Nat->Th} {G:Nat->Prop}
theorem agK(h:DS w0 w K x y pd X){i:Nat}(h8:8<=i)(eC:i<40){u:Option Addr × Nat}{q:Cm}(e:X i=.RI u q):Calls prog 32 #[E.qp K.kp,.slice u.1 q.1.length u.2,.int .u64 q.2] w fun e w'=>e=.returned (.int .i64 (x.ji q.1 q.2))/\DS w0 w' K (x.put q.1 q.2) y pd X:=by
 obtain ⟨v,G,hl,at',im,-,back⟩:=h.Bp;have c:=at' i h8 eC;rw[e] at c;have c:Gx w G u q:=c;have hf:=c.nR;refine (C.UF hl h.lU.k c.im (by omega) (fun a ha _ hb=>im _ hb (c.g a ha)) c.at').mono ?_;rintro e' w' ⟨rfl,xB,hw⟩;refine⟨rfl,back w' _ _ _ _ (by rw[Fx];exact hw) (h.lU.put c.im.wf c.at')⟩
theorem agC(h:DS w0 w K x y pd X){i:Nat}(h8:8<=i)(eC:i<40){u:Option Addr × Nat}{q:Cm}(e:X i=.RI u q):Calls prog 133 #[E.qp K.kr,.slice u.1 q.1.length u.2,.int .u64 q.2] w fun e w'=>e=.returned (.int .i64 (y.ji q.1 q.2))/\DS w0 w' K x (y.put q.1 q.2) pd X:=by
 obtain ⟨v,G,hl,at',im,-,back⟩:=h.zl;have c:=at' i h8 eC;rw[e] at c;have c:Gx w G u q:=c;have hf:=c.nR;refine (C.NV hl h.mP.k h.mP.p0 c.im (by omega) (fun a ha _ hb=>im _ hb (c.g a ha)) c.at').mono ?_;rintro e' w' ⟨rfl,xB,hw⟩;exact⟨rfl,back w' _ _ _ _ hw (h.mP.put c.im.wf c.at')⟩
theorem adz(h:DS w0 w K x y pd X)(c:Nat){q:Int}(hq:0<=q/\q<18446744073709551616):Calls prog 32 #[E.qp K.kp,.slice none 0 c,.int .u64 q] w fun e w'=>e=.returned (.int .i64 (x.ji [] q))/\DS w0 w' K (x.put [] q) y pd X:=by
 obtain ⟨v,G,hl,-,-,-,back⟩:=h.Bp;refine (C.UF hl h.lU.k (C.uD.nil w none) (by omega) (fun a ha=>by cases ha) hq).mono ?_;rintro e' w' ⟨rfl,xB,hw⟩;refine⟨rfl,back w' _ _ _ _ (by rw[Fx];exact hw) (h.lU.put C.pY.nil hq)⟩
theorem adp(h:DS w0 w K x y pd X)(c:Nat){q:Int}(hq:0<=q/\q<18446744073709551616):Calls prog 133 #[E.qp K.kr,.slice none 0 c,.int .u64 q] w fun e w'=>e=.returned (.int .i64 (y.ji [] q))/\DS w0 w' K x (y.put [] q) pd X:=by
 obtain ⟨v,G,hl,-,-,-,back⟩:=h.zl;refine (C.NV hl h.mP.k h.mP.p0 (C.uD.nil w none) (by omega) (fun a ha=>by cases ha) hq).mono ?_;rintro e' w' ⟨rfl,xB,hw⟩;exact⟨rfl,back w' _ _ _ _ hw (h.mP.put C.pY.nil hq)⟩
theorem Ct(u:Option Addr × Nat)(q:Cm):∀{us:List (Option Addr × Nat)} {qs:List Cm},us.length=qs.length->pV (us++[u]) (qs++[q])=pV us qs++zG u q
 | [],[],_=>rfl
 | [],_ :: _,h=>by cases h
 | _ :: _,[],h=>by cases h
 | a :: us,b :: qs,h=>by
  show zG a b++pV (us++[u]) (qs++[q])=zG a b++pV us qs++zG u q;rw[Ct u q (by simpa using h),aS]
theorem Dw.snoc{u:Option Addr × Nat}{q:Cm}(hq:Gx w G u q):∀{us:List (Option Addr × Nat)} {qs:List Cm},Dw w G us qs->Dw w G (us++[u]) (qs++[q])
 | [],[],_=>⟨hq,trivial⟩
 | [],_ :: _,h=>h.elim
 | _ :: _,[],h=>h.elim
 | _ :: _,_ :: _,h=>⟨h.1,h.2.snoc hq⟩
theorem EU(u:Option Addr × Nat)(q:Cm):∀v∈zG u q,v.oneCell'=true:=fun v hv=>by
 simp only[zG,bZ,dL,or_false] at hv;rcases hv with rfl | rfl <;> rfl
theorem Cu:∀(us:List (Option Addr × Nat)) (qs:List Cm),∀v∈pV us qs,v.oneCell'=true
 | [],_,v,hv=>by cases hv
 | _ :: _,[],v,hv=>by cases hv
 | a :: us,b :: qs,v,hv=>by
  rcases bH.1 hv with hv | hv
  ·exact EU a b v hv
  ·exact Cu us qs v hv
theorem DF.agx{wa:World}(h:DF w0 wa K x y pd T G)(Jr:Below w0.heap.size w0 w){v v':Value}{Yr:List Cm}(e6:T 6=.bC K.P 46 (jD K v)){T':Nat->Th}{G':Nat->Prop}(hf:lT w0 w T' G')(hT:∀i,i<6->T' i=T i)(e6':T' 6=T 6)(e7:T' 7=.QY v' Yr):DF w0 (w.setCell ⟨K.P,23,none⟩ v') K x y Yr (put T' 6 (.bC K.P 46 (jD K v'))) G':=by
 have a:=hf.at' 6 (by omega);have lo:=hf.lo 6 (by omega);rw[e6',e6] at a lo;have hk:=E.Kept.setCell (w:=w) K.P 23 v';have iU:(w.setCell ⟨K.P,23,none⟩ v').heap[K.P]?=some (.cells (jD K v') 46 (0,0)):=by
  rw[bM w K.P 23 _ 46 (0,0) v' a];exact cK w K.P _ _ 46 _ a
 refine⟨hf.turn (S:=(·=K.P)) (by omega) iU hk (fun b hb=>by rw[e6',e6];exact hb) (fun b hb=>by rw[e6',e6];exact .inl hb) Jr.size (fun _ a=>a) (fun _ a=>.inl a),hk.uR Jr (fun b h1 h2=>?_) (az _),?_,?_,?_,?_,?_,?_,⟨v',ax _ _ _,?_⟩,h.lU,h.mP,h.cx,h.cy⟩
 ·have:=lo b h2;omega
 ·rw[af _ _ (by decide),hT 0 (by decide)];exact h.t0
 ·rw[af _ _ (by decide),hT 1 (by decide)];exact h.t1
 ·rw[af _ _ (by decide),hT 2 (by decide)];exact h.t2
 ·rw[af _ _ (by decide),hT 3 (by decide)];exact h.t3
 ·rw[af _ _ (by decide),hT 4 (by decide)];exact h.t4
 ·rw[af _ _ (by decide),hT 5 (by decide)];exact h.t5
 ·rw[af _ _ (by decide)];exact e7
theorem JJ(K:Ks)(v:Value):(jD K v)[23]?=some v:=rfl
theorem DS.push(h:DS w0 w K x y pd X){i:Nat}(h8:8<=i)(eC:i<40){v:Value}{l:List C.Im}(e:X i=.row 84 33 v l.length (C.IC l))(Mw:C.pY l)(hl:l.length<=16){q:Int}(hq:0<=q/\q<18446744073709551616)(hp:pd.length<=5000):∃pv,w.cell? ⟨K.P,23,none⟩=some pv/\w.frozen? ⟨K.P,23,none⟩=false/\∃v' w',(Builtin.append_ #[44,44] 44 #[pv,.slice (some ⟨w.heap.size,0,none⟩) 1 1]).run prog (w.alloc (.cells #[v,.int .u64 q] 153))=.ok v' w'/\(∃p c,v'=.slice p (pd.length+1) c)/\w'.frozen? ⟨K.P,23,none⟩=false/\w'.cell? ⟨K.P,23,none⟩=some pv/\DS w0 (w'.setCell ⟨K.P,23,none⟩ v') K x y (pd++[(l,q)]) (put X i .no):=by
 obtain ⟨T,G,h,hX⟩:=h;obtain ⟨pv,e6,e7⟩:=h.t6;have hb:Below w.heap.size w (w.alloc (.cells #[v,.int .u64 q] 153)):=ag w _;have Ry:(w.alloc (.cells #[v,.int .u64 q] 153)).heap[w.heap.size]?=some (.cells #[v,.int .u64 q] 153 (0,0)):=aG w _;have GF:=h.jN.at' 6 (by omega);rw[e6] at GF;have GF:w.heap[K.P]?=some (.cells (jD K pv) 46 (0,0)):=GF;have c0:w.cell? ⟨K.P,23,none⟩=some pv:=by rw[aq _ K.P 23 _ 46 (0,0) GF];exact JJ K pv
 have hi:T i=.row 84 33 v l.length (C.IC l):=(hX i h8 eC).trans e;have hr0:=h.jN.at' i eC;rw[hi] at hr0;have hr0:w.ownsRow 0 84 33 v l.length (C.IC l):=hr0;obtain ⟨ip,ic,hv,-,-,-⟩:=C.Kg.in (B:=0) hr0 Mw;generalize w.alloc (.cells #[v,.int .u64 q] 153)=w1 at *;have h1:=h.later hb;have p7:=h1.jN.at' 7 (by omega);rw[e7] at p7;obtain ⟨us,rX,hco⟩:=XX.ex p7;have MA:w1.ownsRow 0 153 2 (.slice (some ⟨w.heap.size,0,none⟩) 1 1) 1 (zG (ip,ic) (l,q)):=by
  refine⟨rfl,.inr ⟨w.heap.size,1,#[v,.int .u64 q],rfl,aI _,Ry,az _,by decide,rfl,?_⟩⟩;rw[hv];rfl
 obtain ⟨v',w',hr,dR,MC,hv'⟩:=E.pL aid rX 44 MA (EU _ _) (by omega) (aI _);refine⟨pv,c0,by simp[World.frozen?,GF],v',w',hr,E.cB dR,?_⟩
 -- the eN are never written again
 have g1:lT w0 w1 (put T i .no) (fun g=>G g\/v.ownBlock=some g):=by
  refine (h1.jN.drop i).still (fun g a=>.inl a) (fun g a=>a.elim (h1.jN.YG g) fun c=>?_) (fun g a na j hj=>?_)
  ·exact h1.jN.lt eC (by rw[hi];exact c)
  ·have c:=a.resolve_left na;by_cases ej:j=i
   ·subst ej;rw[ax];exact fun e=>e
   ·rw[af _ _ ej];exact fun d=>h1.jN.apart i j eC hj (fun e=>ej e.symm) g (by rw[hi];exact c) d
 have n7:(7:Nat)≠i:=by omega
 have n6:(6:Nat)≠i:=by omega
 have Kt:Gx w1 (fun g=>G g\/v.ownBlock=some g) (ip,ic) (l,q):=by
  refine⟨?_,hl,fun a ha=>.inr ?_,hq⟩
  ·obtain ⟨p2,c2,uT,hm,-,-⟩:=C.Kg.in (B:=0) (C.Kg.later (B:=0) hr0 hb) Mw;rw[hv] at uT;cases uT;exact hm
  ·have ha:ip=some a:=ha;rw[hv,ha];rcases hr0.2 with ⟨e1,_⟩ | ⟨g,cap,cur,e1,_⟩
   ·rw[hv,ha] at e1;cases e1
   ·rw[hv,ha] at e1;cases e1;rfl
 have hGv:∀g,(G g\/v.ownBlock=some g)->¬pv.ownBlock=some g:=fun g a b=>by
  have Ww:(put T i .no 7).iF g:=by rw[af _ _ n7,e7];exact b
  exact g1.im 7 (by omega) g Ww a
 have g2:lT w0 w' (put (put T i .no) 7 (.QY v' (pd++[(l,q)]))) (fun g=>G g\/v.ownBlock=some g):=by
  refine g1.turn (S:=fun b=>pv.ownBlock=some b) (by omega) ⟨us++[(ip,ic)],?_,?_⟩ MC (fun b hb=>?_) (fun b hb=>?_) h1.below.size (fun _ a=>a) (fun _ a=>.inl a)
  ·rw[Ct _ _ hco.len,aO,fO];exact dR
  ·exact ((hco.kept (E.Kept.refl (fun _=>False) w1) (fun _ _ e=>e) (fun g a=>Or.inl a)).snoc Kt).kept MC (fun g a b=>hGv g a b) (fun _ a=>a)
  ·rw[af _ _ n7,e7];exact hb
  ·have jb:v'.ownBlock=some b:=hb;rcases hv' with e1 | e1
   ·rw[e1] at jb;exact .inl (by rw[af _ _ n7,e7];exact jb)
   ·rw[e1] at jb;cases jb;exact .inr (az _)
 have Jr:Below w0.heap.size w0 w':=MC.uR h1.below (fun b hb hs=>by
  have Ww:(T 7).iF b:=by rw[e7];exact hs
  have:=h1.jN.lo 7 (by omega) b Ww;omega) (az _)
 have hP':=g2.at' 6 (by omega);rw[af _ _ (by decide),af _ _ n6,e6] at hP';have hP':w'.heap[K.P]?=some (.cells (jD K pv) 46 (0,0)):=hP';refine⟨by simp[World.frozen?,hP'],by rw[aq _ K.P 23 _ 46 (0,0) hP'];exact JJ K pv,?_⟩;refine⟨_,_,h.agx Jr e6 g2 (fun j hj=>by rw[af _ _ (by omega),af _ _ (by omega)]) (by rw[af _ _ (by decide),af _ _ n6]) (ax _ _ _),fun j h8 eC=>?_⟩;rw[af _ _ (by omega),af _ _ (by omega)];by_cases ej:j=i
 ·subst ej;rw[ax,ax]
 ·rw[af _ _ ej,af _ _ ej];exact hX j h8 eC
theorem DS.head{l:List C.Im}{q:Int}(h:DS w0 w K x y ((l,q) :: pd) X){j:Nat}(h8:8<=j):∃g c u,w.cell? ⟨K.P,23,none⟩=some (.slice (some ⟨g,0,none⟩) (pd.length+1) c)/\w.frozen? ⟨K.P,23,none⟩=false/\pd.length+1<=c/\w.cell? ⟨g,0,none⟩=some (.slice u.1 l.length u.2)/\w.cell? ⟨g,1,none⟩=some (.int .u64 q)/\DS w0 w K x y ((l,q) :: pd) (put X j (.RI u (l,q))):=by
 obtain ⟨T,G,h,hX⟩:=h;obtain ⟨pv,e6,e7⟩:=h.t6;have GF:=h.jN.at' 6 (by omega);rw[e6] at GF;have GF:w.heap[K.P]?=some (.cells (jD K pv) 46 (0,0)):=GF;have p7:=h.jN.at' 7 (by omega);rw[e7] at p7;obtain ⟨us,rX,hco⟩:=XX.ex p7;obtain ⟨u,us,rfl⟩:∃u t,us=u :: t:=by
  cases us with
  | nil=>exact hco.elim
  | cons u t=>exact⟨u,t,rfl⟩
 obtain ⟨g,c,rfl,hc,hcs,-⟩:=C.O.qE rX (by simp);refine⟨g,c,u,by rw[aq _ K.P 23 _ 46 (0,0) GF];exact JJ K _,by simp[World.frozen?,GF],hc,hcs 0 _ rfl,hcs 1 _ rfl,put T j (.RI u (l,q)),G,⟨h.jN.add hco.1 (fun _ e=>e.elim),h.below,?_,?_,?_,?_,?_,?_,?_,h.lU,h.mP,h.cx,h.cy⟩,fun i h8 eC=>?_⟩
 ·rw[af _ _ (by omega)];exact h.t0
 ·rw[af _ _ (by omega)];exact h.t1
 ·rw[af _ _ (by omega)];exact h.t2
 ·rw[af _ _ (by omega)];exact h.t3
 ·rw[af _ _ (by omega)];exact h.t4
 ·rw[af _ _ (by omega)];exact h.t5
 ·rw[af _ _ (by omega),af _ _ (by omega)];exact h.t6
 ·by_cases e:i=j
  ·subst e;rw[ax,ax]
  ·rw[af _ _ e,af _ _ e,hX i h8 eC]
theorem DS.tail{l:List C.Im}{q:Int}(h:DS w0 w K x y ((l,q) :: pd) X)(hp:pd.length<=5000){g c:Nat}(hc:w.cell? ⟨K.P,23,none⟩=some (.slice (some ⟨g,0,none⟩) (pd.length+1) c)){ad:Addr}(ha:ad=⟨g,2,none⟩\/pd.length=0)(c2:Nat):∃v' w',(Builtin.append_ #[44,44] 44 #[.slice (some ⟨w.heap.size,0,none⟩) 0 0,.slice (some ad) pd.length c2]).run prog (w.alloc (.cells #[] 153))=.ok v' w'/\(∃p c,v'=.slice p pd.length c)/\w'.frozen? ⟨K.P,23,none⟩=false/\w'.cell? ⟨K.P,23,none⟩=some (.slice (some ⟨g,0,none⟩) (pd.length+1) c)/\Below w.heap.size w w'/\DS w0 (w'.setCell ⟨K.P,23,none⟩ v') K x y pd X:=by
 obtain ⟨T,G,h,hX⟩:=h;obtain ⟨pv,e6,e7⟩:=h.t6;have GF:=h.jN.at' 6 (by omega);rw[e6] at GF;have GF:w.heap[K.P]?=some (.cells (jD K pv) 46 (0,0)):=GF;have hPl:=(au.1 GF).1;rw[aq _ K.P 23 _ 46 (0,0) GF,JJ] at hc;cases hc;have p7:=h.jN.at' 7 (by omega);rw[e7] at p7;obtain ⟨us,rX,hco⟩:=XX.ex p7;obtain ⟨u,us,rfl⟩:∃u t,us=u :: t:=by
  cases us with
  | nil=>exact hco.elim
  | cons u t=>exact⟨u,t,rfl⟩
 have hb:Below w.heap.size w (w.alloc (.cells #[] 153)):=ag w _;have hem:(w.alloc (.cells #[] 153)).ownsRow 0 153 2 (.slice (some ⟨w.heap.size,0,none⟩) 0 0) 0 []:=gN w #[] 0 (aI _) (aI _) (by simp);have hlen:(pV us pd).length=pd.length*2:=by
  have:=rX.1;rw[show pV (u :: us) ((l,q) :: pd)=zG u (l,q)++pV us pd from rfl,aO,bz,show (zG u (l,q)).length=2 from rfl] at this;omega
 have nF:∀j v,(pV us pd)[j]?=some v->(w.alloc (.cells #[] 153)).cell? (ad.add j)=some v:=fun j v hj=>by
  rcases ha with rfl | e0
  ·have hcs:=rX.cells (g:=g) rfl (2+j) v (by
    rw[show pV (u :: us) ((l,q) :: pd)=zG u (l,q)++pV us pd from rfl,aT (by show 2<=2+j;omega),show (zG u (l,q)).length=2 from rfl,iX];exact hj)
   rw[bW] at hcs ⊢;rw[aW] at hcs;rw[hb.cell (p:=⟨g,2+j,none⟩) (fQ rX g rfl).2];exact hcs
  ·rw[e0] at hlen;have:=(aA.1 hj).1;omega
 obtain ⟨v',w',hr,dR,MC,hv'⟩:=E.tM aid hem 44 ad pd.length c2 (pV us pd) hlen nF (Cu _ _) (by omega) (aI _);have jb:Below w.heap.size w w':=MC.uR hb (fun b h1 h2=>by cases h2;exact absurd h1 (gB _)) (az _);rw[aW,bF] at dR;have h2:=h.later jb;have g2:lT w0 w' (put T 7 (.QY v' pd)) G:=by
  refine h.jN.fresh h.below.size jb 7 ⟨us,dR,hco.2.kept (E.Kept.bP (fun _=>False) jb) (fun _ _ e=>e) (fun _ a=>a)⟩ (fun b yD=>?_);have Dj:v'.ownBlock=some b:=yD;rcases hv' with e1 | e1
  ·rw[e1] at Dj;cases Dj;exact az _
  ·rw[e1] at Dj;cases Dj;exact hb.size
 have hP':w'.heap[K.P]?=some (.cells (jD K (.slice (some ⟨g,0,none⟩) (pd.length+1) c)) 46 (0,0)):=(jb.block K.P hPl).trans GF;refine⟨v',w',hr,E.cB dR,by simp[World.frozen?,hP'],by rw[aq _ K.P 23 _ 46 (0,0) hP'];exact JJ K _,jb,_,_,h.agx h2.below e6 g2 (fun j hj=>by rw[af _ _ (by omega)]) (by rw[af _ _ (by decide)]) (ax _ _ _),fun j h8 eC=>?_⟩;rw[af _ _ (by omega),af _ _ (by omega)];exact hX j h8 eC
end
end Go.Proofs.Zq.Q
namespace Go.Proofs.Zq.Q
open Go.RowKit
section
variable {P:Program} {ops:Array Oper} {Q:Exit->Act->World->Prop} {md:Region.Mode} {S:World->Prop} {fuel:Nat} {listed:Array Bool} {a:Act} {w:World}
theorem tkb(i:Nat){oi:Oper}{ty:TypeId}{ps:Array (Nat × Operand)}(vs:List (Nat × Value)){v:Value}{a':Act}(hS:S w)(dM:∀w,(Instr.build ty vs.toArray).run P w=.ok v w)(h:wpAnyH P md ops Q S fuel (listed.setIfInBounds i true) a' w)(hi:ops[i]?=some oi:=by simp;rfl)(ho:oi.op=.build ty ps:=by rfl)(hx:ps.toList.map (fun (i,x)=>(i,a.eval x))=vs:=by rfl)(hs:Region.noSelect ops=true:=by kernel_rfl)(hf:Region.free md ops listed i=true:=by kernel_rfl)(hr:(Region.ready md ops listed).contains i=true:=by kernel_rfl)(hg:Region.wanted oi (yielded ops a.tmps)=true:=by rfl)(ha:a.put oi.dst v=a':=by simp only[Act.put,zA,zB,zC];with_reducible rfl)(hQ:∀c a w,Q (.panic c) (a.put oi.dst v) w->Q (.panic c) a w:=by exact fun _ _ _ h=>h):wpAnyH P md ops Q S (fuel+1) listed a w :=
 dz hi hs hf hr hQ (C.jE hg ty ho hx dM) hS (ha ▸ h)
end
open Go.Proofs.Tryz
def kW (W:World)(K:Ks):Prop:=∃v,W.heap[K.P]?=some (.cells (jD K v) 46 (0,0))
section
variable {W:World} {K:Ks}
theorem kW.dp(h:kW W K):W.cell? ⟨K.P,10,none⟩=some (E.qp K.dp):=by obtain ⟨v,h⟩:=h;rw[aq _ _ _ _ _ _ h];rfl
theorem kW.lp(h:kW W K):W.cell? ⟨K.P,11,none⟩=some (E.qp K.lp):=by obtain ⟨v,h⟩:=h;rw[aq _ _ _ _ _ _ h];rfl
theorem kW.ap(h:kW W K):W.cell? ⟨K.P,12,none⟩=some (E.qp K.ap):=by obtain ⟨v,h⟩:=h;rw[aq _ _ _ _ _ _ h];rfl
theorem kW.kp(h:kW W K):W.cell? ⟨K.P,13,none⟩=some (E.qp K.kp):=by obtain ⟨v,h⟩:=h;rw[aq _ _ _ _ _ _ h];rfl
theorem kW.dr(h:kW W K):W.cell? ⟨K.P,19,none⟩=some (E.qp K.dr):=by obtain ⟨v,h⟩:=h;rw[aq _ _ _ _ _ _ h];rfl
theorem kW.lr(h:kW W K):W.cell? ⟨K.P,20,none⟩=some (E.qp K.lr):=by obtain ⟨v,h⟩:=h;rw[aq _ _ _ _ _ _ h];rfl
theorem kW.ar(h:kW W K):W.cell? ⟨K.P,21,none⟩=some (E.qp K.ar):=by obtain ⟨v,h⟩:=h;rw[aq _ _ _ _ _ _ h];rfl
theorem kW.kr(h:kW W K):W.cell? ⟨K.P,22,none⟩=some (E.qp K.kr):=by obtain ⟨v,h⟩:=h;rw[aq _ _ _ _ _ _ h];rfl
end
section
variable {w0 w w':World} {K:Ks} {x y:Sx} {pd:List Cm} {X:Nat->Th}
theorem DS.fU(h:DS w0 w K x y pd X):kW w K:=by
 obtain ⟨v,h,-⟩:=h.aaZ;exact⟨v,h⟩
theorem DS.bC(h:DS w0 w K x y pd X){i:Nat}(h8:8<=i)(eC:i<40){B:Nat}{t:TypeId}{cs:Array Value}(e:X i=.bC B t cs):w.heap[B]?=some (.cells cs t (0,0)):=by
 obtain ⟨T,G,h,hX⟩:=h;have:=h.jN.at' i eC;rw[hX i h8 eC,e] at this;exact this
def XO (x:Sx):List Cm->Sx
 | []=>x
 | q :: _=>x.Ge.put q.1 q.2
theorem DS.Vk(h:DS w0 w K x y [] X):∃p c,w.cell? ⟨K.P,23,none⟩=some (.slice p 0 c):=by
 obtain ⟨v,h,G,hp⟩:=h.aaZ;obtain ⟨us,hr,-⟩:=hp.ex;obtain ⟨p,c,rfl⟩:=E.cB hr;exact⟨p,c,by rw[aq _ _ _ _ _ _ h];rfl⟩
theorem XM(h:DS w0 w K x x [] X):Calls prog 72 #[E.qp K.P] w fun e w'=>e=.returned (.bool true)/\DS w0 w' K x x [] X:=by
 obtain ⟨p,c,c0⟩:=h.Vk;have H:=zH h;clear h;go_enter func72,ntmps72;go_wp2;go_ret;exact⟨rfl,H.out⟩
theorem ail{W:World}{B:Nat}{u v:Value}(h:W.heap[B]?=some (.cells #[u,v] 153 (0,0))):W.cell? ⟨B,0,none⟩=some u:=by rw[aq _ _ _ _ _ _ h];rfl
theorem aik{W:World}{B:Nat}{u v:Value}(h:W.heap[B]?=some (.cells #[u,v] 153 (0,0))):W.cell? ⟨B,1,none⟩=some v:=by rw[aq _ _ _ _ _ _ h];rfl
theorem XL{l:List C.Im}{q:Int}(h:DS w0 w K x x ((l,q) :: pd) X)(hk:x.ws.length<=100000)(hp:pd.length<=5000):Calls prog 72 #[E.qp K.P] w fun e w'=>e=.returned (.bool true)/\DS w0 w' K (x.Ge.put l q) (x.Ge.put l q) pd (put (put X 38 .no) 39 .no):=by
 obtain ⟨g',c',u',cP,-,-,-,-,-⟩:=h.head (j:=38) (by decide);have H0:=zH h;have p1:=h.fU.lp;clear h;go_enter func72,ntmps72;go_wp2_with fail;refine (Oi H0.out hk).mono ?_;rintro e w1 ⟨rfl,hd⟩;have H1:=zH hd;have p2:=hd.fU.lr;clear hd H0 p1 cP;go_wp2_with fail;refine (Oc H1.out hk).mono ?_;rintro e w2 ⟨rfl,hd⟩;obtain ⟨g,c,u,cP,fP,hc,c0,c1,hd⟩:=hd.head (j:=38) (by decide);have H2:=zH hd;clear hd H1 p2;go_upto_region 6 with fail
 obtain ⟨w3,jM⟩:=zE (w2.alloc (.cells #[.slice u.1 l.length u.2,.int .u64 q] 153));have B3:Below w2.heap.size w2 w3:=by rw[<-jM];exact ag w2 _
 obtain ⟨B,hB⟩:=zE w2.heap.size;have H3:Hid (DS w0 w3 K x.Ge x.Ge ((l,q) :: pd) (put (put X 38 (.RI u (l,q))) 39 (.bC B 153 #[.slice u.1 l.length u.2,.int .u64 q]))):=H2.out.fresh B3 (by decide) (fun _=>by rw[<-jM,<-hB];exact aG w2 _) (fun b hb=>by have:b=B:=hb;omega);rw[jM,hB];have hPl:K.P<w2.heap.size:=by obtain ⟨v,h⟩:=H2.out.fU;exact (au.1 h).1
 have cP3:w3.cell? ⟨K.P,23,none⟩=some (.slice (some ⟨g,0,none⟩) (pd.length+1) c):=by rw[B3.cell (p:=⟨K.P,23,none⟩) hPl];exact cP
 have cP4:(w3.alloc (.cells #[] 153)).cell? ⟨K.P,23,none⟩=some (.slice (some ⟨g,0,none⟩) (pd.length+1) c):=by rw[(ag w3 _).cell (p:=⟨K.P,23,none⟩) (bN hPl B3.size)];exact cP3
 clear jM hB cP c0 c1 fP H2 hPl B3;have TL:Hid (∀(ad:Addr),(ad=⟨g,2,none⟩\/pd.length=0)->∀c2,_):=fun ad ha c2=>H3.out.tail hp cP3 ha c2;clear H3 cP3 hd;go_wp2_with (at_builtin;refine Hid.out ?_)
 all_goals
  unfold Hid;first
   | (obtain ⟨v',w4,nN,⟨p',cc,rfl⟩,f4,c4,-,hd⟩:=TL.out ⟨g,2,none⟩ (.inl rfl) (c-1)
      refine C.ez (u1:=.slice (some ⟨w3.heap.size,0,none⟩) 0 0) (u2:=.slice (some ⟨g,2,none⟩) pd.length (c-1)) (by rfl) rfl rfl rfl rfl nN ?_;generalize (Value.slice (some ⟨g,2,none⟩) pd.length (c-1))=sv)
   | (obtain ⟨v',w4,nN,⟨p',cc,rfl⟩,f4,c4,-,hd⟩:=TL.out ⟨g,0,none⟩ (.inr (by omega)) 0
      refine C.ez (u1:=.slice (some ⟨w3.heap.size,0,none⟩) 0 0) (u2:=.slice (some ⟨g,0,none⟩) pd.length 0) (by rfl) rfl rfl rfl rfl nN ?_;generalize (Value.slice (some ⟨g,0,none⟩) pd.length 0)=sv)
  simp only[Act.put,zA,zB,zC];have H5:=zH hd;clear hd nN TL cP4;go_wp2_with fail;clear c4 f4;generalize w4.setCell ⟨K.P,23,none⟩ (.slice p' pd.length cc)=w5 at *;have qZ:Hid (DS w0 w5.drew K x.Ge x.Ge pd (put (put X 38 (.RI u (l,q))) 39 (.bC B 153 #[.slice u.1 l.length u.2,.int .u64 q]))):=H5.out.later (av 1);clear H5 hk;generalize x.ws.length=nw at *;have arQ:((nw:Int) == (nw:Int))=true:=by simp
  refine zR (fun W=>kW W K/\W.heap[B]?=some (.cells #[.slice u.1 l.length u.2,.int .u64 q] 153 (0,0))) ⟨qZ.out.fU,qZ.out.bC (i:=39) (by decide) (by decide) (ax _ _ _)⟩ fun aa=>?_;generalize w5.drew=w6 at *;refine gu 0 1 2 3 aa ?_;refine gu 4 5 6 7 aa ?_;refine gu 8 9 10 11 aa ?_;refine tk 12 aa ?_;refine de 13 aa (fun _ s=>s.1.kp) ?_;refine tk 14 aa ?_;refine de 15 aa (fun _ s=>ail s.2) ?_;refine tk 16 aa ?_;refine de 17 aa (fun _ s=>aik s.2) ?_;refine gu 19 20 21 22 aa ?_;refine de 23 aa (fun _ s=>s.1.kr) ?_;refine tk 24 aa ?_;refine de 25 aa (fun _ s=>ail s.2) ?_;refine tk 26 aa ?_;refine de 27 aa (fun _ s=>aik s.2) ?_;refine iA 18 fun Kc aJ=>?_;go_simp;refine (agK qZ.out (u:=u) (q:=(l,q)) (i:=38) (by decide) (by decide) (by rw[af _ _ (by decide)];exact ax _ _ _)).mono ?_;rintro e w7 ⟨rfl,hd⟩;have pg:=zH hd;clear hd qZ;refine aJ.out _ _ ⟨pg.out.fU,pg.out.bC (i:=39) (by decide) (by decide) (ax _ _ _)⟩ (fun aa=>?_);clear aJ Kc;refine iA 28 fun Kc aJ=>?_;go_simp;refine (agC pg.out (u:=u) (q:=(l,q)) (i:=38) (by decide) (by decide) (by rw[af _ _ (by decide)];exact ax _ _ _)).mono ?_;rintro e w8 ⟨rfl,hd⟩;have jV:=zH hd;clear hd pg;refine aJ.out _ _ ⟨jV.out.fU,jV.out.bC (i:=39) (by decide) (by decide) (ax _ _ _)⟩ (fun aa=>?_);clear aJ Kc;refine gh 29 30 31 aa ?_;clear aa;refine zD ?_;go_wp2;go_ret;refine⟨rfl,?_⟩;have:=(jV.out.drop (k:=38) (by decide)).drop (k:=39) (by decide);rw[put_comm _ _ _ (show 39≠38 by decide),ee,ee] at this;exact this
theorem XN(h:DS w0 w K x x pd X)(hk:x.ws.length<=100000)(hp:pd.length<=5000)(e38:X 38=.no)(e39:X 39=.no):Calls prog 72 #[E.qp K.P] w fun e w'=>e=.returned (.bool true)/\DS w0 w' K (XO x pd) (XO x pd) pd.tail X:=by
 cases pd with
 | nil=>exact XM h
 | cons q pd =>
  refine (XL (l:=q.1) (q:=q.2) h hk (by rw[bz] at hp;omega)).mono ?_;rintro e w' ⟨rfl,hd⟩;rw[k_ X 38 e38,k_ X 39 e39] at hd;exact⟨rfl,hd⟩
end
def uS (t:Int):Sx->List (Int × List Int)->Sx × Bool
 | x,[]=>(x,true)
 | x,z :: zs=>if mN x.g z.1=0 then uS t ((x.rU z.1 z.2).app t) zs else (x,false)
def zJ:Nat->Sx->List Cm->Sx × List Cm
 | 0,x,pd=>(x,pd)
 | k+1,x,pd=>zJ k (XO x pd) pd.tail
def fS (zs:List (Int × List Int)):List C.Im:=zs.map fun z=>⟨z.1,z.2⟩
def ua (x:Sx)(pd:List Cm)(xs:List Int)(vs:List (List Int))(pb:Bool):Sx × List Cm :=
 if x.a.oo xs=0 then
  if (x.kY xs).a.lY=0/\(x.kY xs).a.nh=x.a.gP xs then
   if (uS (x.a.gP xs) (x.kY xs).sj ((x.a.f_ xs).zip vs)).2=true then
    if fK (uS (x.a.gP xs) (x.kY xs).sj ((x.a.f_ xs).zip vs)).1.g=0 then
     if pb=true then
      zJ (pd.length+1) ((uS (x.a.gP xs) (x.kY xs).sj ((x.a.f_ xs).zip vs)).1.vA.Dp (x.a.gP xs)) (pd++[(fS ((x.a.f_ xs).zip vs),(uS (x.a.gP xs) (x.kY xs).sj ((x.a.f_ xs).zip vs)).1.g.fin)])
     else ((uS (x.a.gP xs) (x.kY xs).sj ((x.a.f_ xs).zip vs)).1.vA.Dp (x.a.gP xs),pd++[(fS ((x.a.f_ xs).zip vs),(uS (x.a.gP xs) (x.kY xs).sj ((x.a.f_ xs).zip vs)).1.g.fin)])
    else ((uS (x.a.gP xs) (x.kY xs).sj ((x.a.f_ xs).zip vs)).1,pd)
   else ((uS (x.a.gP xs) (x.kY xs).sj ((x.a.f_ xs).zip vs)).1,pd)
  else ((x.kY xs).sj,pd)
 else (x.kY xs,pd)
section
variable {x:Sx} {pd:List Cm} {xs:List Int} {vs:List (List Int)} {pb:Bool} {y:Sx}
theorem NF(h:¬x.a.oo xs=0):ua x pd xs vs pb=(x.kY xs,pd):=by unfold ua;rw[aD h]
theorem Ff(h:x.a.oo xs=0)(h2:¬((x.kY xs).a.lY=0/\(x.kY xs).a.nh=x.a.gP xs)):ua x pd xs vs pb=((x.kY xs).sj,pd):=by unfold ua;rw[aE h,aD h2]
theorem NC(h:x.a.oo xs=0)(h2:(x.kY xs).a.lY=0/\(x.kY xs).a.nh=x.a.gP xs)(h3:uS (x.a.gP xs) (x.kY xs).sj ((x.a.f_ xs).zip vs)=(y,false)):ua x pd xs vs pb=(y,pd):=by unfold ua;rw[aE h,aE h2,h3,aD (fun e=>by cases e)]
theorem ND(h:x.a.oo xs=0)(h2:(x.kY xs).a.lY=0/\(x.kY xs).a.nh=x.a.gP xs)(h3:uS (x.a.gP xs) (x.kY xs).sj ((x.a.f_ xs).zip vs)=(y,true))(h4:¬fK y.g=0):ua x pd xs vs pb=(y,pd):=by unfold ua;rw[aE h,aE h2,h3,aE rfl,aD h4]
theorem NG(h:x.a.oo xs=0)(h2:(x.kY xs).a.lY=0/\(x.kY xs).a.nh=x.a.gP xs)(h3:uS (x.a.gP xs) (x.kY xs).sj ((x.a.f_ xs).zip vs)=(y,true))(h4:fK y.g=0):ua x pd xs vs pb=if pb=true then zJ (pd.length+1) (y.vA.Dp (x.a.gP xs)) (pd++[(fS ((x.a.f_ xs).zip vs),y.g.fin)]) else (y.vA.Dp (x.a.gP xs),pd++[(fS ((x.a.f_ xs).zip vs),y.g.fin)]):=by unfold ua;rw[aE h,aE h2,h3,aE rfl,aE h4]
end
theorem IY{t:Int}{x:Sx}{z:Int × List Int}{zs:List (Int × List Int)}(h:mN x.g z.1=0):uS t x (z :: zs)=uS t ((x.rU z.1 z.2).app t) zs:=by rw[uS,aE h]
theorem VU{t:Int}{x:Sx}{z:Int × List Int}{zs:List (Int × List Int)}(h:¬mN x.g z.1=0):uS t x (z :: zs)=(x,false):=by rw[uS,aD h]
structure vF (w:World) (p:Option Addr) (m:Nat) (vs:List (List Int)):Prop where
 len:vs.length=m
 wf:∀v∈vs,v.length=32/\Bytes v
 cells:0<m->∃b o,p=some ⟨b,o,none⟩/\∀k v,vs[k]?=some v->w.rangeAt b (o+k*32) (U8 v)
theorem vF.kept{w w':World}{p:Option Addr}{m:Nat}{vs:List (List Int)}(h:vF w p m vs)(hk:∀a,p=some a->0<m->w'.heap[a.block]?=w.heap[a.block]?):vF w' p m vs:=by
 refine⟨h.len,h.wf,fun h0=>?_⟩;obtain ⟨b,o,e,hc⟩:=h.cells h0;refine⟨b,o,e,fun k v hv j u hu=>?_⟩;have:=hc k v hv j u hu;rw[<-this];simp only[World.cell?,hk _ e h0]
theorem vF.later{w w':World}{p:Option Addr}{m:Nat}{vs:List (List Int)}(h:vF w p m vs)(hb:Below w.heap.size w w'):vF w' p m vs:=h.kept fun a ha h0=>by
 obtain ⟨b,o,e,hc⟩:=h.cells h0;rw[e] at ha;cases ha;obtain ⟨v,hv⟩:∃v,vs[0]?=some v:=⟨_,ay (by rw[h.len];exact h0)⟩
 have hl:=(h.wf v (bt hv)).1;have:=hc 0 v hv 0 _ (ay (by simp[hl]));exact hb.block b (cG w _ this)
theorem vF.load{w:World}{b o m:Nat}{vs:List (List Int)}(h:vF w (some ⟨b,o,none⟩) m vs){k:Nat}{v:List Int}(hk:vs[k]?=some v):(Instr.loadAt 51 (.pointer (some ⟨b,o+k*32,none⟩))).run prog w=.ok (.agg (U8 v).toArray) w:=by
 have vK:=(aA.1 hk).1;obtain ⟨b',o',e,hc⟩:=h.cells (by rw[<-h.len];omega);cases e;exact b_ w b (o+k*32) 51 (U8 v) _ (hc k v hk) gw rfl (by rw[vZ,aX,(h.wf v (bt hk)).1])
structure rO where
 kd:Int
 ps:Option Addr
 ms:Nat
 cs:Nat
 xs:List Int
 pv:Option Addr
 mv:Nat
 cv:Nat
 vs:List (List Int)
 pb:Bool
 n:Int
abbrev rO.cells (o:rO):Array Value:=#[.int .i64 o.kd,.slice o.ps o.ms o.cs,.slice o.pv o.mv o.cv,.bool o.pb,.int .i64 o.n]
structure OpR (w0:World) (K:Ks) (X:Nat->Th) (o:rO):Prop where
 rd:∀W x y pd X',DS w0 W K x y pd X'->(∀i,8<=i->i<30->X' i=X i)->E.B.pZ W o.ps o.ms o.xs/\vF W o.pv o.mv o.vs
 nR:o.ms+80<=17592186044416
 asg:o.mv*32<=140737488355328
theorem lT.sub{w0 w:World}{T T':Nat->Th}{G:Nat->Prop}(h:lT w0 w T G)(hT:∀i,i<40->T' i=T i\/T' i=.no):lT w0 w T' G:=by
 refine⟨fun i hi=>?_,fun i hi b hb=>?_,fun i j hi hj kG b hb jb=>?_,fun i hi b hb=>?_,h.YG⟩
 ·rcases hT i hi with e | e
  ·rw[e];exact h.at' i hi
  ·rw[e];trivial
 ·rcases hT i hi with e | e
  ·rw[e] at hb;exact h.lo i hi b hb
  ·rw[e] at hb;exact hb.elim
 ·rcases hT i hi with e | e
  ·rw[e] at hb;rcases hT j hj with e2 | e2
   ·rw[e2] at jb;exact h.apart i j hi hj kG b hb jb
   ·rw[e2] at jb;exact jb.elim
  ·rw[e] at hb;exact hb.elim
 ·rcases hT i hi with e | e
  ·rw[e] at hb;exact h.im i hi b hb
  ·rw[e] at hb;exact hb.elim
section
variable {w0 w w':World} {K:Ks} {x y:Sx} {pd:List Cm} {X X':Nat->Th}
theorem DS.forget(h:DS w0 w K x y pd X')(hX:∀i,8<=i->i<40->X i=X' i\/X i=.no):DS w0 w K x y pd X:=by
 obtain ⟨T,G,h,hX'⟩:=h;refine⟨fun i=>if i<8 then T i else X i,G,⟨h.jN.sub fun i hi=>?_,h.below,?_,?_,?_,?_,?_,?_,?_,h.lU,h.mP,h.cx,h.cy⟩,fun i h8 eC=>aD (by omega)⟩
 ·by_cases e:i<8
  ·exact .inl (aE e)
  ·rw[aD e];rcases hX i (by omega) hi with e2 | e2
   ·exact .inl (by rw[e2,hX' i (by omega) hi])
   ·exact .inr e2
 ·exact h.t0
 ·exact h.t1
 ·exact h.t2
 ·exact h.t3
 ·exact h.t4
 ·exact h.t5
 ·exact h.t6
theorem DS.trim(h:DS w0 w K x y pd X')(hX:∀i,8<=i->i<30->X' i=X i)(h0:∀i,30<=i->i<40->X i=.no):DS w0 w K x y pd X:=h.forget fun i h8 eC=>by
 by_cases e:i<30
 ·exact .inl (hX i h8 e).symm
 ·exact .inr (h0 i (by omega) eC)
theorem Iw{W:World}{B ms cs mv cv:Nat}{kd nn:Int}{ps pv:Option Addr}{pb:Bool}(h:W.heap[B]?=some (.cells #[.int .i64 kd,.slice ps ms cs,.slice pv mv cv,.bool pb,.int .i64 nn] 81 (0,0))):W.cell? ⟨B,1,none⟩=some (.slice ps ms cs)/\W.cell? ⟨B,2,none⟩=some (.slice pv mv cv)/\W.cell? ⟨B,3,none⟩=some (.bool pb):=by
 refine⟨?_,?_,?_⟩ <;> (rw[aq _ _ _ _ _ _ h];rfl)
theorem DS.amV(h:DS w0 w K x y pd X):K.ar<w.heap.size:=by
 obtain ⟨G,vW,vI,ws,is,hl,-,-,-⟩:=h.nC;exact hl.lt
theorem DS.oV(h:DS w0 w K x y pd X){i:Nat}(h8:8<=i)(eC:i<40){v:Value}{f:List Int}(e:X i=.oV v f):E.ow w v f:=by
 obtain ⟨T,G,h,hX⟩:=h;have:=h.jN.at' i eC;rw[hX i h8 eC,e] at this;exact this.1
theorem JX{x:Sx}(_h:x.Ok){xs:List Int}(e:x.a.oo xs=0):(x.a.f_ xs).length<=16/\x.a.gP xs=x.a.next:=⟨E.B.yE _ _ _,by unfold E.Ad.gP;rw[aE e]⟩
theorem abl{x:Sx}(h:x.Ok){xs:List Int}(e:x.a.oo xs=0):(∀b∈x.a.f_ xs,0<=b/\b<64)/\(x.a.f_ xs).Pairwise (· < ·):=by
 obtain ⟨e1,-,-,hb,-⟩:=E.B.Jw (xs:=xs) (b:=x.a.bl) (m:=x.a.mr) e;have hm:=h.a.may;have hb:=fy hb;refine⟨fun b xq=>?_,?_⟩
 ·have:b∈E.B.iq xs:=by rw[<-e1];exact xq
  have:=hb b ((E.B.tP b xs).1 this);omega
 ·show (E.B.gA xs x.a.bl x.a.mr).1.Pairwise _;rw[e1];exact E.B.AM xs
theorem Xz{x:Sx}(_h:x.Ok){xs:List Int}:(x.a.f_ xs).length<=140737488355328:=bJ (E.B.yE _ _ _) (by decide)
theorem JW(x:Sx)(xs:List Int):(x.kY xs).a.next<=x.a.next+1:=by
 show (x.a.vC xs).next<=_;unfold E.Ad.vC;split
 ·exact iy _
 ·omega
theorem JC(x:Sx):x.sj.a.next=x.a.next:=by
 show x.a.rK.next=_;unfold E.Ad.rK;split <;> rfl
theorem JZ(x:Sx)(t:Int):(x.app t).a.next=x.a.next:=by
 show (x.a.jI t).next=_;unfold E.Ad.jI;split <;> rfl
theorem Xg(x:Sx)(t:Int):(x.Dp t).a.next=x.a.next:=by
 show (x.a.vu t).next=_;unfold E.Ad.vu;split <;> rfl
theorem yj(x:Sx)(b:Int)(v:List Int):(x.rU b v).a=x.a/\(x.rU b v).c=x.c/\(x.rU b v).ws.length<=x.ws.length+1:=by
 unfold Sx.rU;split
 ·exact⟨rfl,rfl,by simp⟩
 ·exact⟨rfl,rfl,by omega⟩
theorem agU{x:Sx}{b:Int}{v:List Int}{n:Nat}(h:x.c<n):(x.rU b v).c<n:=by rw[(yj x b v).2.1];exact h
theorem Cs(x:Sx):x.vA.a=x.a/\x.vA.c=x.c/\x.vA.ws.length<=x.ws.length+1:=by
 unfold Sx.vA;split
 ·exact⟨rfl,rfl,by simp⟩
 ·exact⟨rfl,rfl,by omega⟩
theorem aij{x:Sx}{n:Nat}(h:x.c<n):x.vA.c<n:=by rw[(Cs x).2.1];exact h
theorem Ro(x:Sx)(b:Int)(v:List Int)(t:Int):((x.rU b v).app t).c=x.c+1/\((x.rU b v).app t).ws.length<=x.ws.length+1/\((x.rU b v).app t).a.next=x.a.next:=⟨by show (x.rU b v).c+1=_;rw[(yj x b v).2.1],(yj x b v).2.2,by rw[JZ,(yj x b v).1]⟩
theorem RZ(x:Sx)(t:Int):(x.vA.Dp t).ws.length<=x.ws.length+1:=(Cs x).2.2
theorem Mt{zs:List (Int × List Int)}{k:Nat}{b:Int}{v:List Int}(h:zs[k]?=some (b,v)):fS (zs.take (k+1))=fS (zs.take k)++[(⟨b,v⟩:C.Im)]:=by
 rw[List.take_add_one,h];simp[fS]
theorem XQ(k:Nat)(x:Sx):zJ k x []=(x,[]):=by
 induction k with
 | zero=>rfl
 | succ k ih=>exact ih
theorem abq{x:Sx}{pd:List Cm}(h:x.ws.length<=100000):(XO x pd).ws.length<=100000:=by
 cases pd with
 | nil=>exact h
 | cons q r=>show ([]:List Wr).length<=_;simp
theorem aa2{x:Sx}(h:x.Ok)(hm:fK x.g=0):0<=x.ug/\x.ug<18446744073709551616/\x.ug=x.g.fin:=by
 have e:x.ug=x.g.fin:=by unfold Sx.ug;rw[aE hm]
 have h1:=h.g.t0;have h2:=h.g.tm;have h3:=h.g.mf;have h4:=h.g.fM;rw[e];exact⟨by omega,by omega,rfl⟩
def SS (w0:World)(K:Ks)(X:Nat->Th)(BO:Nat)(oc:Array Value)(v:Value)(f:List Int)(W:World):Prop:=∃x y pd X',DS w0 W K x y pd X'/\(∀i,8<=i->i<30->X' i=X i)/\X' 30=.bC BO 81 oc/\X' 31=.oV v f
theorem SS.of{BO:Nat}{oc:Array Value}{v:Value}{f:List Int}{W:World}(h:DS w0 W K x y pd X')(hX:∀i,8<=i->i<30->X' i=X i)(e:X' 30=.bC BO 81 oc)(e2:X' 31=.oV v f):SS w0 K X BO oc v f W:=⟨x,y,pd,X',h,hX,e,e2⟩
theorem SS.fU{BO:Nat}{oc:Array Value}{v:Value}{f:List Int}{W:World}(h:SS w0 K X BO oc v f W):kW W K:=by
 obtain ⟨x,y,pd,X',h,-⟩:=h;exact h.fU
theorem SS.op{BO:Nat}{oc:Array Value}{v:Value}{f:List Int}{W:World}(h:SS w0 K X BO oc v f W):W.heap[BO]?=some (.cells oc 81 (0,0)):=by
 obtain ⟨x,y,pd,X',h,-,e,-⟩:=h;exact h.bC (by decide) (by decide) e
theorem SS.want{BO:Nat}{oc:Array Value}{g c:Nat}{f:List Int}{W:World}(h:SS w0 K X BO oc (.slice (some ⟨g,0,none⟩) f.length c) f W){k:Nat}{b:Int}(hk:f[k]?=some b):W.cell? ⟨g,k,none⟩=some (.int .i64 b):=by
 obtain ⟨x,y,pd,X',h,-,-,e⟩:=h;have hf:=h.oV (by decide) (by decide) e;have:=hf.cells (g:=g) rfl k (.int .i64 b) (by simp[hk]);rw[bW,aW] at this;exact this
theorem SS.val{BO:Nat}{oc:Array Value}{v:Value}{f xs:List Int}{W:World}{ps pv:Option Addr}{ms mv:Nat}{vs:List (List Int)}(h:SS w0 K X BO oc v f W)(ho:∀W x y pd X',DS w0 W K x y pd X'->(∀i,8<=i->i<30->X' i=X i)->E.B.pZ W ps ms xs/\vF W pv mv vs):vF W pv mv vs:=by
 obtain ⟨x,y,pd,X',h,hX,-,-⟩:=h;exact (ho W x y pd X' h hX).2
theorem drop_cons{α:Type}{l:List α}{k:Nat}{z:α}(h:l[k]?=some z):l.drop k=z :: l.drop (k+1):=by
 obtain ⟨h1,h2⟩:=aA.1 h;rw[eS h1,h2]
theorem DS.yQ(h:DS w0 w K x y pd X){i:Nat}(h8:8<=i)(eC:i<40){t:Th}{S:Nat->Prop}(ht:∀G,(∀j,8<=j->j<40->(X j).at w G)->t.at w' G)(hk:E.Kept S w w')(hS:∀b,S b->(X i).iF b)(hf:∀b,t.iF b->(X i).iF b\/w.heap.size<=b):DS w0 w' K x y pd (put X i t):=by
 obtain ⟨T,G,h,hX⟩:=h;have ei:=hX i h8 eC;have lo:=h.jN.lo i eC;refine⟨put T i t,G,⟨h.jN.turn (S:=S) eC (ht G fun j a b=>by rw[<-hX j a b];exact h.jN.at' j b) hk (fun b hb=>by rw[ei];exact hS b hb) (fun b hb=>by rw[ei];exact hf b hb) h.below.size (fun _ a=>a) (fun _ a=>.inl a),hk.uR h.below (fun b h1 h2=>by have:=lo b (by rw[ei];exact hS b h2);omega) (az _),?_,?_,?_,?_,?_,?_,?_,h.lU,h.mP,h.cx,h.cy⟩,fun j a b=>?_⟩
 ·rw[af _ _ (by omega)];exact h.t0
 ·rw[af _ _ (by omega)];exact h.t1
 ·rw[af _ _ (by omega)];exact h.t2
 ·rw[af _ _ (by omega)];exact h.t3
 ·rw[af _ _ (by omega)];exact h.t4
 ·rw[af _ _ (by omega)];exact h.t5
 ·rw[af _ _ (by omega),af _ _ (by omega)];exact h.t6
 ·by_cases e:j=i
  ·subst e;rw[ax,ax]
  ·rw[af _ _ e,af _ _ e];exact hX j a b
theorem DS.aiq(h:DS w0 w K x y pd X){i:Nat}(h8:8<=i)(eC:i<40){v:Value}{l:List C.Im}(e:X i=.row 84 33 v l.length (C.IC l))(hl:l.length<=100){m:C.Im}(hm:m.Wf):∃v' w',(Builtin.append_ #[85,85] 85 #[v,.slice (some ⟨w.heap.size,0,none⟩) 1 1]).run prog (w.alloc (.cells (C.dO m).toArray 84))=.ok v' w'/\(∃p c,v'=.slice p (l.length+1) c)/\DS w0 w' K x y pd (put X i (.row 84 33 v' (l++[m]).length (C.IC (l++[m])))):=by
 have hb:Below w.heap.size w (w.alloc (.cells (C.dO m).toArray 84)):=ag w _;have h1:=h.later hb;have MA:(w.alloc (.cells (C.dO m).toArray 84)).ownsRow 0 84 33 (.slice (some ⟨w.heap.size,0,none⟩) 1 1) 1 (C.dO m):=by
  refine⟨by rw[C.gH hm.len],.inr ⟨w.heap.size,1,(C.dO m).toArray,rfl,aI _,aG w _,az _,by decide,by simp[C.gH hm.len],?_⟩⟩;show (C.dO m).take (1*33)=C.dO m;exact aL (by rw[C.gH hm.len];decide)
 generalize w.alloc (.cells (C.dO m).toArray 84)=w1 at *;have hr0:w1.ownsRow 0 84 33 v l.length (C.IC l):=by
  obtain ⟨T,G,h,hX⟩:=h1;have:=h.jN.at' i eC;rw[hX i h8 eC,e] at this;exact this
 obtain ⟨v',w',hr,dR,MC,hv'⟩:=E.pL C.O.elM hr0 85 MA (C.y_ m) (by omega) (aI _);refine⟨v',w',hr,E.cB dR,h1.yQ h8 eC (S:=fun b=>v.ownBlock=some b) (fun G _=>?_) MC (fun b hb=>by rw[e];exact hb) (fun b hb=>?_)⟩
 ·show w'.ownsRow 0 84 33 v' (l++[m]).length (C.IC (l++[m]));rw[C.abx,aO,fO];exact dR
 ·have jb:v'.ownBlock=some b:=hb;rcases hv' with e1 | e1
  ·rw[e1] at jb;exact .inl (by rw[e];exact jb)
  ·rw[e1] at jb;cases jb;exact .inr (az _)
