import Derived.Test.YtcdjepkhdjpjcaaGreatDoorU32
import Derived.ProofKit
import Derived.OpenShut
import Derived.Stop.Joined
import Derived.Stop.LaidErr
import Derived.Lib.LaidTab
import Derived.ShutString
set_option maxHeartbeats 20000000
set_option maxRecDepth 100000
namespace Go.Proofs.Zq.C
open Go.Proofs.Tryz
open Go.RowKit
open Go.Shelf
attribute [local go_sem] Oper.semAt_some
theorem Nr{w:World}{p:Option Addr}{M:List En}{B:Nat}(hB:Boxed w B 30 (.pointer p))(hS:oq w p M)(h64:M.length<=64):Calls prog 124 #[.slice none 0 0,yU B] w fun e w'=>∃v,e=.returned v/\eU 54 w' w.heap.size v M/\Below w.heap.size w w':=by
 obtain ⟨w1,dZ⟩:=zE (w.alloc (.cells #[.slice none 0 0] 47));have B1:Below w.heap.size w w1:=by rw[<-dZ];exact ag w _
 have s1:w1.heap.size=w.heap.size+1:=by rw[<-dZ];simp
 have HBX:Hid (Boxed w1 w.heap.size 47 (.slice none 0 0)):=by rw[<-dZ];exact Boxed.new w _ _
 have YL:Hid (w1.ownsRow w.heap.size 54 34 (.slice none 0 0) 0 []):=⟨rfl,.inl ⟨rfl,rfl⟩⟩
 have HBP:Hid (Boxed w1 B 30 (.pointer p)):=(B1.block _ hB.lt).trans hB;have HB:=zH B1;have Gt:=zH s1;have HS:=zH hS;clear B1 s1 hB hS;refine (iR (n:=9)).1 ?_;refine callsIn_of_wp_marks func124 rfl trivial ?_ rfl;simp only[ntmps124,aM,bz,dH,Nat.reduceAdd,Nat.reduceSub,dw,dn,dS,dF,bF,ct];gi_wp2;clear dZ;refine E.wF (F:=Fence.wide) (n:=9) (P:=prog) rfl (by decide) (gf:=125) (lb:=#[.pointer (some ⟨B,0,none⟩)]) rfl trivial (enters_of func125 (by kernel_rfl) rfl)
  (Ez (9-1) (by decide) B w.heap.size p M w1 w HB.out.size HB.out rfl HBP.out HS.out) belowK_t (fun W l o o' hl h hc=>(aV _ W).grown (grownBy_putObj' W l o') (by have:=Gt.out;have:=(au.1 h).1;omega) (fun k e=>by cases e;have:=Gt.out;omega)) (aV _ _) (fun _=>rfl)
  (fun pre W=>Got w.heap.size w.heap.size 64 pre W/\Below w.heap.size w W) (fun _ _ _=>False) ?hI (fun _ _ _ _ _ h=>h.elim) ⟨⟨_,HBX.out,YL.out,aI _⟩,HB.out⟩
  (fun x a' W=>∃Bx,bE 54 W Bx (aB x.1)/\a'={ tmps:=#[.slice none 0 0,yU B,.pointer (some ⟨w.heap.size,0,none⟩),undef,.slice none 0 0,.pointer (some ⟨Bx,0,none⟩),yU B,.agg (aB x.1).toArray,undef,undef,undef,undef,undef],defers:=[] })
  ?hAx ?assign ?body ?done ?stop
 case hI=>exact OwnFrom.and (Om _ _ _ _) (ownFrom_below (az _) HB.out.size)
 case hAx =>
  rintro x a' _ V V' row ⟨Bx,h1,h2⟩ hg hr;exact⟨Bx,(grownBy_keeps_cells hg (fun r e=>(hr r e).2) h1 rfl).trans h1,h2⟩
 case assign =>
  rintro l1 pre x V K ⟨⟨v,h1,h2,Cj⟩,h6⟩ hK;have A4:=zH (nj jG V);have T4:=zH (gX jG V x.1 x.2.len);have hb:=ag V (.cells (aB x.1).toArray 54);have Y:=hK _ _ (kj hb w1.heap.size) (hb.mono h6.size) ⟨⟨v,h1.alloc _,h2.alloc _,Cj⟩,h6.trans (hb.mono h6.size)⟩ ⟨V.heap.size,bE.new 54 V (aB x.1),rfl⟩;have HY:=zH Y;clear hK h1 h2 h6 hb Y;rw[adt];simp only[zA,zB,zC];gi_wp2_with ((with_reducible refine oP ?_);(first | ((refine oQ (by rfl) 54 rfl A4.out ?_);simp only[Act.put,zA,zB,zC]) | ((refine nE (by rfl) 54 rfl rfl rfl T4.out ?_);simp only[Act.put])))
  exact HY.out
 case body =>
  rintro l1 pre x a' V ⟨⟨v,h1,h2,Cj⟩,h6⟩ ⟨Bx,hx,rfl⟩ eP;obtain ⟨q,cap,rfl⟩:=E.cB h2;have c4:=h1.cell;have zO:=zH (bE.yV jG hx x.2.len);have CO:=zH (mE jG V x.1 x.2.len);obtain ⟨g',lZ,V4,dM,OK,uT⟩:=Ju h1 h2 x.2 h6.size (by omega) (by omega);have afo:=zH dM;have k1:=OK.cell;have k2:=OK.frozen;have yO:Hid (KeepsFrom w1.heap.size V (V4.setCell ⟨w.heap.size,0,none⟩ (.slice (some ⟨g',0,none⟩) (pre.length+1) lZ))/\Below w.heap.size V (V4.setCell ⟨w.heap.size,0,none⟩ (.slice (some ⟨g',0,none⟩) (pre.length+1) lZ))/\(Got w.heap.size w.heap.size 64 (pre++[x]) (V4.setCell ⟨w.heap.size,0,none⟩ (.slice (some ⟨g',0,none⟩) (pre.length+1) lZ))/\Below w.heap.size w (V4.setCell ⟨w.heap.size,0,none⟩ (.slice (some ⟨g',0,none⟩) (pre.length+1) lZ)))):=by
   refine⟨uT.2.2.1.from _,uT.2.2.2.1,⟨_,uT.1,?_,?_⟩,h6.trans uT.2.2.2.1⟩
   ·rw[wX,show (pre++[x]).length=pre.length+1 by simp];exact uT.2.1
   ·simp;omega
  clear dM OK uT h1 h2 h6 hx;gi_wp2_with ((with_reducible refine oP ?_);(first | (refine rH (by rfl) 54 rfl rfl zO.out ?_) | (refine IX (u:=.agg (aB x.1).toArray) (by rfl) 47 rfl rfl CO.out ?_) | (refine EG (u1:=.slice q pre.length cap) (u2:=.slice (some ⟨V.heap.size,0,none⟩) 1 1) (by rfl) rfl rfl rfl rfl afo.out ?_));simp only[Act.put,zA,zB,zC])
  exact yO.out
 case done =>
  rintro D ys W hD YF ⟨⟨v,h1,h2,Cj⟩,h6⟩ hK;obtain ⟨q,cap,rfl⟩:=E.cB h2;have hb:=h1.cell;have HZ:Hid (eU 54 (W.putObj D (.deferred none)) w.heap.size (.slice q ys.length cap) M/\Below w.heap.size w (W.putObj D (.deferred none))):=by
   have e1:xw ys=M:=YF;have e2:ys.length=M.length:=by rw[<-e1,dI]
   refine⟨?_,h6.trans (belowK_b (w:=w) (az _) _ D _ _ (by have:=Gt.out;omega) hK rfl rfl)⟩;have:=ownsRow_putObj h2 (.deferred none) hK rfl;show World.ownsRow _ _ _ _ _ _ _;rw[e1,e2] at this;rw[e2];exact this
  clear h1 h2 h6 YF;gi_wp2;refine⟨by simp,.inl ⟨_,_,rfl,run_takeDeferred hK,?_⟩⟩;exact⟨_,by simp[results,results124,go_sem],_,rfl,HZ.out⟩
 case stop =>
  rintro D c pre W hD yt h hK;exact h.elim
theorem _root_.Go.World.ownsRow.lower{w:World}{base lW:Nat}{e:TypeId}{size:Nat}{v:Value}{n:Nat}{xs:List Value}(h:w.ownsRow base e size v n xs)(hb:lW<=base):w.ownsRow lW e size v n xs:=by
 refine⟨h.1,?_⟩;rcases h.2 with h | ⟨g,cap,cur,a,c,b⟩
 ·exact .inl h
 ·exact .inr ⟨g,cap,cur,a,bJ hb c,b⟩
theorem oq.later{w w':World}{p:Option Addr}{M:List En}(h:oq w p M)(hb:Below w.heap.size w w'):oq w' p M:=by
 rcases h with h | ⟨Q,st,t,v,L,k,rfl,h,e⟩
 ·exact .inl h
 ·exact .inr ⟨Q,st,t,v,L,k,rfl,h.later hb,e⟩
theorem JR{w:World}{p:Option Addr}{M:List En}{B:Nat}(hB:Boxed w B 30 (.pointer p))(hS:oq w p M)(h64:M.length<=64):Calls prog 63 #[yU B] w fun e w'=>∃v,e=.returned v/\eU 54 w' w.heap.size v M/\Below w.heap.size w w':=by
 have HC:=zH (Nr hB hS h64);clear hB hS;go_enter func63,ntmps63;go_wp2_with fail;refine Calls.mono HC.out ?_;rintro e w' ⟨v,rfl,hv,b⟩;have HV:=rf hv b;clear hv b HC;go_wp2;go_ret;exact⟨v,rfl,HV.out⟩
theorem IK{w:World}{p:Option Addr}{M:List En}(hS:oq w p M)(h64:M.length<=64):Calls prog 29 #[.pointer p] w fun e w'=>∃v,e=.returned v/\eU 54 w' w.heap.size v M/\Below w.heap.size w w':=by
 obtain ⟨w1,dZ⟩:=zE (w.alloc (.cells #[.pointer p] 30));have B1:Below w.heap.size w w1:=by rw[<-dZ];exact ag w _
 have HL:Hid (Calls prog 64 #[.pointer p] w fun e w'=>e=.returned (yU w.heap.size)/\w'=w1):=by rw[<-dZ];exact Oz p w
 have HC:Hid (_):=JR (B:=w.heap.size) (by rw[<-dZ];exact Boxed.new w _ _) (hS.later B1) h64;have HB:=zH B1;clear dZ B1 hS;go_enter func29,ntmps29;go_wp2_with fail;refine HL.out.mono ?_;rintro e w2 ⟨rfl,rfl⟩;go_wp2_with fail;refine Calls.mono HC.out ?_;rintro e w' ⟨v,rfl,hv,b⟩;have HV:Hid (eU 54 w' w.heap.size v M/\Below w.heap.size w w'):=⟨World.ownsRow.lower hv HB.out.size,ah HB.out b⟩
 clear hv b HC HL;go_wp2;go_ret;exact⟨v,rfl,HV.out⟩
end Go.Proofs.Zq.C
namespace Go.Proofs.Zq.Q
open Go.RowKit
section
variable {w:World}
abbrev bare (c:fN):List Value:=aN c++[.pointer none,.pointer none,.pointer none,.pointer none]
end
open Go.Proofs.Tryz
def sm:fN:=⟨3,4,2,3,2,0,0⟩
theorem pM{fn:Func}{p:Tmp}{ty:TypeId}(h:fn.results=#[.cell p ty])(tmps:Array Value)(w:World)(g:Nat)(t:TypeId)(cs:List Value)(d:TypeDesc)
  (hp:tmps.getD p undef=.pointer (some ⟨g,0,none⟩)) (hg:bE t w g cs) (hu:prog.underlying ty=some d) (hd:d.isRow=true) (hi:(prog.info? ty).map (·.size)=some cs.length) :
  (results fn tmps).run prog w=.ok (.agg cs.toArray) w:=by
 have:=run_loadVar_mid w g 0 ty _ d (bE.range hg) hu hd hi;rw[Array.getD_eq_getD_getElem?] at hp;simp only[results,h];simp[hp,asAddr,this]
theorem Hj(w:World):Calls prog 27 #[] w fun e w'=>e=.returned (.agg (aN sm).toArray)/\Below w.heap.size w w':=by
 have hz:(prog.info? 23).bind (·.zero)=some (.agg (aN qz).toArray):=by kernel_rfl
 have HA:Hid ((Instr.alloc 23 true (.tuple #[])).run prog w=.ok (.pointer (some ⟨w.heap.size,0,none⟩)) (w.alloc (.cells (aN qz).toArray 23))):=by
  show _=_;simp only[Instr.alloc,aU,C.zv 23 _ hz,aH];simp[newVar,newRow,Value.cells]
 have HB:Hid ((Instr.build 23 #[(0,.int .i64 3),(1,.int .i64 4),(2,.int .i64 2),(3,.int .i64 3),(4,.int .i64 2)]).run prog (w.alloc (.cells (aN qz).toArray 23))=.ok (.agg (aN sm).toArray) (w.alloc (.cells (aN qz).toArray 23))):=eo _ 23 _ _ (by kernel_rfl);have HS:=zH (sA w sm);have HL:Hid (bE 23 (w.alloc (.cells (aN sm).toArray 23)) w.heap.size (aN sm)):=bE.new _ _ _;have HW:Hid (Below w.heap.size w (w.alloc (.cells (aN sm).toArray 23))):=ag w _;clear hz;go_enter func27,ntmps27;go_wp2_with ((with_reducible refine aQ ?_);(first | ((refine iT (by rfl) 23 rfl HA.out ?_);simp only[Act.put,zA,zB]) | ((refine bh (vs:=[(0,.int .i64 3),(1,.int .i64 4),(2,.int .i64 2),(3,.int .i64 3),(4,.int .i64 2)]) (by rfl) 23 rfl (by rfl) HB.out ?_);simp only[Act.put,zA,zB,zC]) | (refine qo 23 HS.out ?_)))
 (try simp only[Exit.inBlock,Exit.then]);exact cC (pM results27 _ _ w.heap.size 23 _ _ (by rfl) HL.out underlying23 rfl (by rw[sF,kz])) rfl ⟨rfl,HW.out⟩
end Go.Proofs.Zq.Q
namespace Go.Proofs.Zq.Q
open Go.RowKit
def va:List Int:=1 :: zs 31
def vb:List Int:=2 :: zs 31
def xa:Sx:=(ua (x0 sm) [] [2,0] [va,vb] true).1
theorem TA:rM xa 3=true:=by decide
theorem TB:xa.L=[⟨0,va,2⟩,⟨2,vb,2⟩]/\xa.p=2/\xa.s=true:=by exact⟨by rfl,by rfl,by rfl⟩
structure Bd (x y:Sx) (k j:Nat):Prop where
 c:y.c<=x.c+k
 nx:y.a.next<=x.a.next+j
 ws:y.ws.length<=x.ws.length+k
 fn:y.g.fin<=x.g.fin+k
 tl:y.g.tail=x.g.tail
 ma:y.g.mark=x.g.mark
 cf:y.g.c=x.g.c
 sc:∀z∈y.ws,z∈x.ws\/1+x.g.c.bl<=(z.s:Int)
section
variable {x y z:Sx} {k j k' j':Nat}
theorem Bd.trans(h:Bd x y k j)(h':Bd y z k' j'):Bd x z (k+k') (j+j'):=by
 refine⟨?_,?_,?_,?_,h'.tl.trans h.tl,h'.ma.trans h.ma,h'.cf.trans h.cf,fun u hu=>?_⟩
 ·have:=h.c;have:=h'.c;omega
 ·have:=h.nx;have:=h'.nx;omega
 ·have:=h.ws;have:=h'.ws;omega
 ·have:=h.fn;have:=h'.fn;omega
 ·rcases h'.sc u hu with h1 | h1
  ·exact h.sc u h1
  ·rw[h.cf] at h1;exact .inr h1
theorem Bd.mono(h:Bd x y k j)(hk:k<=k')(hj:j<=j'):Bd x y k' j':=by
 refine⟨?_,?_,?_,?_,h.tl,h.ma,h.cf,h.sc⟩
 ·have:=h.c;omega
 ·have:=h.nx;omega
 ·have:=h.ws;omega
 ·have:=h.fn;omega
theorem Bd.refl(x:Sx):Bd x x 0 0:=⟨az _,by omega,az _,by omega,rfl,rfl,rfl,fun _ h=>.inl h⟩
theorem Bd.kY(x:Sx)(xs:List Int):Bd x (x.kY xs) 1 1:=⟨az _,JW x xs,di _,by show x.g.fin<=_;omega,rfl,rfl,rfl,fun _ h=>.inl h⟩
theorem Bd.sj(x:Sx):Bd x x.sj 1 0:=⟨az _,by rw[JC];omega,di _,by show x.g.fin<=_;omega,rfl,rfl,rfl,fun _ h=>.inl h⟩
theorem Bd.app(x:Sx)(t:Int):Bd x (x.app t) 1 0:=⟨az _,by rw[JZ];omega,di _,by show x.g.fin<=_;omega,rfl,rfl,rfl,fun _ h=>.inl h⟩
theorem Bd.Dp(x:Sx)(t:Int):Bd x (x.Dp t) 1 0:=⟨az _,by rw[Xg];omega,di _,by show x.g.fin<=_;omega,rfl,rfl,rfl,fun _ h=>.inl h⟩
theorem NS{g:Lg}(h:g.Ok)(p:Int):1+g.c.bl<=((oH g p).toNat:Int):=by
 have h1:=h.cf.1;have h2:=h.cf.2.1;have h4:=Int.emod_nonneg p (show g.c.lc≠0 by omega);unfold oH;omega
theorem NO{l:List Wr}{u:Wr}{b:Int}(hu:b<=(u.s:Int)):∀z∈l++[u],z∈l\/b<=(z.s:Int):=fun z hz=>by
 rcases bH.1 hz with hz | hz
 ·exact .inl hz
 ·rw[bg.1 hz];exact .inr hu
theorem Bd.rU(h:x.Ok)(b:Int)(v:List Int):Bd x (x.rU b v) 1 0:=by
 unfold Sx.rU;by_cases e:mN x.g b=0
 ·rw[aE e];exact⟨di _,by show x.a.next<=_;omega,by simp,iy _,rfl,rfl,rfl,NO (NS h.g _)⟩
 ·rw[aD e];exact (Bd.refl x).mono (by omega) (by omega)
theorem Bd.vA(h:x.Ok):Bd x x.vA 1 0:=by
 unfold Sx.vA;by_cases e:fK x.g=0
 ·rw[aE e];exact⟨di _,by show x.a.next<=_;omega,by simp,iy _,rfl,rfl,rfl,NO (NS h.g _)⟩
 ·rw[aD e];exact (Bd.refl x).mono (by omega) (by omega)
theorem Bd.ack(x:Sx)(pd:List Cm):Bd x (XO x pd) 0 0:=by
 cases pd with
 | nil=>exact Bd.refl x
 | cons q r=>exact⟨az _,by show x.a.next<=_;omega,aI _,by show x.g.fin<=_;omega,rfl,rfl,rfl,fun z hz=>absurd hz dL⟩
theorem Bd.zJ(k:Nat)(x:Sx)(pd:List Cm):Bd x (Q.zJ k x pd).1 0 0:=by
 induction k generalizing x pd with
 | zero=>exact Bd.refl x
 | succ k ih=>exact (Bd.ack x pd).trans (ih _ _)
theorem XR(k:Nat)(x:Sx)(pd:List Cm):(Q.zJ k x pd).2.length<=pd.length:=by
 induction k generalizing x pd with
 | zero=>exact az _
 | succ k ih=>exact bJ (ih _ _) (by rw[List.length_tail];omega)
theorem Bd.uS(t:Int):∀(zs:List (Int × List Int)) (x:Sx),x.Ok->Bd x (Q.uS t x zs).1 (2*zs.length) 0/\(Q.uS t x zs).1.Ok
 | [],x,h=>⟨Bd.refl x,h⟩
 | z :: zs,x,h=>by
  by_cases e:mN x.g z.1=0
  ·rw[IY e];obtain ⟨h1,h2⟩:=Bd.uS t zs ((x.rU z.1 z.2).app t) ((h.rU _ _).app t);exact⟨(((Bd.rU h z.1 z.2).trans (Bd.app _ t)).trans h1).mono (by rw[bz];omega) (by omega),h2⟩
  ·rw[VU e];exact⟨(Bd.refl x).mono (by omega) (by omega),h⟩
theorem Bd.tx(h:x.Ok)(pd:List Cm)(xs:List Int)(vs:List (List Int))(pb:Bool):Bd x (ua x pd xs vs pb).1 36 1/\(ua x pd xs vs pb).2.length<=pd.length+1:=by
 by_cases e:x.a.oo xs=0
 ·by_cases hy:(x.kY xs).a.lY=0/\(x.kY xs).a.nh=x.a.gP xs
  ·obtain ⟨y,b,ei⟩:∃y b,Q.uS (x.a.gP xs) (x.kY xs).sj ((x.a.f_ xs).zip vs)=(y,b):=⟨_,_,rfl⟩
   obtain ⟨b1,hk⟩:=Bd.uS (x.a.gP xs) ((x.a.f_ xs).zip vs) _ (h.kY xs).sj;rw[ei] at b1 hk;have hl:((x.a.f_ xs).zip vs).length<=16:=by have:=(JX h e).1;rw[List.length_zip];omega
   have b2:Bd x y 34 1:=(((Bd.kY x xs).trans (Bd.sj _)).trans b1).mono (by omega) (by omega);cases b with
   | false=>rw[NC e hy ei];exact⟨b2.mono (by omega) (by omega),di _⟩
   | true =>
    by_cases hm:fK y.g=0
    ·rw[NG e hy ei hm];have b3:Bd x (y.vA.Dp (x.a.gP xs)) 36 1:=(b2.trans ((Bd.vA hk).trans (Bd.Dp _ _))).mono (by omega) (by omega);cases pb with
     | true =>
      rw[aE rfl];exact⟨(b3.trans (Bd.zJ _ _ _)).mono (by omega) (by omega),bJ (XR _ _ _) (by simp)⟩
     | false=>rw[aD (by decide)];exact⟨b3,by simp⟩
    ·rw[ND e hy ei hm];exact⟨b2.mono (by omega) (by omega),di _⟩
  ·rw[Ff e hy];exact⟨((Bd.kY x xs).trans (Bd.sj _)).mono (by omega) (by omega),di _⟩
 ·rw[NF e];exact⟨(Bd.kY x xs).mono (by omega) (by omega),di _⟩
end
open Go.Proofs.Tryz
section
variable {w0 w w' w1:World} {K:Ks} {x y:Sx} {pd:List Cm} {X:Nat->Th}
theorem QZ(h:DS w0 w K x y pd X)(hk:x.ws.length<=100000):Calls prog 25 #[E.qp K.dp] w fun e w'=>∃g vs,e=.returned (.slice (some ⟨g,0,none⟩) x.ws.length x.ws.length)/\Told w' w.heap.size g x.ws vs/\Below w.heap.size w w':=by
 obtain ⟨S,hl,-,-⟩:=h.sK;exact GO hl.zF hk
theorem DS.base(h:DS w1 w' K x y pd X)(hb:Below w.heap.size w w1):DS w w' K x y pd X:=by
 obtain ⟨T,G,h,hX⟩:=h;exact⟨T,G,⟨⟨h.jN.at',fun i hi b xq=>bJ hb.size (h.jN.lo i hi b xq),h.jN.apart,h.jN.im,h.jN.YG⟩,ah hb h.below,h.t0,h.t1,h.t2,h.t3,h.t4,h.t5,h.t6,h.lU,h.mP,h.cx,h.cy⟩,hX⟩
theorem DS.ldk(h:DS w0 w K x y pd X):(Instr.loadAt 37 (.pointer (some ⟨K.P,5,none⟩))).run prog w=.ok (.agg (gl K).toArray) w:=by
 obtain ⟨v,h,-⟩:=h.aaZ;exact b_ w K.P 5 37 (gl K) _ (jB (xs:=aN K.c) (bs:=gl K) (cs:=qV K++[v]) h) underlying37 rfl (by rw[zQ];rfl)
theorem DS.iJ(h:DS w0 w K x y pd X){k:Nat}(h8:8<=k)(cs:Array Value)(ty:TypeId):DS w0 (w.alloc (.cells cs ty)) K x y pd (put X k (.bC w.heap.size ty cs)) :=
 h.fresh (ag w _) h8 (u:=.bC w.heap.size ty cs) (fun _=>aG w _) (fun b hb=>by have:b=w.heap.size:=hb;omega)
theorem DS.ab0(h:DS w0 w K x y pd X){k:Nat}(h8:8<=k):DS w0 (w.alloc (.cells #[.int .i64 1,.int .u64 0,.slice none 0 0,.int .i64 0] 87)) K x y pd (put X k (.pp w.heap.size (.slice none 0 0) ⟨1,0,[],0⟩)) :=
 h.fresh (ag w _) h8 (u:=.pp w.heap.size (.slice none 0 0) ⟨1,0,[],0⟩) (fun _=>⟨⟨aG w _,It _ _,C.dW.nil,aI _,az _⟩,fun g hg=>by cases hg⟩) (fun b hb=>by have:b=w.heap.size:=hb;omega)
end
structure vH (w:World) (p:Option Addr) (m:Nat) (os:List rO):Prop where
 len:os.length=m
 cells:0<m->∃b o,p=some ⟨b,o,none⟩/\∀k q,os[k]?=some q->w.rangeAt b (o+k*5) q.cells.toList
 set:∀q∈os,E.B.pZ w q.ps q.ms q.xs/\q.ms+80<=17592186044416
 val:∀q∈os,vF w q.pv q.mv q.vs/\q.mv*32<=140737488355328
theorem NP:(prog.info? 81).map (·.size)=some 5:=by kernel_rfl
section
variable {w w':World} {p:Option Addr} {m:Nat} {os:List rO}
theorem vH.later(h:vH w p m os)(hb:Below w.heap.size w w'):vH w' p m os:=by
 refine⟨h.len,fun h0=>?_,fun q hq=>⟨(h.set q hq).1.later hb,(h.set q hq).2⟩,fun q hq=>⟨(h.val q hq).1.later hb,(h.val q hq).2⟩⟩;obtain ⟨b,o,e,hc⟩:=h.cells h0;refine⟨b,o,e,fun k q hq=>?_⟩;have h1:=hc k q hq;have hl:b<w.heap.size:=cG w _ (h1 0 _ rfl);exact fun j v hv=>(hb.cell (p:=⟨b,o+k*5+j,none⟩) hl).trans (h1 j v hv)
theorem vH.load{b o:Nat}(h:vH w (some ⟨b,o,none⟩) m os){k:Nat}{q:rO}(hk:os[k]?=some q):(Instr.loadAt 81 (.pointer (some ⟨b,o+k*5,none⟩))).run prog w=.ok (.agg q.cells) w:=by
 have vK:=(aA.1 hk).1;obtain ⟨b',o',e,hc⟩:=h.cells (by rw[<-h.len];omega);cases e;exact b_ w b (o+k*5) 81 q.cells.toList _ (hc k q hk) underlying81 rfl (by rw[NP];rfl)
theorem vH.opr(h:vH w p m os){K:Ks}{X:Nat->Th}{q:rO}(hq:q∈os):OpR w K X q :=
 ⟨fun _ _ _ _ _ hD _=>⟨(h.set q hq).1.later hD.below,(h.val q hq).1.later hD.below⟩,(h.set q hq).2,(h.val q hq).2⟩
end
section
variable {P:Program} {ops:Array Oper} {rest:List Oper} {o:Oper} {a:Act} {w w':World} {Q:Exit->Act->World->Prop}
theorem qu(jt:Region.wanted o (yielded ops a.tmps)=true)(ty n:Nat){ps:Array (Nat × Operand)}(ho:o.op=.buildSlice ty n ps){vs:List (Nat × Value)}{v:Value}(hx:ps.toList.map (fun (i,x)=>(i,a.eval x))=vs)(dM:(Instr.buildSlice ty n vs.toArray).run P w=.ok v w')(h:wpList P ops Q rest (a.put o.dst v) w'):wpList P ops Q (o :: rest) a w :=
 jz jt (by unfold execOp;simp only[ho];rw[show ps.map (fun (i,x)=>(i,a.eval x))=vs.toArray by rw[<-hx,<-ny]];simp only[aU,dM,aH,bQ]) h
end
theorem aaN:prog.eqGuardType prog.depth 51=false:=by kernel_rfl
theorem qf:va.length=32:=by rfl
theorem KK:vb.length=32:=by rfl
theorem TH:Bytes va:=by unfold Bytes;decide
theorem TG:Bytes vb:=by unfold Bytes;decide
theorem Xs(w:World):(Instr.build 51 #[(0,.int .u8 1)]).run prog w=.ok (.agg (U8 va).toArray) w:=eo w 51 _ _ (by kernel_rfl)
theorem Xr(w:World):(Instr.build 51 #[(0,.int .u8 2)]).run prog w=.ok (.agg (U8 vb).toArray) w:=eo w 51 _ _ (by kernel_rfl)
theorem VN:(prog.info? 51).map (fun i=>(i.zero,i.size,i.bytes))=some (some (.agg (U8 zv).toArray),32,32):=by kernel_rfl
theorem Nf(w:World):(Instr.buildSlice 79 2 #[(0,.agg (U8 va).toArray),(1,.agg (U8 vb).toArray)]).run prog w=.ok (.slice (some ⟨w.heap.size,0,none⟩) 2 2) (w.alloc (.cells (U8 va++U8 vb).toArray 51)):=by
 obtain ⟨i0,hi,ij,gm,iL⟩:=cj VN;refine run_buildSlice w 79 51 2 _ _ i0 _ underlying79 hi ij (by rw[gm];decide) (by rw[gm];decide) ?_;rw[gm];kernel_rfl
theorem VO:(prog.info? 3).map (fun i=>(i.zero,i.size,i.bytes))=some (some (.int .i64 0),1,8):=by kernel_rfl
theorem Se(w:World):(Instr.buildSlice 59 2 #[(0,.int .i64 2),(1,.int .i64 0)]).run prog w=.ok (.slice (some ⟨w.heap.size,0,none⟩) 2 2) (w.alloc (.cells #[.int .i64 2,.int .i64 0] 3)):=by
 obtain ⟨i0,hi,ij,gm,iL⟩:=cj VO;refine run_buildSlice w 59 3 2 _ _ i0 _ mG hi ij (by rw[gm];decide) (by rw[gm];decide) ?_;rw[gm];kernel_rfl
theorem Xu(w:World)(s v:Value)(hs:s.oneCell'=true)(hv:v.oneCell'=true)(u:Option Addr)(m c:Nat)(u':Option Addr)(m' c':Nat)(es:s=.slice u m c)(ev:v=.slice u' m' c'):(Instr.build 81 #[(1,s),(2,v),(3,.bool true)]).run prog w=.ok (.agg #[.int .i64 0,s,v,.bool true,.int .i64 0]) w:=by
 subst es ev;exact eo w 81 _ _ (by kernel_rfl)
section
variable {w0 w:World} {K:Ks} {x y:Sx} {pd:List Cm} {X:Nat->Th}
abbrev oA (A B:Nat):rO:=⟨0,some ⟨A,0,none⟩,2,2,[2,0],some ⟨B,0,none⟩,2,2,[va,vb],true,0⟩
theorem agN{A B i j:Nat}(hi:8<=i)(hi2:i<30)(hj:8<=j)(hj2:j<30)(e1:X i=.bC A 3 #[.int .i64 2,.int .i64 0])(e2:X j=.bC B 51 (U8 va++U8 vb).toArray):OpR w0 K X (oA A B):=by
 refine⟨fun W x y pd X' hD hX=>⟨⟨rfl,fun _=>⟨A,0,rfl,fun k hk=>?_⟩⟩,⟨rfl,fun v hv=>?_,fun _=>⟨B,0,rfl,fun k v hv=>?_⟩⟩⟩,(by show 2+80<=17592186044416;decide),(by show 2*32<=140737488355328;decide)⟩
 ·have h:=hD.bC hi (by omega) ((hX i hi hi2).trans e1);rw[aq _ _ _ _ _ _ h];have wR:k<2:=hk;have:k=0\/k=1:=by omega
  rcases this with rfl | rfl <;> rfl
 ·rcases bZ.1 hv with rfl | hv
  ·exact⟨qf,TH⟩
  ·rw[bg.1 hv];exact⟨KK,TG⟩
 ·have h:=hD.bC hj (by omega) ((hX j hj hj2).trans e2);have hk:=(aA.1 hv).1;have:k=0\/k=1:=by simp at hk;omega
  rcases this with rfl | rfl
  ·cases hv;exact jB (xs:=[]) (bs:=U8 va) (cs:=U8 vb) h
  ·cases hv;exact jB (xs:=U8 va) (bs:=U8 vb) (cs:=[]) (by rw[jQ];exact h)
theorem st1:iI 3 xa ⟨1,0,[],0⟩=(cH 14 (-1) zv 3 2,0,xa,⟨2,3,xa.L,0⟩):=by
 show tu 3 xa ⟨1,0,[],0⟩=_;unfold tu;rw[aE TA,TB.2.1,TB.1];rfl
theorem st2:iI 3 xa ⟨2,3,xa.L,0⟩=(cH 15 0 va 0 0,0,xa.CU 0 va,⟨2,3,xa.L,1⟩):=by
 show yM xa ⟨2,3,xa.L,0⟩ ((xa.L.drop 0).headD C.lN)=_;have hz:(xa.L.drop 0).headD C.lN=⟨0,va,2⟩:=by rw[TB.1];rfl
 rw[hz];unfold yM;rw[aE (by decide),aE (by rw[TB.1];decide)]
theorem j_{W:World}{g:Nat}{k b:Int}{v:List Int}{q c:Int}(hv:v.length=32)(h:W.heap[g]?=some (.cells (cH k b v q c).toArray 61 (0,0))):W.cell? ⟨g,0,none⟩=some (.int .i64 k)/\W.cell? ⟨g,4,none⟩=some (.int .i64 b)/\W.cell? ⟨g,37,none⟩=some (.int .u64 q)/\W.cell? ⟨g,38,none⟩=some (.int .i64 c)/\W.rangeAt g 5 (U8 v):=by
 have e:∀j,j<4->(cH k b v q c)[37+j]?=[Value.int .u64 q,.int .i64 c,.int .i64 0,.slice none 0 0][j]?:=fun j hj=>by
  unfold cH;rw[aT (by simp;omega),aT (by simp[hv];omega)]
  congr 1
  simp[hv];omega
 refine⟨?_,?_,?_,?_,?_⟩
 ·rw[aq _ _ _ _ _ _ h];rfl
 ·rw[aq _ _ _ _ _ _ h];rfl
 ·rw[aq _ _ _ _ _ _ h];simpa using e 0 (by omega)
 ·rw[aq _ _ _ _ _ _ h];simpa using e 1 (by omega)
 ·exact jB (xs:=[.int .i64 k,.int .u64 0,.int .i64 0,.int .u64 0,.int .i64 b]) (bs:=U8 v) (cs:=[.int .u64 q,.int .i64 c,.int .i64 0,.slice none 0 0]) h
theorem DS.Mc(h:DS w0 w K x y pd X){k:Nat}(h8:8<=k)(eC:k<40)(ds:List Value):DS w0 ((w.alloc (.cells dx.toArray 61)).setRow w.heap.size ds.toArray) K x y pd (put X k (.bC w.heap.size 61 ds.toArray)):=by
 have:=(h.iJ h8 dx.toArray 61).mF h8 eC (ax _ _ _) ds.toArray;rw[ee] at this;exact this
theorem Re{W:World}{g:Nat}{v:List Int}(h:W.rangeAt g 5 (U8 v))(hv:v.length=32):(Instr.loadAt 51 (.pointer (some ⟨g,5,none⟩))).run prog W=.ok (.agg (U8 v).toArray) W:=b_ W g 5 51 (U8 v) _ h gw rfl (by rw[vZ,aX,hv])
theorem tQ{W:World}{g:Nat}{v:List Int}(h:W.heap[g]?=some (.cells (U8 v).toArray 51 (0,0)))(hv:v.length=32):(Instr.loadAt 51 (.pointer (some ⟨g,0,none⟩))).run prog W=.ok (.agg (U8 v).toArray) W:=Dq.load h hv
end
section
variable {w:World}
theorem XA(ht:qX w):Calls prog 8 #[] w fun e w'=>e=.returned (.bool true)/\Below w.heap.size w w':=by
 have HT:Hid (qX w):=ht;clear ht;go_enter func8,ntmps8;go_wp2_with fail;refine (Hj w).mono ?_;rintro e w1 ⟨rfl,b1⟩;have B1:Hid (Below w.heap.size w w1):=b1;have HT1:Hid (qX w1):=HT.out.later b1;clear b1 HT;go_wp2_with fail;refine (Mm sm (by decide) HT1.out).mono ?_;rintro e w2 ⟨K,rfl,hK,hd⟩;have HK:Hid (K.c=sm):=hK;have fh:Hid (DS w1 w2 K (x0 sm) (x0 sm) [] (fun _=>.no)):=hd;clear hd hK;go_wp2_with fail;refine (Vm w2).mono ?_;rintro e w3 ⟨rfl,jM⟩;obtain ⟨B,hB⟩:=zE w2.heap.size;have fu:Hid (DS w1 w3 K (x0 sm) (x0 sm) [] (put (fun _=>.no) 8 (.pp B (.slice none 0 0) ⟨1,0,[],0⟩))):=by rw[jM,<-hB];exact fh.out.ab0 (by decide)
 rw[hB];clear jM hB fh;have LK:Hid (_):=fu.out.ldk;go_wp2_with ((with_reducible refine aQ ?_);(refine lJ 37 LK.out ?_))
 refine (vX (fu.out.pt (i:=8) (by decide) (by decide) rfl)).mono ?_;rintro e w' ⟨rfl,hw'⟩;subst hw';go_wp2_with ((with_reducible refine aQ ?_);(refine lJ 37 LK.out ?_))
 refine (mB fu.out (by show (1:Int)<=1000;omega) (i:=8) (by decide) (by decide) rfl).mono ?_;rintro e w4 ⟨rfl,b4⟩;have e0:rM (x0 sm) K.c.hi=false:=by rw[HK.out];decide
 rw[e0];have gM:Hid (DS w1 w4 K (x0 sm) (x0 sm) [] (put (fun _=>.no) 8 (.pp B (.slice none 0 0) ⟨1,0,[],0⟩))):=fu.out.later b4;clear b4 fu LK e0;obtain ⟨VA,hVA⟩:=zE w4.heap.size;obtain ⟨w5,VY⟩:=zE (w4.alloc (.cells (U8 zv).toArray 51));obtain ⟨VB,hVB⟩:=zE w5.heap.size;obtain ⟨w6,Td⟩:=zE (w5.alloc (.cells (U8 zv).toArray 51));have MF:DS w1 w6 K (x0 sm) (x0 sm) [] (put (put (put (fun _=>.no) 8 (.pp B (.slice none 0 0) ⟨1,0,[],0⟩)) 9 (.bC VA 51 (U8 zv).toArray)) 10 (.bC VB 51 (U8 zv).toArray)):=by
  rw[<-Td,<-hVB];refine DS.iJ ?_ (by decide) _ _;rw[<-VY,<-hVA];exact gM.out.iJ (by decide) _ _
 have hd7:=MF.mF (j:=9) (by decide) (by decide) (R:=VA) (ty:=51) rfl (U8 va).toArray;have fB:=hd7.mF (j:=10) (by decide) (by decide) (R:=VB) (ty:=51) rfl (U8 vb).toArray;have Nv:Hid ((Instr.storeAt 51 (.pointer (some ⟨VA,0,none⟩)) (.agg (U8 va).toArray)).run prog w6=.ok () (w6.setRow VA (U8 va).toArray)):=Dq.store (MF.bC (i:=9) (by decide) (by decide) rfl) (bG 32) qf;have zM:Hid ((Instr.storeAt 51 (.pointer (some ⟨VB,0,none⟩)) (.agg (U8 vb).toArray)).run prog (w6.setRow VA (U8 va).toArray)=.ok () ((w6.setRow VA (U8 va).toArray).setRow VB (U8 vb).toArray)):=Dq.store (hd7.bC (i:=10) (by decide) (by decide) rfl) (bG 32) KK;have uE:Hid ((Instr.alloc 51 true (.tuple #[])).run prog w4=.ok (.pointer (some ⟨VA,0,none⟩)) w5):=by rw[<-hVA,<-VY];exact XJ w4
 have YV:Hid ((Instr.alloc 51 true (.tuple #[])).run prog w5=.ok (.pointer (some ⟨VB,0,none⟩)) w6):=by rw[<-hVB,<-Td];exact XJ w5
 have gj:Hid (_):=Xs w4;have gD:Hid (_):=Xr w4;have kR:Hid (DS w1 ((w6.setRow VA (U8 va).toArray).setRow VB (U8 vb).toArray) K (x0 sm) (x0 sm) [] (put (put (put (fun _=>.no) 8 (.pp B (.slice none 0 0) ⟨1,0,[],0⟩)) 9 (.bC VA 51 (U8 va).toArray)) 10 (.bC VB 51 (U8 vb).toArray))):=by
  refine fB.congr fun i h8 eC=>?_;by_cases uh:i=10
  ·subst uh;rfl
  ·by_cases c9:i=9
   ·subst c9;rfl
   ·rw[af _ _ uh,af _ _ c9,af _ _ uh,af _ _ c9,af _ _ uh,af _ _ c9]
 obtain ⟨w7,Yw⟩:=zE (w6.setRow VA (U8 va).toArray);rw[Yw] at Nv zM kR;obtain ⟨w8,My⟩:=zE (w7.setRow VB (U8 vb).toArray);rw[My] at zM kR;clear MF hd7 fB VY Td hVA hVB gM Yw My;obtain ⟨SA,hSA⟩:=zE w8.heap.size;obtain ⟨w9,Tc⟩:=zE (w8.alloc (.cells #[.int .i64 2,.int .i64 0] 3));have qt:Hid (DS w1 w9 K (x0 sm) (x0 sm) [] (put (put (put (put (fun _=>.no) 8 (.pp B (.slice none 0 0) ⟨1,0,[],0⟩)) 9 (.bC VA 51 (U8 va).toArray)) 10 (.bC VB 51 (U8 vb).toArray)) 11 (.bC SA 3 #[.int .i64 2,.int .i64 0]))):=by rw[<-Tc,<-hSA];exact kR.out.iJ (by decide) _ _
 have HC1:Hid (_):=Se w8;rw[Tc,hSA] at HC1;have L1:Hid (_):=tQ (qt.out.bC (i:=9) (by decide) (by decide) (B:=VA) (t:=51) rfl) qf;have L2:Hid (_):=tQ (qt.out.bC (i:=10) (by decide) (by decide) (B:=VB) (t:=51) rfl) KK;obtain ⟨SV,hSV⟩:=zE w9.heap.size;obtain ⟨Gy,aea⟩:=zE (w9.alloc (.cells (U8 va++U8 vb).toArray 51));have ai6:Hid (DS w1 Gy K (x0 sm) (x0 sm) [] (put (put (put (put (put (fun _=>.no) 8 (.pp B (.slice none 0 0) ⟨1,0,[],0⟩)) 9 (.bC VA 51 (U8 va).toArray)) 10 (.bC VB 51 (U8 vb).toArray)) 11 (.bC SA 3 #[.int .i64 2,.int .i64 0])) 12 (.bC SV 51 (U8 va++U8 vb).toArray))):=by rw[<-aea,<-hSV];exact qt.out.iJ (by decide) _ _
 have Yl:Hid (_):=Nf w9;rw[aea,hSV] at Yl;have HC3:Hid (_):=Xu Gy (.slice (some ⟨SA,0,none⟩) 2 2) (.slice (some ⟨SV,0,none⟩) 2 2) rfl rfl _ _ _ _ _ _ rfl rfl;clear kR qt Tc aea hSA hSV;go_wp2_with ((with_reducible refine aQ ?_);(first | ((refine bh (vs:=[(0,.int .u8 1)]) (by rfl) 51 rfl (by rfl) gj.out ?_);simp only[Act.put,zA,zB,zC]) | ((refine bh (vs:=[(0,.int .u8 2)]) (by rfl) 51 rfl (by rfl) gD.out ?_);simp only[Act.put,zA,zB,zC]) | (refine xk 51 uE.out ?_) | (refine xk 51 YV.out ?_) | (refine qo 51 Nv.out ?_) | (refine qo 51 zM.out ?_) | ((refine qu (vs:=[(0,.int .i64 2),(1,.int .i64 0)]) (by rfl) 59 2 rfl (by rfl) HC1.out ?_);simp only[Act.put,zA,zB,zC]) | (refine lJ 51 L1.out ?_) | (refine lJ 51 L2.out ?_) | ((refine qu (vs:=[(0,.agg (U8 va).toArray),(1,.agg (U8 vb).toArray)]) (by rfl) 79 2 rfl (by rfl) Yl.out ?_);simp only[Act.put,zA,zB,zC]) | ((refine bh (vs:=[(1,.slice (some ⟨SA,0,none⟩) 2 2),(2,.slice (some ⟨SV,0,none⟩) 2 2),(3,.bool true)]) (by rfl) 81 rfl (by rfl) HC3.out ?_);simp only[Act.put,zA,zB,zC])))
 clear gj gD uE YV Nv zM HC1 Yl HC3 L1 L2;refine (abR HT1.out ai6.out (fun i Al eC=>by rw[af _ _ (by omega),af _ _ (by omega),af _ _ (by omega),af _ _ (by omega),af _ _ (by omega)]) (o:=oA SA SV) (agN (i:=11) (j:=12) (by decide) (by decide) (by decide) (by decide) rfl rfl) (by decide) (by decide) (by decide) (by decide)).mono ?_;rintro e S_ ⟨rfl,hd⟩;have abG:Hid (DS w1 S_ K xa xa (ua (x0 sm) [] [2,0] [va,vb] true).2 (put (put (put (put (put (fun _=>.no) 8 (.pp B (.slice none 0 0) ⟨1,0,[],0⟩)) 9 (.bC VA 51 (U8 va).toArray)) 10 (.bC VB 51 (U8 vb).toArray)) 11 (.bC SA 3 #[.int .i64 2,.int .i64 0])) 12 (.bC SV 51 (U8 va++U8 vb).toArray))):=hd;clear hd ai6;generalize (ua (x0 sm) [] [2,0] [va,vb] true).2=pd at *;have LK:Hid (_):=abG.out.ldk;go_wp2_with ((with_reducible refine aQ ?_);(refine lJ 37 LK.out ?_))
 refine (mB abG.out (by decide) (i:=8) (by decide) (by decide) rfl).mono ?_;rintro e w12 ⟨rfl,b12⟩;have e1:rM xa K.c.hi=true:=by rw[HK.out];exact TA
 rw[e1];have afv:Hid (DS w1 w12 K xa xa pd (put (put (put (put (put (fun _=>.no) 8 (.pp B (.slice none 0 0) ⟨1,0,[],0⟩)) 9 (.bC VA 51 (U8 va).toArray)) 10 (.bC VB 51 (U8 vb).toArray)) 11 (.bC SA 3 #[.int .i64 2,.int .i64 0])) 12 (.bC SV 51 (U8 va++U8 vb).toArray))):=abG.out.later b12;clear b12 abG LK e1;have LK:Hid (_):=afv.out.ldk;go_wp2_with ((with_reducible refine aQ ?_);(refine lJ 37 LK.out ?_))
 refine (zP HT1.out afv.out (by decide) (by decide) (i:=8) (by decide) (by decide) ⟨.inl rfl,fun e=>absurd (show (1:Int)=2 from e) (by decide)⟩ rfl (fun j h1 h2=>by rw[af _ _ (by omega),af _ _ (by omega),af _ _ (by omega),af _ _ (by omega),af _ _ (by omega)])).mono ?_;rw[show K.c.hi=3 by rw[HK.out];rfl,st1];rintro e w13 ⟨pv,rfl,hd⟩;have ai5:Hid (DS w1 w13 K xa xa pd (put (put (put (put (put (fun _=>.no) 8 (.pp B pv ⟨2,3,xa.L,0⟩)) 9 (.bC VA 51 (U8 va).toArray)) 10 (.bC VB 51 (U8 vb).toArray)) 11 (.bC SA 3 #[.int .i64 2,.int .i64 0])) 12 (.bC SV 51 (U8 va++U8 vb).toArray))):=by
  refine hd.congr fun i h8 eC=>?_;by_cases c8:i=8
  ·subst c8;rfl
  ·rw[af _ _ c8];by_cases c12:i=12
   ·subst c12;rfl
   ·by_cases CH:i=11
    ·subst CH;rfl
    ·by_cases uh:i=10
     ·subst uh;rfl
     ·by_cases c9:i=9
      ·subst c9;rfl
      ·rw[af _ _ c12,af _ _ CH,af _ _ uh,af _ _ c9,af _ _ c8,af _ _ c12,af _ _ CH,af _ _ uh,af _ _ c9,af _ _ c8]
 clear hd afv LK;obtain ⟨R1,hR1⟩:=zE w13.heap.size;have hdr:=ai5.out.Mc (k:=13) (by decide) (by decide) (cH 14 (-1) zv 3 2);have SP:Hid (_):=dY w13;have EY:Hid (_):=dB (bE.new 61 w13 dx) (ds:=cH 14 (-1) zv 3 2) (bI (bG 32)) (dQ _ _ _ _ _);rw[hR1] at hdr SP EY;have abF:Hid (DS w1 ((w13.alloc (.cells dx.toArray 61)).setRow R1 (cH 14 (-1) zv 3 2).toArray) K xa xa pd (put (put (put (put (put (put (fun _=>.no) 8 (.pp B pv ⟨2,3,xa.L,0⟩)) 9 (.bC VA 51 (U8 va).toArray)) 10 (.bC VB 51 (U8 vb).toArray)) 11 (.bC SA 3 #[.int .i64 2,.int .i64 0])) 12 (.bC SV 51 (U8 va++U8 vb).toArray)) 13 (.bC R1 61 (cH 14 (-1) zv 3 2).toArray))):=hdr;clear hdr hR1 ai5;obtain ⟨w14,ag4⟩:=zE ((w13.alloc (.cells dx.toArray 61)).setRow R1 (cH 14 (-1) zv 3 2).toArray);rw[ag4] at abF EY;clear ag4;have LK:Hid (_):=abF.out.ldk;go_wp2_with ((with_reducible refine aQ ?_);(first | (refine xk 61 SP.out ?_) | (refine qo 61 EY.out ?_) | (refine lJ 37 LK.out ?_)))
 clear SP EY;refine (zP HT1.out abF.out (by decide) (by decide) (i:=8) (by decide) (by decide) ⟨.inr (.inl rfl),fun _=>by rw[TB.1];decide⟩ rfl (fun j h1 h2=>by rw[af _ _ (by omega),af _ _ (by omega),af _ _ (by omega),af _ _ (by omega),af _ _ (by omega),af _ _ (by omega)])).mono ?_;rw[show K.c.hi=3 by rw[HK.out];rfl,st2];rintro e w15 ⟨pv2,rfl,hd⟩;have q1:=j_ (bG 32) (hd.bC (i:=13) (by decide) (by decide) (B:=R1) (t:=61) rfl);have q2:=tQ (hd.bC (i:=9) (by decide) (by decide) (B:=VA) (t:=51) rfl) qf;have ai4:Hid (DS w1 w15 K (xa.CU 0 va) xa pd (put (put (put (put (put (put (put (fun _=>.no) 8 (.pp B pv ⟨2,3,xa.L,0⟩)) 9 (.bC VA 51 (U8 va).toArray)) 10 (.bC VB 51 (U8 vb).toArray)) 11 (.bC SA 3 #[.int .i64 2,.int .i64 0])) 12 (.bC SV 51 (U8 va++U8 vb).toArray)) 13 (.bC R1 61 (cH 14 (-1) zv 3 2).toArray)) 8 (.pp B pv2 ⟨2,3,xa.L,1⟩))):=hd;clear hd abF LK q1 q2;obtain ⟨R2,Tk⟩:=zE w15.heap.size;have hdr:=ai4.out.Mc (k:=14) (by decide) (by decide) (cH 15 0 va 0 0);have SP:Hid (_):=dY w15;have EY:Hid (_):=dB (bE.new 61 w15 dx) (ds:=cH 15 0 va 0 0) (bI qf) (dQ _ _ _ _ _);rw[Tk] at hdr SP EY;obtain ⟨w16,ag3⟩:=zE ((w15.alloc (.cells dx.toArray 61)).setRow R2 (cH 15 0 va 0 0).toArray);rw[ag3] at hdr EY;clear ag3 Tk ai4;have q1:=j_ (bG 32) (hdr.bC (i:=13) (by decide) (by decide) (B:=R1) (t:=61) rfl);have q2:=j_ qf (hdr.bC (i:=14) (by decide) (by decide) (B:=R2) (t:=61) rfl);have L3:Hid (_):=tQ (hdr.bC (i:=9) (by decide) (by decide) (B:=VA) (t:=51) rfl) qf;have L4:Hid (_):=Re q2.2.2.2.2 qf;have EV:Hid ((binOp .eql 51 (.agg (U8 va).toArray) (.agg (U8 va).toArray)).run prog w16=.ok (.bool true) w16):=by
  have:=C.aic w16 va va qf qf;rw[aP rfl] at this;exact this
 have HP:Hid (_):=hdr.pt (i:=8) (by decide) (by decide) (B:=B) rfl;have YU:Hid (Below w.heap.size w w16):=ah B1.out hdr.below;obtain ⟨a1,-,a3,a4,-⟩:=q1;obtain ⟨c1,c2,-,-,-⟩:=q2;clear hdr;go_wp2_with ((with_reducible refine aQ ?_);(first | (refine xk 61 SP.out ?_) | (refine qo 61 EY.out ?_) | (refine lJ 51 L3.out ?_) | (refine lJ 51 L4.out ?_) | ((refine nk (by rfl) 51 rfl rfl rfl aaN EV.out ?_);simp only[Act.put,zA,zB,zC])))
 refine (vX HP.out).mono ?_;rintro e w' ⟨rfl,hw'⟩;subst hw';go_wp2;go_ret;exact⟨rfl,YU.out⟩
end
end Go.Proofs.Zq.Q
namespace Go.Proofs.Zq.Q
open Go.RowKit
open Go.ChangeShapes Go.WideShapes Go.ChangeAt Go.Deep
theorem agM:ownKnob Tryz.prog.godebug=none:=by kernel_rfl
theorem Pa : Tryz.prog.globalNamed "wicket/sum.halves" = some 1 := by kernel_rfl
theorem Zg:(Tryz.prog.globals[1]?).map (·.type)=some 304:=by kernel_rfl
theorem Gb : Tryz.prog.globalNamed "wicket/super.fields" = some 0 := by kernel_rfl
theorem Zh:(Tryz.prog.globals[0]?).map (·.type)=some 263:=by kernel_rfl
theorem abc:Tryz.prog.cellsOf 256=1:=by kernel_rfl
theorem aba:Tryz.prog.cellsOf 304=16:=by kernel_rfl
theorem abb:Tryz.prog.cellsOf 262=2:=by kernel_rfl
theorem Gk:Tryz.prog.cellsOf 3=1:=by kernel_rfl
def agl:List Int:=[0,498536548,997073096,651767980,1994146192,1802195444,1303535960,1342533948,3988292384,4027552580,3604390888,3412177804,2607071920,2262029012,2685067896,3183342108]
theorem KB:∀i,i<16->agl[i]?=some ((table.getD i 0:Nat):Int):=by decide
abbrev yX : List (String × DataW Unit) := [("wicket/sum.halves", YtcdjepkhdjpjcaaGreatDoor.Rows.laid_wicket_sum_halves), ("wicket/super.fields", YtcdjepkhdjpjcaaGreatDoor.Rows.laid_wicket_super_fields)]
theorem JF(os:Os)(args:Array Value):laidMetH Tryz.prog yX ((World.doorLaid Tryz.prog 400 os).forCall (fun _ _=>0) ⟨#[],args,[]⟩).memory :=
 laidMetH_of_parts3 (fuel:=8) (laidMet_of_run' 8 (by kernel_rfl) (by kernel_rfl)) (by kernel_rfl) (by kernel_rfl)
def rT {H:Type}(a k:Nat):DataW H:=.agg [.lit (.int .i64 (a:Int)),.lit (.int .i64 (k:Int))]
theorem drop_one{α:Type}(l:List α)(i:Nat)(v:α)(h:(l.drop i).take 1=[v]):l[i]?=some v:=by
 have e:((l.drop i).take 1)[0]?=some v:=by rw[h];rfl
 rw[fG,aE (by omega),iH] at e;exact e
theorem ZN{H:Type}{enc:TypeId × Value->H}{W:World}{b:Nat}{sp:Nat->Bool}{held:Bool}{m:Nat}{cs:List Value}{p:List MemPlace}{a k:Nat}(h:DataW.trod enc Tryz.prog W b sp held m 262 cs=some (rT a k,p)) :
  cs[0]?=some (.int .i64 (a:Int))/\cs[1]?=some (.int .i64 (k:Int)):=by
 obtain ⟨xs,n,_,e,_,hxl,hg⟩:=DataW.trod_struct Tryz.underlying262 h;have ak8:xs.length=2:=hxl;have g0:DataW.trod enc Tryz.prog W b sp held n 3 ((cs.drop 0).take (Tryz.prog.cellsOf 3))=xs[0]?:=hg 0 _ rfl;have g1:DataW.trod enc Tryz.prog W b sp held n 3 ((cs.drop 1).take (Tryz.prog.cellsOf 3))=xs[1]?:=hg 1 _ rfl;rw[Gk,ay (by omega)] at g0 g1;obtain ⟨a0,e0,d0,_⟩:=iz Tryz.underlying3 g0;obtain ⟨a1,e1,d1,_⟩:=iz Tryz.underlying3 g1;have f0:=drop_one _ _ _ e0;have f1:=drop_one _ _ _ e1;have ed:=congrArg Prod.fst e
 match xs,ak8 with
 | [y0,y1],_ =>
  simp only[List.getElem_cons_zero,lF] at d0 d1;rw[d0,d1] at ed;simp[rT] at ed;rw[f0,f1,ed.1,ed.2];exact⟨rfl,rfl⟩
def Pj {H:Type}:List (DataW H):=[rT 6 1,rT 8 1,rT 9 1,rT 10 1,rT 11 1,rT 12 1,rT 16 8,rT 24 8]
theorem WW{H:Type}(i:Nat)(h:i<8):(Pj (H:=H))[i]?=some (rT (fa.getD i 0) (fw.getD i 0)):=by
 have:i=0\/i=1\/i=2\/i=3\/i=4\/i=5\/i=6\/i=7:=by omega
 rcases this with rfl | rfl | rfl | rfl | rfl | rfl | rfl | rfl <;> rfl
theorem aaF{H:Type}{enc:TypeId × Value->H}{W:World}{b:Nat}{sp:Nat->Bool}{held:Bool}{m:Nat}{cs:List Value}{p:List MemPlace}(h:DataW.trod enc Tryz.prog W b sp held m 263 cs=some (.agg Pj,p))(i:Nat)(hi:i<8) :
  cs[2*i]?=some (.int .i64 ((fa.getD i 0:Nat):Int))/\cs[2*i+1]?=some (.int .i64 ((fw.getD i 0:Nat):Int)):=by
 obtain ⟨xs,m',_,e,_,hxl,hf⟩:=DataW.trod_array Tryz.underlying263 h;have e1:Pj=xs.map (·.1):=by
  have:=congrArg Prod.fst e;injection this
 have g:=hf i hi;rw[abb] at g;have hx:(xs.map (·.1))[i]?=some (rT (fa.getD i 0) (fw.getD i 0)):=by rw[<-e1];exact WW i hi
 rw[qb] at hx;obtain ⟨y,hy,hy1⟩:=Option.map_eq_some_iff.1 hx;rw[hy] at g;obtain ⟨d,pp⟩:=y;simp only at hy1;subst hy1;have hp:=ZN g;rw[fG,aE (by omega),iH,fG,aE (by omega),iH] at hp;rw[show i*2+0=2*i by omega,show i*2+1=2*i+1 by omega] at hp;exact hp
theorem TQ{W:World}(h:laidMetH Tryz.prog yX W):qX W:=by
 rw[MakeChecks.laidMetH_plain _ _ _ (by kernel_rfl)] at h;have h' : laidMet Tryz.prog [("wicket/sum.halves", Lib.tabData .u32 agl), ("wicket/super.fields", .agg Pj)] W := h
 refine⟨?_,?_⟩
 ·have hT:=Lib.tabIs_of_head Pa Zg Tryz.underlying304 Tryz.underlying256 abc aba h';intro i hi;rw[World.var?_cell Pa hT i];have:=KB i hi;simp[this]
 ·obtain ⟨ps,⟨g',t',cs,fuel,p,q,EK,ht',ag6,hd,_,_⟩,_⟩:=h'.tail;obtain rfl:=iY (Gb.symm.trans EK);obtain rfl:=iY (Zh.symm.trans ht');intro i hi;have hf:=aaF hd i hi;rw[World.var?_cell Gb ag6 (2*i),World.var?_cell Gb ag6 (2*i+1)];simpa using hf
