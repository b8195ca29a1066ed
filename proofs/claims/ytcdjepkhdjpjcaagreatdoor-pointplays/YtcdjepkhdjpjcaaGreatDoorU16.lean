import Derived.Test.YtcdjepkhdjpjcaaGreatDoorU15
set_option maxHeartbeats 20000000
set_option maxRecDepth 100000
namespace Go.Proofs.Zq.E
open Go.Proofs.Tryz
open Go.RowKit
open Go.Shelf
attribute [local go_sem] Oper.semAt_some
section
variable {F:Fence} {n:Nat} {P:Program} {ops:Array Oper} {rest:List Oper} {o:Oper} {a:Act} {w w':World} {Q:Exit->Act->World->Prop}
theorem ko{V V':World}(h:Below V.heap.size V V'):V.grownBy V' none:=⟨h.os,h.tape,h.output,h.size,fun k hk _=>h.block k hk⟩
theorem kj{V V':World}(h:Below V.heap.size V V')(B:Nat):KeepsFrom B V V':=⟨h.size,fun k _ _ hk _=>(h.block k (au.1 hk).1).trans hk⟩
theorem kL{β:Type}{B:Nat}{J:β->World->Prop}(h:OwnFrom B J){s:β}{V V':World}(hs:J s V)(hb:Below V.heap.size V V'):J s V':=h s V V' none hs (ko hb) (fun _ e=>by cases e)
theorem wK{β:Type}{B C:Nat}{J:β->World->Prop}(h:OwnFrom B J)(hb:B<=C):OwnFrom C J:=fun s V V' row hs hg hr=>h s V V' row hs hg fun r e=>⟨bJ hb (hr r e).1,(hr r e).2⟩
theorem pO{β:Type}(B k:Nat)(t:TypeId)(v:Value):OwnFrom B (fun (_:β) W=>Boxed W k t v):=Own.from (boxed_own k t (fun _=>v)) B
end
abbrev UT:={ x:Int // L.vG x }
theorem KD{F:Fence}{m:Nat}{P:Program}{l:Nat}{args:Array Value}{W:World}{R R':Ending->World->Prop}(h:YieldAt F m P l args W R)(hr:∀e w,R e w->R' e w):YieldAt F m P l args W R':=by
 obtain ⟨fn,tmps,assign,body,hy,hf,hR⟩:=h;exact⟨fn,tmps,assign,body,hy,hf,fun c cs hd=>by obtain ⟨e,w',h1,h2⟩:=hR c cs hd;exact⟨e,w',hr e w' h1,h2⟩⟩
theorem Ns(F:Fence)(n:Nat)(h7:F.fn 221)(vJ:F.round=none)(hn:1<=n)(B fJ:Nat)(Q:Nat)(v:Value)(m:Int)(zs:List Int)(hz:∀x∈zs,L.vG x)(i_:zs.length<=100000)(w iN:World)(hB:B<w.heap.size)(sY:fJ<=w.heap.size)(BV:Below fJ iN w)(BU:iN.heap.size=fJ)
  (hc:w.cell? ⟨B,0,none⟩=some (.pointer (some ⟨Q,0,none⟩))) (hS:mS 211 iN Q v zs m) :
  SeqStopsK F n prog 221 #[.pointer (some ⟨B,0,none⟩)] (fun x:UT=>#[Value.int .u64 x.1]) (Below fJ) (fun ys=>ys.map Subtype.val=zs) (fun pre=>pre.map Subtype.val <+: zs) zs.length w:=fun l J Jx W hW _ _ hY h0=>by
 have MH:=(hW.cell (p:=⟨B,0,none⟩) hB).trans hc;subst BU;have yD:Below iN.heap.size iN W:=BV.trans (hW.mono sY);have hQ:=hS.later yD;obtain ⟨q,c,rfl,hI,_⟩:=hQ.row.form;have ahr:∀us:List UT,us.map Subtype.val=zs->∃us:List UT,us.map Subtype.val=zs:=fun us h=>⟨us,h⟩
 by_cases hp:0<zs.length
 ·obtain ⟨b,off,rfl,hcs⟩:=hI.cells hp;refine (PN F n h7 vJ hn l B Q iN.heap.size b off zs.length c zs rfl (by omega) (hS.row.lt rfl) (fun pre V=>∃us:List UT,us.map Subtype.val=pre/\J us V) (fun pre V=>∃us:List UT,us.map Subtype.val=pre/\Jx us V) ?_ W MH hQ.c0 hcs ⟨[],rfl,h0⟩).mono ?_
  ·rintro pre x V hx ⟨us,rfl,hj⟩ hlen;refine KD (hY us ⟨x,hz x hx⟩ V hj (by simpa using hlen)) ?_;rintro e V' (⟨he,h1,h2⟩ | ⟨he,h1⟩)
   ·exact .inl ⟨he,⟨us++[⟨x,hz x hx⟩],by simp,h1⟩,h2⟩
   ·exact .inr ⟨he,us++[⟨x,hz x hx⟩],by simp,h1⟩
  ·rintro e V ⟨he,(⟨ys,rfl,us,h1,h2⟩ | ⟨pre,yt,us,h1,h2⟩)⟩
   ·exact⟨he,.inl ⟨us,h1,h2⟩⟩
   ·exact⟨he,.inr ⟨us,by show us.map Subtype.val <+: zs;rw[h1];exact yt,h2⟩⟩
 ·obtain rfl:zs=[]:=aZ (by omega);exact (xj F n h7 vJ l B Q q c (fun _ V=>J [] V) W MH hQ.c0 h0).mono fun e W' ⟨he,hj⟩=>⟨he,.inl ⟨[],rfl,hj⟩⟩
structure TV where
 t:Int
 p:Option Addr
 n:Nat
 c:Nat
abbrev TV.val (x:TV):Value:=.slice x.p x.n x.c
abbrev TV.two (x:TV):Int × Value:=(x.t,x.val)
def its (m:Int->Option Value)(zs:List Int):List (Int × Value):=zs.map fun t=>(t,(m t).getD gR)
structure KP (fJ:Nat) (W W':World):Prop where
 low:Below fJ W W'
 Kn:∀k v t,(t=34\/t=111\/t=280)->Boxed W k t v->Boxed W' k t v
theorem KP.trans{fJ:Nat}{A B C:World}(h:KP fJ A B)(k:KP fJ B C):KP fJ A C:=⟨h.low.trans k.low,fun i v t ht hb=>k.Kn i v t ht (h.Kn i v t ht hb)⟩
theorem KP.putObj{fJ:Nat}(W:World)(l:Nat)(o o':Obj)(hl:fJ<=l)(h:W.heap[l]?=some o)(hc:o.isCells=false):KP fJ W (W.putObj l o'):=by
 refine⟨⟨rfl,rfl,rfl,by simp,fun k hk=>World.putObj_heap_other (by omega)⟩,fun k v t _ hb=>?_⟩;refine (World.putObj_heap_other ?_).trans hb;rintro rfl;have xq:W.heap[k]?=some (.cells #[v] t (0,0)):=hb;rw[xq] at h;cases h;cases hc
theorem KP.below{fJ:Nat}{W W':World}(h:Below W.heap.size W W')(hn:fJ<=W.heap.size):KP fJ W W':=⟨h.mono hn,fun k _ _ _ hb=>(h.block k hb.lt).trans hb⟩
theorem Sz(m:Int->Option Value)(h:∀t v,m t=some v->∃p n c,v=.slice p n c)(t:Int):∃p n c,(m t).getD gR=.slice p n c:=by
 cases e:m t with
 | none=>exact⟨none,0,0,rfl⟩
 | some v=>exact h t v e
theorem Qa(n:Nat)(hn:3<=n){w0 w:World}{F:Ft}{k:Nat}{a:Ad}(h:PL w0 F k a)(hN:a.next<=1000)(m:Int->Option Value)(hm:tZ w0 F.mb k m)(Tf:∀t v,m t=some v->∃p n c,v=.slice p n c)(Bl:Nat)(hb:Below w0.heap.size w0 w)(hl:Boxed w Bl 34 (qp F.Q)) :
  Ke Fence.wide n prog 198 #[.pointer (some ⟨Bl,0,none⟩)] (fun x:TV=>#[.int .u64 x.t,x.val]) (KP w0.heap.size) (fun xs=>xs.map TV.two=its m (wt a.W)) (fun pre=>pre.map TV.two <+: its m (wt a.W)) (wt a.W).length w:=by
 intro l J Jx W hW hJ hJx hY h0;have hmo:prog.follows Departure.mixedOrders=true:=by kernel_rfl
 have h1n:1<=n:=by omega
 have ald:=hb.size;have aq0:=hW.size;have H:=zH h;have HM:=zH hm;have HS:Hid (∀t,∃p n c,(m t).getD gR=.slice p n c):=Sz m Tf;have YU:Hid (Below w0.heap.size w0 W):=hb.trans (hW.mono ald);have HlW:Hid (Boxed W Bl 34 (qp F.Q)):=(hW.block Bl hl.lt).trans hl;have hU:Hid (∀x∈wt a.W,L.vG x):=fun x hx=>by
  obtain ⟨y,hy,rfl⟩:=cF.1 hx;have h1:=h.ok.Ny y hy;have h2:=h.ok.vg;have e1:IntKind.u64.min=0:=by decide
  have e2:IntKind.u64.max=18446744073709551615:=by decide
  simp only[L.vG,Lit.wf,e1,e2,Bool.and_eq_true,gx];omega
 have hlen:(wt a.W).length<=1000:=by have:=h.ok.xA;simp only[wt,dI];omega
 clear h hm Tf hb hl;refine callsIn_of_wp_marks func198 rfl trivial ?_ rfl;simp only[ntmps198,aM,bz,dH,Nat.reduceAdd,Nat.reduceSub,dw,dn,dS,dF,bF,ct];have HlA:Hid (Boxed (W.alloc (.cells #[.func (.yield l) #[] #[]] 280)) Bl 34 (qp F.Q)):=HlW.out.alloc _;have HyA:Hid (Boxed (W.alloc (.cells #[.func (.yield l) #[] #[]] 280)) W.heap.size 280 (.func (.yield l) #[] #[])):=Boxed.new W 280 _;have HBA:Hid (Below w0.heap.size w0 (W.alloc (.cells #[.func (.yield l) #[] #[]] 280))):=YU.out.alloc (by omega) _;have HJA:Hid (J [] (W.alloc (.cells #[.func (.yield l) #[] #[]] 280))):=kL hJ h0 (ag W _);have hsA:(W.alloc (.cells #[.func (.yield l) #[] #[]] 280)).heap.size=W.heap.size+1:=by simp
 obtain ⟨WA,hWA⟩:=zE (W.alloc (.cells #[.func (.yield l) #[] #[]] 280));rw[hWA] at HlA HyA HBA HJA hsA;have cl:=HlA.out.cell;have c6:WA.cell? ⟨F.Q,6,none⟩=some (qp F.q1):=(H.out.later HBA.out).c 6;gi_wp2_with (first | (rw[hWA];skip) | (refine⟨trivial,?_⟩;gi_at_call 199;refine (iR.2 (Gs _ _)).mono ?_;rintro e w' ⟨rfl,rfl⟩))
 clear hWA cl c6;have bB:Hid (Boxed (WA.alloc (.cells #[qp F.q1] 111)) WA.heap.size 111 (qp F.q1)):=Boxed.new WA 111 _;have jb:=ag WA (.cells #[qp F.q1] 111);have bL:Hid (Boxed (WA.alloc (.cells #[qp F.q1] 111)) Bl 34 (qp F.Q)):=HlA.out.alloc _;have bY:Hid (Boxed (WA.alloc (.cells #[qp F.q1] 111)) W.heap.size 280 (.func (.yield l) #[] #[])):=HyA.out.alloc _;have hJ2:Hid (J [] (WA.alloc (.cells #[qp F.q1] 111))):=kL hJ HJA.out jb;have hB2:Hid (Below w0.heap.size w0 (WA.alloc (.cells #[qp F.q1] 111))):=HBA.out.trans (jb.mono HBA.out.size);have sV:(WA.alloc (.cells #[qp F.q1] 111)).heap.size=W.heap.size+2:=by simp;exact hsA
 clear jb HlA HyA HBA HJA;obtain ⟨W2,hW2⟩:=zE (WA.alloc (.cells #[qp F.q1] 111));rw[hW2] at bB bL bY hJ2 hB2 sV ⊢;rw[hsA] at bB;clear hW2;refine wpIn_rangeFunc_ownG (F:=Fence.wide) (n:=n) (P:=prog) rfl h1n (gf:=221) (lb:=#[.pointer (some ⟨W.heap.size+1,0,none⟩)]) rfl trivial (enters_of func221 (by kernel_rfl) rfl)
  (Ns Fence.wide (n-1) trivial rfl (by omega) (W.heap.size+1) w0.heap.size F.q1 F.v1 (a.next-1) (wt a.W) hU.out (by omega) W2 w0 (by omega) (by omega) hB2.out rfl bB.out.cell H.out.l1) belowK_t (belowK_b (by omega)) (aV _ _) (fun _=>rfl)
  (fun pre V=>(∃xs:List TV,xs.map TV.two=its m (pre.map Subtype.val)/\J xs V)/\(Below w0.heap.size w0 V/\(Boxed V Bl 34 (qp F.Q)/\Boxed V W.heap.size 280 (.func (.yield l) #[] #[]))))
  (fun c pre V=>c=.ret/\∃xs:List TV,xs.map TV.two=its m (pre.map Subtype.val)/\Jx xs V)
  ?hI ?hIx ⟨⟨[],rfl,hJ2.out⟩,hB2.out,bL.out,bY.out⟩
  (fun x=>{ tmps:=#[.func (.yield l) #[] #[],.pointer (some ⟨Bl,0,none⟩),.pointer (some ⟨W.heap.size,0,none⟩),.int .u64 x.1,qp F.Q,.bool false,qp F.Q,qp F.Q,.pointer (some ⟨F.Q,6,none⟩),qp F.q1,uH (W.heap.size+1),.int .u64 x.1,undef,undef,undef,undef,undef,undef,undef,undef,undef,undef],defers:=[] }) ?assign ?body ?done ?stop
 case hI =>
  refine OwnFrom.and (fun s V V' row hs hg hr=>?_) (OwnFrom.and (ownFrom_below (az _) (by omega)) (OwnFrom.and (pO _ _ _ _) (pO _ _ _ _)));obtain ⟨xs,h1,h2⟩:=hs;exact⟨xs,h1,wK hJ (by omega) xs V V' row h2 hg hr⟩
 case hIx =>
  rintro c s V V' row ⟨hc,xs,h1,h2⟩ hg hr;exact⟨hc,xs,h1,wK hJx (by omega) _ V V' row h2 hg hr⟩
 case assign =>
  intro l1 x V K hK;gi_wp2;exact hK
 case body =>
  rintro l1 pre u V ⟨⟨xs,Mz,Ak⟩,hBV,cL,cY⟩ eP;have aox:xs.length=pre.length:=by have:=congrArg List.length Mz;simpa [its] using this
  have CJ:=zH Mz;have HBV:=zH hBV;have HcL:=zH cL;have HcY:=zH cY;obtain ⟨p,nn,cc,hv⟩:=HS.out u.1;have kl:V.drew.cell? ⟨Bl,0,none⟩=some (qp F.Q):=cL.cell;have ky:V.drew.cell? ⟨W.heap.size,0,none⟩=some (.func (.yield l) #[] #[]):=cY.cell;have k8:V.drew.cell? ⟨F.Q,8,none⟩=some (.map (some F.mb)):=(H.out.later hBV).c 8;have OT:=((HM.out.kept (hBV.block _ HM.out.lt)).kept (w':=V.drew) rfl).nB u.2;rw[hv] at OT;have HV:=zH hv;have Wv:Below V.heap.size V V.drew:=(aV _ V).drew;obtain ⟨fn,tmps,assign,body,hy,hR⟩:=KE (F:=Fence.wide) rfl (n-1-1-1) l1 (hY xs ⟨u.1,p,nn,cc⟩ V.drew (kL hJ Ak Wv) (by omega));dsimp only at hy;clear Mz Ak hBV cL cY hv hY;gi_wp2_with fail;refine wpIn_mono (Q:=fun e' a' V'=>e'=.normal/\∃b:Bool,a'={ tmps:=#[.func (.yield l) #[] #[],.pointer (some ⟨Bl,0,none⟩),.pointer (some ⟨W.heap.size,0,none⟩),.int .u64 u.1,qp F.Q,.bool false,qp F.Q,qp F.Q,.pointer (some ⟨F.Q,6,none⟩),qp F.q1,uH (W.heap.size+1),.int .u64 u.1,.func (.yield l) #[] #[],.int .u64 u.1,qp F.Q,qp F.Q,.pointer (some ⟨F.Q,8,none⟩),.map (some F.mb),.int .u64 u.1,.slice p nn cc,.bool b,.bool (!b)],defers:=[] }/\Hid (KeepsFrom W.heap.size V.drew V'/\((b=true/\J (xs++[⟨u.1,p,nn,cc⟩]) V'/\KP w0.heap.size V.drew V')\/(b=false/\Jx (xs++[⟨u.1,p,nn,cc⟩]) V')))) ?cut ?rest
  case cut =>
   refine Fg V 4 Bl W.heap.size F.Q F.mb (.func (.yield l) #[] #[]) u.1 p nn cc _ _ _ _ _ _ _ _ _ V.drew rfl kl ky k8 OT ?_;refine wpAnyIn_ready (rs:=[8]) (by kernel_rfl) (by simp) ?_;refine AllReadyIn.cons rfl (fun Kc aJ=>?_) AllReadyIn.nil;go_simp;refine⟨fun _=>by omega,hR.mono ?_⟩;rintro e' V3 OO;obtain ⟨b,rfl,HP⟩:∃b:Bool,e'=.returned (.bool b)/\Hid (KeepsFrom W.heap.size V.drew V3/\((b=true/\J (xs++[⟨u.1,p,nn,cc⟩]) V3/\KP w0.heap.size V.drew V3)\/(b=false/\Jx (xs++[⟨u.1,p,nn,cc⟩]) V3))):=OO.2.elim (fun ⟨he,h1,h2⟩=>⟨true,he,OO.1,.inl ⟨rfl,h1,h2⟩⟩) (fun ⟨he,h1⟩=>⟨false,he,OO.1,.inr ⟨rfl,h1⟩⟩);clear OO;refine aJ _ _ ?_;clear aJ Kc;refine wpAnyIn_ready (rs:=[9]) (by kernel_rfl) (by simp) ?_;refine AllReadyIn.cons rfl (fun Kc aJ=>?_) AllReadyIn.nil;go_simp;refine aJ _ _ ?_;refine wpAnyIn_done (by kernel_rfl) ?_ _;exact⟨rfl,b,rfl,HP⟩
  case rest =>
   rintro e' a' V3 ⟨rfl,b,rfl,HP⟩;clear hR hy OT kl ky k8;have HF:Hid (KeepsFrom (W.heap.size+2) V V3):=(kj Wv _).trans (uQ HP.out.1 (by omega));have HI0:Hid ((xs++[(⟨u.1,p,nn,cc⟩:TV)]).map TV.two=its m ((pre++[u]).map Subtype.val)):=by
    show _=_;rw[cZ,cZ,its,cZ,CJ.out];simp only[l_,List.map_nil,HV.out];rfl
   cases b with
   | true =>
    obtain ⟨_,(⟨_,Tl,aav⟩ | ⟨hc,_⟩)⟩:=HP.out
    ·have HQ:Hid (Below w0.heap.size V V3):=(Wv.mono HBV.out.size).trans aav.low;have HI:Hid ((∃ys:List TV,ys.map TV.two=its m ((pre++[u]).map Subtype.val)/\J ys V3)/\(Below w0.heap.size w0 V3/\(Boxed V3 Bl 34 (qp F.Q)/\Boxed V3 W.heap.size 280 (.func (.yield l) #[] #[])))) :=
      ⟨⟨_,HI0.out,Tl⟩,HBV.out.trans HQ.out,aav.Kn _ _ _ (.inl rfl) ((Wv.block _ HcL.out.lt).trans HcL.out),aav.Kn _ _ _ (.inr (.inr rfl)) ((Wv.block _ HcY.out.lt).trans HcY.out)⟩
     clear Tl aav;gi_wp2;exact⟨HF.out,HQ.out,HI.out⟩
    ·cases hc
   | false =>
    obtain ⟨_,(⟨hc,_⟩ | ⟨_,zy⟩)⟩:=HP.out
    ·cases hc
    ·have HX:=zH zy;clear zy;gi_wp2;exact⟨HF.out,rfl,_,HI0.out,HX.out⟩
 case done =>
  rintro D ys V hD hS ⟨⟨xs,Mz,Ak⟩,hBV,cL,cY⟩ hK;have HA:Hid (xs.map TV.two=its m (wt a.W)):=by show _=_;rw[Mz,hS]
  have HJV:Hid (J xs (V.putObj D (.deferred none))):=(wK hJ (show W.heap.size<=W2.heap.size by omega)).putObj _ Ak hD hK rfl;clear Mz Ak hBV cL cY;gi_wp2;refine⟨by simp,.inl ⟨_,_,rfl,run_takeDeferred hK,?_⟩⟩;exact⟨_,kF rfl _ _ _,⟨_,rfl⟩,.inl ⟨xs,HA.out,HJV.out⟩⟩
 case stop =>
  rintro D c pre V hD yt ⟨rfl,xs,Mz,Ak⟩ hK;have HA:Hid (xs.map TV.two <+: its m (wt a.W)):=by show _ <+: _;rw[Mz];exact yt.map _
  have HJV:Hid (Jx xs (V.putObj D (.deferred none))):=(wK hJx (show W.heap.size<=W2.heap.size by omega)).putObj _ Ak hD hK rfl;clear Mz Ak;gi_wp2;refine⟨by simp,.inl ⟨_,_,rfl,run_takeDeferred hK,?_⟩⟩;exact⟨_,kF rfl _ _ _,⟨_,rfl⟩,.inr ⟨xs,HA.out,HJV.out⟩⟩
end Go.Proofs.Zq.E
namespace Go.Proofs.Zq.E
open Go.Proofs.Tryz
open Go.RowKit
open Go.Shelf
attribute [local go_sem] Oper.semAt_some
abbrev amK:TV->Array Value:=fun x=>#[.int .u64 x.t,x.val]
def Sq (w:World)(lp:Option Addr)(S Sp:List TV->Prop)(N:Nat):Prop:=∀Bl W,Below w.heap.size w W->Boxed W Bl 34 (.pointer lp)->Ke Fence.wide 8 prog 198 #[.pointer (some ⟨Bl,0,none⟩)] amK (KP w.heap.size) S Sp N W
theorem PL.sq{w:World}{F:Ft}{k:Nat}{a:Ad}(h:PL w F k a)(hN:a.next<=1000)(m:Int->Option Value)(hm:tZ w F.mb k m)(Tf:∀t v,m t=some v->∃p n c,v=.slice p n c) :
  Sq w (some ⟨F.Q,0,none⟩) (fun xs=>xs.map TV.two=its m (wt a.W)) (fun pre=>pre.map TV.two <+: its m (wt a.W)) (wt a.W).length:=fun Bl W hb hl=>Qa 8 (by decide) h hN m hm Tf Bl hb hl
theorem Hf(p:Option Addr)(w:World) :
  Calls prog 153 #[.pointer p] w fun e w'=>e=.returned (.func (.func 198) #[] #[.pointer (some ⟨w.heap.size,0,none⟩)])/\w'=w.alloc (.cells #[.pointer p] 34):=by
 go_enter func153,ntmps153;go_wp2;go_ret;exact⟨rfl,rfl⟩
theorem uw{fn:Func}{p u q:Tmp}(h:fn.results=#[.cell p 52,.cell u 59,.cell q 4])(tmps:Array Value)(w:World)(g1 g2 g3:Nat)(v1 v2 v3:Value)
  (h1:tmps.getD p undef=.pointer (some ⟨g1,0,none⟩)) (h2:tmps.getD u undef=.pointer (some ⟨g2,0,none⟩)) (h3:tmps.getD q undef=.pointer (some ⟨g3,0,none⟩)) (c1:w.cell? ⟨g1,0,none⟩=some v1) (c2:w.cell? ⟨g2,0,none⟩=some v2) (c3:w.cell? ⟨g3,0,none⟩=some v3) :
  (results fn tmps).run prog w=.ok (.tuple #[v1,v2,v3]) w:=by
 rw[Array.getD_eq_getD_getElem?] at h1 h2 h3;simp only[results,h];simp[Sem.run_bind,Result.andThen,h1,h2,h3,loadVar,isAgg,asAddr,go_sem,c1,c2,c3]
theorem Cx{w V:World}(hB:Below w.heap.size w V){a b c:Nat}(ha:w.heap.size<=a)(hb:w.heap.size<=b)(hc:w.heap.size<=c)(x y z:Value):Below w.heap.size w (((V.setCell ⟨a,0,none⟩ x).setCell ⟨b,0,none⟩ y).setCell ⟨c,0,none⟩ z) :=
 ((hB.setCell (p:=⟨a,0,none⟩) (by simpa using ha) x).setCell (p:=⟨b,0,none⟩) (by simpa using hb) y).setCell (p:=⟨c,0,none⟩) (by simpa using hc) z
theorem Mn(B:Nat)(V:World)(a b c:Nat)(x y z:Value):KeepsFrom B V (((V.setCell ⟨a,0,none⟩ x).setCell ⟨b,0,none⟩ y).setCell ⟨c,0,none⟩ z):=(((KeepsOthers.setCell _ _ _).trans (KeepsOthers.setCell _ _ _)).trans (KeepsOthers.setCell _ _ _)).from _
theorem RM{w:World}{lp:Option Addr}{S Sp:List TV->Prop}{N:Nat}(h:Sq w lp S Sp N) :
  Calls prog 88 #[.pointer lp] w fun e w'=>Below w.heap.size w w'/\((S []/\e=.returned (.tuple #[.int .u64 0,gR,.bool false]))\/∃x:TV,Sp [x]/\e=.returned (.tuple #[.int .u64 x.t,x.val,.bool true])):=by
 refine (iR (n:=9)).1 ?_;refine callsIn_of_wp_marks func88 rfl trivial ?_ rfl;simp only[ntmps88,aM,bz,dH,Nat.reduceAdd,Nat.reduceSub,dw,dn,dS,dF,bF,ct];gi_wp2_with (refine⟨trivial,?_⟩;gi_at_call 153;refine (iR.2 (Hf _ _)).mono ?_;rintro e w' ⟨rfl,rfl⟩)
 have b1:Hid (Boxed ((((w.alloc (.cells #[.int .u64 0] 52)).alloc (.cells #[gR] 59)).alloc (.cells #[.bool false] 4)).alloc (.cells #[.pointer lp] 34)) w.heap.size 52 (.int .u64 0)):=(((Boxed.new w 52 (.int .u64 0)).alloc _).alloc _).alloc _;have b2:Hid (Boxed ((((w.alloc (.cells #[.int .u64 0] 52)).alloc (.cells #[gR] 59)).alloc (.cells #[.bool false] 4)).alloc (.cells #[.pointer lp] 34)) (w.heap.size+1) 59 gR):=by
  have:=((Boxed.new (w.alloc (.cells #[.int .u64 0] 52)) 59 gR).alloc (.cells #[.bool false] 4)).alloc (.cells #[.pointer lp] 34)
  rwa [a_] at this
 have b3:Hid (Boxed ((((w.alloc (.cells #[.int .u64 0] 52)).alloc (.cells #[gR] 59)).alloc (.cells #[.bool false] 4)).alloc (.cells #[.pointer lp] 34)) (w.heap.size+1+1) 4 (.bool false)):=by
  have:=(Boxed.new ((w.alloc (.cells #[.int .u64 0] 52)).alloc (.cells #[gR] 59)) 4 (.bool false)).alloc (.cells #[.pointer lp] 34)
  rwa [a_,a_] at this
 have b4:Hid (Boxed ((((w.alloc (.cells #[.int .u64 0] 52)).alloc (.cells #[gR] 59)).alloc (.cells #[.bool false] 4)).alloc (.cells #[.pointer lp] 34)) (w.heap.size+1+1+1) 34 (.pointer lp)):=by
  have:=Boxed.new (((w.alloc (.cells #[.int .u64 0] 52)).alloc (.cells #[gR] 59)).alloc (.cells #[.bool false] 4)) 34 (.pointer lp)
  rwa [a_,a_,a_] at this
 have Tn:Hid (Below w.heap.size w ((((w.alloc (.cells #[.int .u64 0] 52)).alloc (.cells #[gR] 59)).alloc (.cells #[.bool false] 4)).alloc (.cells #[.pointer lp] 34))):=((((aV w.heap.size w).alloc (az _) _).alloc (by simp) _).alloc (by simp;omega) _).alloc (by simp;omega) _;have nV:((((w.alloc (.cells #[.int .u64 0] 52)).alloc (.cells #[gR] 59)).alloc (.cells #[.bool false] 4)).alloc (.cells #[.pointer lp] 34)).heap.size=w.heap.size+4:=by simp
 obtain ⟨W0,RH⟩:=zE (((((w.alloc (.cells #[.int .u64 0] 52)).alloc (.cells #[gR] 59)).alloc (.cells #[.bool false] 4)).alloc (.cells #[.pointer lp] 34)));rw[RH] at b1 b2 b3 b4 Tn nV ⊢;clear RH;refine wF (F:=Fence.wide) (n:=9) (P:=prog) rfl (by decide) (gf:=198) (lb:=#[.pointer (some ⟨w.heap.size+1+1+1,0,none⟩)]) rfl trivial (enters_of func198 (by kernel_rfl) rfl)
  (h (w.heap.size+1+1+1) W0 Tn.out b4.out) KP.trans (fun W l o o' hl h hc=>KP.putObj W l o o' (by omega) h hc) (aV _ _) (fun _=>rfl)
  (fun pre W=>pre=[]/\(Boxed W w.heap.size 52 (.int .u64 0)/\(Boxed W (w.heap.size+1) 59 gR/\(Boxed W (w.heap.size+1+1) 4 (.bool false)/\Below w.heap.size w W))))
  (fun c pre W=>c=.ret/\∃x:TV,pre=[x]/\(Boxed W w.heap.size 52 (.int .u64 x.t)/\(Boxed W (w.heap.size+1) 59 x.val/\(Boxed W (w.heap.size+1+1) 4 (.bool true)/\Below w.heap.size w W))))
  ?hI ?hIx ⟨rfl,b1.out,b2.out,b3.out,Tn.out⟩
  (fun x a' W=>a'={ tmps:=#[.pointer lp,undef,.pointer (some ⟨w.heap.size,0,none⟩),.pointer (some ⟨w.heap.size+1,0,none⟩),.pointer (some ⟨w.heap.size+1+1,0,none⟩),.int .u64 x.t,x.val,.pointer lp,.func (.func 198) #[] #[.pointer (some ⟨w.heap.size+1+1+1,0,none⟩)],.int .u64 x.t,x.val,undef,undef],defers:=[] })
  (fun x a'=>ownFrom_pure _ _) ?assign ?body ?done ?stop
 case hI =>
  exact OwnFrom.and (ownFrom_pure _ _) (OwnFrom.and (pO _ _ _ _) (OwnFrom.and (pO _ _ _ _) (OwnFrom.and (pO _ _ _ _) (ownFrom_below (az _) (by omega)))))
 case hIx =>
  rintro c s V V' row ⟨hc,x,h0,h1,h2,h3,h4⟩ hg hr;exact⟨hc,x,h0,pO (β:=Unit) _ _ _ _ () V V' row h1 hg hr,pO (β:=Unit) _ _ _ _ () V V' row h2 hg hr,pO (β:=Unit) _ _ _ _ () V V' row h3 hg hr,ownFrom_below (β:=Unit) (az _) (show w.heap.size<=W0.heap.size by omega) () V V' row h4 hg hr⟩
 case assign =>
  rintro l1 pre x V K hI hK;have HI:=zH hI;clear hI;gi_wp2;exact hK _ _ ((KeepsOthers.refl V).from _) (KP.below (aV _ _) HI.out.2.2.2.2.size) HI.out rfl
 case body =>
  rintro l1 pre x a' V ⟨rfl,h1,h2,h3,h4⟩ rfl eP;have H1:=zH h1;have H2:=zH h2;have H3:=zH h3;have H4:=zH h4;have c1:=h1.cell;have f1:=h1.frozen;have e2:=(h2.other (show w.heap.size+1≠w.heap.size by omega) (.int .u64 x.t))
  have c2:=e2.cell;have f2:=e2.frozen;have e3:=(h3.other (show w.heap.size+1+1≠w.heap.size by omega) (.int .u64 x.t)).other (show w.heap.size+1+1≠w.heap.size+1 by omega) x.val;have c3:=e3.cell;have f3:=e3.frozen;clear h1 h2 h3 h4;have HX:Hid (∃y:TV,[]++[x]=[y]/\(Boxed (((V.setCell ⟨w.heap.size,0,none⟩ (.int .u64 x.t)).setCell ⟨w.heap.size+1,0,none⟩ x.val).setCell ⟨w.heap.size+1+1,0,none⟩ (.bool true)) w.heap.size 52 (.int .u64 y.t)/\(Boxed (((V.setCell ⟨w.heap.size,0,none⟩ (.int .u64 x.t)).setCell ⟨w.heap.size+1,0,none⟩ x.val).setCell ⟨w.heap.size+1+1,0,none⟩ (.bool true)) (w.heap.size+1) 59 y.val/\(Boxed (((V.setCell ⟨w.heap.size,0,none⟩ (.int .u64 x.t)).setCell ⟨w.heap.size+1,0,none⟩ x.val).setCell ⟨w.heap.size+1+1,0,none⟩ (.bool true)) (w.heap.size+1+1) 4 (.bool true)/\Below w.heap.size w (((V.setCell ⟨w.heap.size,0,none⟩ (.int .u64 x.t)).setCell ⟨w.heap.size+1,0,none⟩ x.val).setCell ⟨w.heap.size+1+1,0,none⟩ (.bool true)))))) :=
   ⟨x,rfl,((H1.out.set _).other (by omega) _).other (by omega) _,(e2.set _).other (by omega) _,e3.set _,Cx H4.out (az _) (by omega) (by omega) _ _ _⟩
  clear e2 e3;gi_wp2;exact⟨Mn _ _ _ _ _ _ _ _,rfl,HX.out⟩
 case done =>
  rintro Dd ys V hD hS ⟨rfl,h1,h2,h3,h4⟩ hK;have H1:=zH h1;have H4:=zH h4;have HS:=zH hS;have c1:=h1.cell;have f1:=h1.frozen;have e2:=(h2.other (show w.heap.size+1≠w.heap.size by omega) (.int .u64 0))
  have c2:=e2.cell;have f2:=e2.frozen;have e3:=(h3.other (show w.heap.size+1+1≠w.heap.size by omega) (.int .u64 0)).other (show w.heap.size+1+1≠w.heap.size+1 by omega) gR;have c3:=e3.cell;have f3:=e3.frozen;have E2:Hid (_):=(e2.set gR).other (show w.heap.size+1≠w.heap.size+1+1 by omega) (.bool false);have E1:Hid (_):=((H1.out.set (.int .u64 0)).other (show w.heap.size≠w.heap.size+1 by omega) gR).other (show w.heap.size≠w.heap.size+1+1 by omega) (.bool false);have E3:Hid (_):=e3.set (.bool false);clear h1 h2 h3 h4 hS e2 e3;gi_wp2;have hK2:=(((KeepsOthers.setCell V ⟨w.heap.size,0,none⟩ (.int .u64 0)).trans (KeepsOthers.setCell _ ⟨w.heap.size+1,0,none⟩ gR)).trans (KeepsOthers.setCell _ ⟨w.heap.size+1+1,0,none⟩ (.bool false))).same Dd _ hK rfl;have b6:=Cx H4.out (az _) (show w.heap.size<=w.heap.size+1 by omega) (show w.heap.size<=w.heap.size+1+1 by omega) (.int .u64 0) gR (.bool false);refine⟨by simp,.inl ⟨_,_,rfl,run_takeDeferred hK2,?_⟩⟩;refine⟨_,uw results88 _ _ w.heap.size (w.heap.size+1) (w.heap.size+1+1) _ _ _ (by rfl) (by rfl) (by rfl) (Boxed.cell ((World.putObj_heap_other (by omega)).trans E1.out)) (Boxed.cell ((World.putObj_heap_other (by omega)).trans E2.out)) (Boxed.cell ((World.putObj_heap_other (by omega)).trans E3.out)),b6.trans (belowK_b (w:=w) (az _) _ Dd _ _ (by omega) hK2 rfl rfl),.inl ⟨HS.out,rfl⟩⟩
 case stop =>
  rintro Dd c pre V hD yt ⟨rfl,x,rfl,h1,h2,h3,h4⟩ hK;have HS:=zH yt;have H1:=zH h1;have H2:=zH h2;have H3:=zH h3;have H4:=zH h4;clear h1 h2 h3 h4 yt;gi_wp2;refine⟨by simp,.inl ⟨_,_,rfl,run_takeDeferred hK,?_⟩⟩;refine⟨_,uw results88 _ _ w.heap.size (w.heap.size+1) (w.heap.size+1+1) _ _ _ (by rfl) (by rfl) (by rfl) (Boxed.cell ((World.putObj_heap_other (by omega)).trans H1.out)) (Boxed.cell ((World.putObj_heap_other (by omega)).trans H2.out)) (Boxed.cell ((World.putObj_heap_other (by omega)).trans H3.out)),H4.out.trans (belowK_b (w:=w) (az _) _ Dd _ _ (by omega) hK rfl rfl),.inr ⟨x,HS.out,rfl⟩⟩
end Go.Proofs.Zq.E
namespace Go.Proofs.Zq.E
open Go.Proofs.Tryz
open Go.RowKit
open Go.Shelf
attribute [local go_sem] Oper.semAt_some
section
variable {w:World} {F:Ft} {n:Nat} {a:Ad}
theorem th(h:PL w F n a)(hN:a.next<=1000):Calls prog 88 #[qp F.Q] w fun e w'=>∃v,e=.returned (.tuple #[.int .u64 a.fT,v,.bool a.Af])/\ow w' v a.fF/\Below w.heap.size w w':=by
 obtain ⟨m,hm,hs,hf⟩:=h.fm;refine (RM (h.sq hN m hm hs)).mono ?_;rintro e w' ⟨hb,(⟨hS,rfl⟩ | ⟨x,hS,rfl⟩)⟩
 ·have hW:a.W=[]:=by
   have:=congrArg List.length hS;simp only[its,wt,dI,dH] at this;exact aZ this.symm
  refine⟨gR,?_,?_,hb⟩
  ·simp[Ad.fT,Ad.Af,hW]
  ·simp only[Ad.fF,hW];exact ow.nil w'
 ·cases hW:a.W with
  | nil=>rw[hW] at hS;simp[its,wt] at hS
  | cons y r =>
   rw[hW] at hS;simp only[its,wt,l_,List.map_nil,List.cons_prefix_cons,List.nil_prefix,gJ] at hS;obtain ⟨v,hv,uY,_⟩:=hf y (by simp[Ad.fl,hW]);rw[hv] at hS;simp only[kT,TV.two,gS] at hS;refine⟨x.val,?_,?_,hb⟩
   ·simp[Ad.fT,Ad.Af,hW,hS.1]
   ·simp only[Ad.fF,hW];rw[hS.2];exact uY.later hb
theorem MZ(w:World):Calls prog 87 #[gR] w fun e w'=>e=.returned gR/\w'=w:=by
 have hnn:∀w:World,(binOp BinOp.eql 59 (.slice none 0 0) (.slice none 0 0)).run prog w=.ok (.bool true) w:=fun w=>by kernel_rfl
 go_enter func87,ntmps87;go_wp2;go_ret;exact⟨rfl,rfl⟩
theorem RS(w:World):(w.alloc (.cells #[] 3)).ownsRow w.heap.size 3 1 (.slice (some ⟨w.heap.size,0,none⟩) 0 0) 0 []:=⟨rfl,.inr ⟨w.heap.size,0,#[],rfl,az _,aG w _,az _,aI _,rfl,rfl⟩⟩
theorem yJ{v:Value}{f:List Int}(h:ow w v f)(hf:f.length<=100):Calls prog 87 #[v] w fun e w'=>∃q d,e=.returned (.slice q f.length d)/\B.Made w w' q f.length d f:=by
 obtain ⟨p,c,rfl,hI,hfc,GD⟩:=h.read;clear h;cases p with
 | none =>
  obtain rfl:=GD rfl;obtain rfl:f=[]:=aZ (by omega);refine (MZ w).mono ?_;rintro e w' ⟨rfl,rfl⟩;exact⟨none,0,rfl,B.ld _ (aV _ _)⟩
 | some ad =>
  obtain ⟨i0,hi,ij,gm,iL⟩:=cj OH;have hml:100<=maxLen:=by decide
  have HI:=zH hI;clear hI;have hnn:∀w:World,(binOp BinOp.eql 59 (.slice (some ad) f.length c) (.slice none 0 0)).run prog w=.ok (.bool false) w:=fun w=>by kernel_rfl
  go_enter func87,ntmps87;go_wp2_with (at_builtin;(refine B.vP _ rfl (.tmp 5) (.tmp 6) 59 rfl w.heap.size 3 i0 (.int .i64 0) 8 mG hi ij gm iL rfl (.slice (some ⟨w.heap.size,0,none⟩) 0 0) 0 [] rfl (RS w) (some ad) f.length c (o_ f) rfl GD hfc (by simp) ((HI.out.later (ag w _)).ZZ) (B.Vh f) (by omega) (by omega) (by simp) ?_;intro v2 w2 r2 k2;have R2:Hid (w2.ownsRow w.heap.size 3 1 v2 f.length (o_ f)/\(w.alloc (.cells #[] 3)).grownBy w2 (some w.heap.size)):=⟨by simpa using r2,k2⟩;clear r2 k2))
  go_ret;have hb:Below w.heap.size w w2:=(L.Kept.sM R2.out.2).uR (ag w _) (fun b hb e=>by omega) (az _);obtain ⟨q,d,rfl,hm⟩:=B.pQ R2.out.1 hb;exact⟨q,d,rfl,hm⟩
theorem Ad.Ok.jq{a:Ad}(h:a.Ok):a.fF.length<=16:=by
 unfold Ad.fF;cases hW:a.W with
 | nil=>simp
 | cons x r =>
  have h1:=h.vQ x (by rw[hW];exact bS ..);have h2:=h.may.2.2.2.2.2.1;show x.2.length<=16;omega
theorem Yp(h:PL w F n a)(hN:a.next<=1000):Calls prog 148 #[qp F.Q] w fun e w'=>∃q d,e=.returned (.tuple #[.int .u64 a.fT,.slice q a.fF.length d,.bool a.Af])/\B.Made w w' q a.fF.length d a.fF:=by
 have hl:=h.ok.jq;go_enter func148,ntmps148;go_wp2_with (first | (go_at_call 88;refine (th h hN).mono ?_;rintro e w1 ⟨v,rfl,uY,hb⟩;have HF:=rf uY hb;clear uY hb h) | (go_at_call 87;refine (yJ HF.out.1 (by omega)).mono ?_;rintro e w2 ⟨q,d,rfl,hm⟩;have HM:=zH hm;clear hm))
 go_ret3;exact⟨q,d,rfl,eH HM.out.own HF.out.2.size,ah HF.out.2 HM.out.below⟩
theorem oJ(p:Option Addr)(n c:Nat)(hn:n<=1000)(w:World):Calls prog 90 #[.slice p n c] w fun e w'=>e=.returned (.int .i64 ((n:Int)+1))/\w'=w:=by
 have hw:IntKind.i64.wrap ((n:Int)+1)=(n:Int)+1:=by rw[aY];omega
 go_enter func90,ntmps90;go_wp2;go_ret;exact⟨rfl,rfl⟩
theorem Fe(h:PL w F n a):Calls prog 23 #[qp F.Q] w fun e w'=>e=.returned (.int .i64 a.used)/\w'=w:=by
 have c9:w.cell? ⟨F.Q,9,none⟩=some (qp F.lb):=h.c 9;have HL:=zH h.rm;clear h;go_enter func23,ntmps23;go_wp2_with (go_at_call 53;refine (L.Fe HL.out).mono ?_;rintro e w' ⟨rfl,rfl⟩)
 go_ret;exact⟨rfl,rfl⟩
theorem sI(h:PL w F n a):Calls prog 137 #[qp F.Q] w fun e w'=>e=.returned (.int .i64 a.Fp)/\w'=w:=by
 have c9:w.cell? ⟨F.Q,9,none⟩=some (qp F.lb):=h.c 9;have HL:=zH h.rm;clear h;go_enter func137,ntmps137;go_wp2_with (go_at_call 189;refine (L.sI HL.out).mono ?_;rintro e w' ⟨rfl,rfl⟩)
 go_ret;exact⟨rfl,rfl⟩
theorem left_at(h:PL w F n a){t:Int}(ht:L.vG t):Calls prog 94 #[qp F.Q,.int .u64 t] w fun e w'=>e=.returned (.tuple #[.int .i64 (a.BM t),.bool (a.yW t)])/\w'=w:=by
 have c9:w.cell? ⟨F.Q,9,none⟩=some (qp F.lb):=h.c 9;have HL:=zH h.rm;have e1:(L.look t a.lg.L).getD 0=a.BM t:=by show (L.look t (dg a.I)).getD 0=_;rw[gZ];rfl
 have e2:(L.look t a.lg.L).isSome=a.yW t:=by show (L.look t (dg a.I)).isSome=_;rw[gZ];simp[Ad.yW]
 have HC:=L.left_at HL.out ht;rw[e1,e2] at HC;clear h HL e1 e2;generalize a.BM t=x at *;generalize a.yW t=y at *;have Tw:=zH HC;clear HC;go_enter func94,ntmps94;go_wp2_with (go_at_call 161;refine Tw.out.mono ?_;rintro e w' ⟨rfl,rfl⟩)
 go_ret2;exact⟨rfl,rfl⟩
theorem Gf{a:Ad}(hW:a.Af=true):L.nW a.lg ((a.fF.length:Int)+1)=a.fits:=by
 unfold L.nW Ad.fits;cases hc:a.W with
 | nil=>simp[Ad.Af,hc] at hW
 | cons x r =>
  have e1:a.fF=x.2:=by simp[Ad.fF,hc]
  have e2:L.total a.lg.L=a.Fp:=rfl;have e3:a.lg.used=a.used:=rfl;have e4:a.lg.cap=a.lc:=rfl;rw[e1,e2,e3,e4];show decide _=decide _
  congr 1
  exact propext ⟨fun h=>by omega,fun h=>by omega⟩
theorem WN{a:Ad}(hW:a.Af=false):a.fits=false:=by
 cases hc:a.W with
 | nil=>simp[Ad.fits,hc]
 | cons x r=>simp[Ad.Af,hc] at hW
theorem tX(h:PL w F n a)(hN:a.next<=1000):Calls prog 149 #[qp F.Q] w fun e w'=>e=.returned (.bool a.fits)/\Below w.heap.size w w':=by
 have hl:=h.ok.jq;have HO:Hid a.Ok:=h.ok;have H:=zH h;clear h;go_enter func149,ntmps149;go_wp2_with fail;refine (th H.out hN).mono ?_;rintro e w1 ⟨v,rfl,uY,hb⟩;obtain ⟨p,c,rfl,-⟩:=uY.read;have HB:=zH hb;have c9:w1.cell? ⟨F.Q,9,none⟩=some (qp F.lb):=(H.out.later hb).c 9;have HL:=zH ((H.out.later hb).rm);clear uY hb;cases hW:a.Af with
 | false =>
  have HE:=zH (WN hW);clear hW;go_wp2_with fail;go_quiet (fail);go_wp2;go_ret;exact⟨by rw[HE.out];rfl,ah HB.out (av _)⟩
 | true =>
  have HE:=zH (Gf hW);have HF:Hid (∀q,Calls prog 154 #[L.lp F.lb,.int .i64 ((a.fF.length:Int)+1)] (w1.drewN q) fun e w'=>e=.returned (.bool a.fits)/\∃m,w'=(w1.drewN q).drewN m):=fun q=>by
   have:=L.tX (HL.out.drawn q) HO.out.lok ((a.fF.length:Int)+1)
   rwa [HE.out] at this
  clear hW HE HL;obtain ⟨fb,hfb⟩:=zE a.fits;have HG:=zH hfb;rw[hfb] at HF;clear hfb;go_wp2_with fail;go_quiet (first | (go_at_call 90;exact Calls.quiet_of_same (oJ _ _ _ (by omega) _)) | (go_at_call 154;exact Calls.quiet_of (HF.out _)));go_wp2;go_ret;exact⟨by rw[HG.out];rfl,ah HB.out (av _)⟩
