import Derived.Test.YtcdjepkhdjpjcaaGreatDoorU19
set_option maxHeartbeats 20000000
set_option maxRecDepth 100000
namespace Go.Proofs.Zq.E
open Go.Proofs.Tryz
open Go.RowKit
section
variable {w w':World} {G:Nat->Prop} {R:Nat} {vW vI:Value} {a:Ad} {ws is:List qW}
theorem LB(h:RL w G R vW vI a ws is)(hR:¬G R)(ok:a.Ok)(hN:a.next<=1000)(t:Int):Calls prog 69 #[qp R,.int .u64 t] w fun e w'=>e=.returned (.int .i64 (a.jO t))/\Ds w w' G R (a.jI t):=by
 have lf:=Ul h ok hN t;have H:=zH h;have HR:=zH hR;cases hf:fi t a.I with
 | none =>
  rw[PE t hf] at lf
  have HA:=zH lf
  have e1:Hid (a.jO t=110/\a.jI t=a):=⟨by simp[Ad.jO,hf],by simp[Ad.jI,Ad.jO,hf]⟩
  clear h lf ok hR;go_enter func69,ntmps69;go_wp2_with (go_at_call 130;refine HA.out.mono ?_;rintro e w' ⟨rfl,rfl⟩)
  go_ret;rw[e1.out.1,e1.out.2];exact⟨rfl,Ds.same H.out (aV _ _)⟩
 | some x =>
  obtain ⟨f,n⟩:=x;rw[JY hf] at lf
  obtain ⟨hp,hm⟩:=h.PI hf;have hn:=ok.sU _ (vh hf);simp only at hn;have hmr:=ok.may.2.2.2.2.2.1;have hil:is.length<=1000:=by have:=h.sS;have:=ok.sS;omega
  obtain ⟨p,c,ev,hc,hg⟩:=iW h.ir;obtain ⟨g,rfl⟩:=hg (by omega);have hr:=h.ir;rw[ev] at hr;obtain ⟨_,_,x2,_⟩:=qK hr hp;have c7:w.cell? ⟨R,7,none⟩=some vI:=h.c 7;rw[ev] at c7;rw[hm.l] at x2;have i1:((L.pos t (dg a.I):Nat):Int)<(is.length:Int):=by omega
  by_cases hk:n=1
  ·have e1:Hid (a.jO t=120/\a.jI t=a):=⟨by simp[Ad.jO,hf,hk],by simp[Ad.jI,Ad.jO,hf,hk]⟩
   subst hk;clear h hm hf ok hR ev hr hn hmr;generalize L.pos t (dg a.I)=pp at *;have HA:=zH lf
   clear lf
   go_enter func69,ntmps69;go_wp2_with (go_at_call 130;refine HA.out.mono ?_;rintro e w' ⟨rfl,hw⟩;subst hw)
   go_ret;rw[e1.out.1,e1.out.2];exact⟨rfl,Ds.same H.out (aV _ _)⟩
  ·have e1:Hid (a.jO t=0/\a.jI t={ a with used:=a.used+1,I:=oX t a.I }):=⟨by simp[Ad.jO,hf,hk],by simp[Ad.jI,Ad.jO,hf,hk]⟩
   have qj:(n == 1)=false:=by rw[gp];exact hk
   have HD:=zH (JI hf);have HM:=zH hm;have HCS:Hid (((cV is).set (L.pos t (dg a.I)*4+2) (.int .i64 (n-1))).set (L.pos t (dg a.I)*4+3) (.bool true)=cV (is.set (L.pos t (dg a.I)) { is[L.pos t (dg a.I)] with l:=n-1,b:=true })):=Ce is _ hp _ _;have HY:Hid (true=decide (n-1≠0/\n-1<(f.length:Int)+1)):=(aP ⟨by omega,by omega⟩).symm;obtain ⟨n1,n2,n3,n4,n5,n6⟩:=ok.zo;obtain ⟨m1,m2,m3,m4⟩:=hn;have m5:n<=20:=by omega
   generalize hy:is[L.pos t (dg a.I)]=yy at *;clear hy;have h20:(cV is)[L.pos t (dg a.I)*4+2]?=some (.int .i64 n):=by
    have h3:=oz is _ hp 2 (by omega);have h4:=qK hr hp;have h5:=oN hr h3;rw[x2] at h5;rw[h3];exact h5.symm
   have Al:∃u,(cV is)[L.pos t (dg a.I)*4+3]?=some u:=⟨_,ay (by rw[oT];omega)⟩
   have HG:=rf h20 Al;clear h20 Al h hm hf ok hR ev hr hk m4 m2 m1 hmr;generalize L.pos t (dg a.I)=pp at *;have HA:=zH lf
   clear lf
   have Tk:=zH H.out.lt;have F0:Hid (FR w (w.alloc (.cells #[] 224)) 0 224 4 (.slice (some ⟨w.heap.size,0,none⟩) 0 0) 0 []):=FR.empty 224 4 (aV _ _) (aI _);have e7:(w.alloc (.cells #[] 224)).cell? ⟨R,7,none⟩=some (.slice (some ⟨g,0,none⟩) is.length c):=((ag w _).cell (p:=⟨R,7,none⟩) Tk.out).trans c7;have HRI:=zH H.out.ir;have Tu:=zH (H.out.c 7);have HV:Hid (vI=.slice (some ⟨g,0,none⟩) is.length c):=by have:=Tu.out;rw[c7] at this;exact (iY this).symm
   have HRJ:Hid (w.ownsRow 0 224 4 (.slice (some ⟨g,0,none⟩) is.length c) is.length (cV is)):=by rw[<-HV.out];exact HRI.out
   clear Tu HRI;go_enter func69,ntmps69;go_wp2_with fail;refine HA.out.mono ?_;rintro e w' ⟨rfl,hw⟩;subst hw;go_upto_region 7 with (at_builtin;refine oC (v:=.slice (some ⟨w'.heap.size,0,none⟩) 0 0) (n:=0) (m:=is.length) (base:=0) (lW:=0) rfl (.tmp 21) (.tmp 25) MT rfl rfl F0.out.own rfl (dD HRJ.out F0.out.below) (nP is) (by omega) (aI _) ?_;intro v1 w3 ho hk hv;have F1:Hid (FR w' w3 0 224 4 v1 is.length (cV is)):=(by have h:=F0.out.app ho hk hv;rw[aW,bF] at h;exact h);clear ho hk hv;obtain ⟨p1,c1,e2,Kt,hg1⟩:=iW F1.out.own;obtain ⟨g1,rfl⟩:=hg1 (by omega);subst e2;have Ki:=zH ((F1.out.below.block R Tk.out).trans H.out.st);have g7:w3.cell? ⟨R,7,none⟩=some vI:=aq _ R 7 _ 217 (0,0) Ki.out;have f7:w3.frozen? ⟨R,7,none⟩=false:=(by simp[World.frozen?,Ki.out]))
   have hgR:Hid (g1≠R/\w'.heap.size<=g1):=⟨fun e=>by have:=F1.out.new g1 rfl;have:=Tk.out;omega,F1.out.new g1 rfl⟩
   have Rt:Hid ((w3.setCell ⟨R,7,none⟩ (.slice (some ⟨g1,0,none⟩) is.length c1)).heap[R]?=some (.cells (cz a vW (.slice (some ⟨g1,0,none⟩) is.length c1)) 217 (0,0))):=by show _=_;rw[L.jL 7 _ Ki.out];rfl
   have k5:Hid (Kept (·=R) w' (w3.setCell ⟨R,7,none⟩ (.slice (some ⟨g1,0,none⟩) is.length c1))):=(Kept.bP _ F1.out.below).trans (Kept.setCell R 7 _) (fun _ _ e=>e);have r5:Hid ((w3.setCell ⟨R,7,none⟩ (.slice (some ⟨g1,0,none⟩) is.length c1)).ownsRow 0 224 4 (.slice (some ⟨g1,0,none⟩) is.length c1) is.length (cV is)):=eB F1.out.own (Kept.setCell R 7 _) (fun g hg e=>by simp[Value.ownBlock] at hg;have:=hgR.out.1;omega);clear e7 g7 f7 F0 F1 Ki c7 x2;generalize w3.setCell ⟨R,7,none⟩ (.slice (some ⟨g1,0,none⟩) is.length c1)=w5 at *;have d7:w5.cell? ⟨R,7,none⟩=some (.slice (some ⟨g1,0,none⟩) is.length c1):=aq _ R 7 _ 217 (0,0) Rt.out;have y2:w5.cell? ⟨g1,pp*4+2,none⟩=some (.int .i64 n):=oN r5.out HG.out.1;have yf2:=Iu r5.out (pp*4+2);have r6:Hid ((w5.setCell ⟨g1,pp*4+2,none⟩ (.int .i64 (n-1))).ownsRow 0 224 4 (.slice (some ⟨g1,0,none⟩) is.length c1) is.length ((cV is).set (pp*4+2) (.int .i64 (n-1)))):=zX r5.out rfl _ _;have FT:Hid ((w5.setCell ⟨g1,pp*4+2,none⟩ (.int .i64 (n-1))).heap[R]?=some (.cells (cz a vW (.slice (some ⟨g1,0,none⟩) is.length c1)) 217 (0,0))):=((Kept.setCell (w:=w5) g1 (pp*4+2) _).block R (au.1 Rt.out).1 (Ne.symm hgR.out.1)).trans Rt.out;have k6:Hid (Kept (fun b=>b=R\/b=g1) w' (w5.setCell ⟨g1,pp*4+2,none⟩ (.int .i64 (n-1)))):=(k5.out.wider (fun _ _ e=>.inl e)).trans (Kept.setCell g1 (pp*4+2) _) (fun _ _ e=>.inr e);go_upto_region 8 with fail
   clear d7 y2 yf2;generalize w5.setCell ⟨g1,pp*4+2,none⟩ (.int .i64 (n-1))=w6 at *;have d7:w6.cell? ⟨R,7,none⟩=some (.slice (some ⟨g1,0,none⟩) is.length c1):=aq _ R 7 _ 217 (0,0) FT.out;obtain ⟨u3,hu3⟩:=HG.out.2;have y3:w6.cell? ⟨g1,pp*4+3,none⟩=some u3:=oN r6.out (by rw[List.getElem?_set_ne (by omega)];exact hu3);have yf3:=Iu r6.out (pp*4+3);have r7:Hid ((w6.setCell ⟨g1,pp*4+3,none⟩ (.bool true)).ownsRow 0 224 4 (.slice (some ⟨g1,0,none⟩) is.length c1) is.length (((cV is).set (pp*4+2) (.int .i64 (n-1))).set (pp*4+3) (.bool true))):=zX r6.out rfl _ _;have aeg:Hid ((w6.setCell ⟨g1,pp*4+3,none⟩ (.bool true)).heap[R]?=some (.cells (cz a vW (.slice (some ⟨g1,0,none⟩) is.length c1)) 217 (0,0))):=((Kept.setCell (w:=w6) g1 (pp*4+3) _).block R (au.1 FT.out).1 (Ne.symm hgR.out.1)).trans FT.out;have k7:Hid (Kept (fun b=>b=R\/b=g1) w' (w6.setCell ⟨g1,pp*4+3,none⟩ (.bool true))):=k6.out.trans (Kept.setCell g1 (pp*4+3) _) (fun _ _ e=>.inr e);clear hu3;go_upto_region 9 with fail
   clear d7 y3 yf3 HG;generalize w6.setCell ⟨g1,pp*4+3,none⟩ (.bool true)=w7 at *;have d8:w7.cell? ⟨R,8,none⟩=some (.int .i64 a.used):=aq _ R 8 _ 217 (0,0) aeg.out;have df8:w7.frozen? ⟨R,8,none⟩=false:=by simp[World.frozen?,aeg.out]
   go_wp2;go_ret;rw[e1.out.1,e1.out.2];have k8:Kept (·=R) w' (w7.setCell ⟨R,8,none⟩ (.int .i64 (a.used+1))):=(k7.out.trans (Kept.setCell R 8 _) (fun _ _ e=>.inl e)).trans (Kept.refl _ _) (fun _ _ e=>e) |> fun h=>⟨h.os,h.tape,h.output,h.size,fun b hb kG=>h.block b hb (fun e=>by rcases e with e | e;exact kG e;have:=hgR.out.2;omega)⟩
   refine⟨rfl,⟨vW,.slice (some ⟨g1,0,none⟩) is.length c1,ws,is.set pp { yy with l:=n-1,b:=true },?_,H.out.W.turn HR.out k8,RR.fresh ?_ ?_ ?_⟩,k8⟩
   ·rw[L.jL 8 _ aeg.out];rfl
   ·have:=eB r7.out (Kept.setCell R 8 (.int .i64 (a.used+1))) (fun g hg e=>by simp[Value.ownBlock] at hg;have:=hgR.out.1;omega);rw[HCS.out] at this;rw[List.length_set];exact this
   ·show se _ _ (oX t a.I) _;rw[HD.out];have Kr:Mi (w7.setCell ⟨R,8,none⟩ (.int .i64 (a.used+1))) (Gp w' (w7.setCell ⟨R,8,none⟩ (.int .i64 (a.used+1))) G) (t,f,n) yy:=HM.out.kept (fun g hg hl=>k8.block g hl fun e=>HR.out (e ▸ hg)) fun _ hg=>.inl hg;exact (H.out.I.mi.turn HR.out k8).set pp ⟨Kr.t,Kr.f,Kr.g,rfl,HY.out⟩
   ·intro g hg;simp[Value.ownBlock] at hg;have:=hgR.out.2;omega
