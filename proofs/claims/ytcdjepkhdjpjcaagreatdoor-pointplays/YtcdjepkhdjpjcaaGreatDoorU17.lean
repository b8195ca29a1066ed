import Derived.Test.YtcdjepkhdjpjcaaGreatDoorU16
set_option maxHeartbeats 20000000
set_option maxRecDepth 100000
namespace Go.Proofs.Zq.E
open Go.Proofs.Tryz
open Go.RowKit
structure Ne (F:Ft):Prop where
 Qq1:F.Q≠F.q1
 Qq2:F.Q≠F.q2
 Qm:F.Q≠F.mb
 Ql:F.Q≠F.lb
 Qn:F.Q≠F.lm
 q1m:F.q1≠F.mb
 q1l:F.q1≠F.lb
 q1n:F.q1≠F.lm
 q2m:F.q2≠F.mb
 q2l:F.q2≠F.lb
 q2n:F.q2≠F.lm
 Of:F.q1≠F.q2
 ml:F.mb≠F.lb
 mn:F.mb≠F.lm
 v1:∀g,bC F.v1=some g->g≠F.Q/\g≠F.q1/\g≠F.q2/\g≠F.mb/\g≠F.lb/\g≠F.lm
 v2:∀g,bC F.v2=some g->g≠F.Q/\g≠F.q1/\g≠F.q2/\g≠F.mb/\g≠F.lb/\g≠F.lm
 v12:∀g,bC F.v1=some g->¬bC F.v2=some g
section
variable {w w':World} {F:Ft} {n:Nat} {a:Ad}
theorem PL.ne(h : PL w F n a) : Ne F :=
  ⟨jR h.kQ h.k1 (by decide), jR h.kQ h.k2 (by decide), jR h.kQ h.km (by decide), jR h.kQ h.kl (by decide), jR h.kQ h.kn (by decide),
   jR h.k1 h.km (by decide), jR h.k1 h.kl (by decide), jR h.k1 h.kn (by decide), jR h.k2 h.km (by decide), jR h.k2 h.kl (by decide), jR h.k2 h.kn (by decide), h.Of, jR h.km h.kl (by decide), h.mm,
   fun g hg => ⟨jR (h.kv1 hg) h.kQ (by decide), jR (h.kv1 hg) h.k1 (by decide), jR (h.kv1 hg) h.k2 (by decide), jR (h.kv1 hg) h.km (by decide), jR (h.kv1 hg) h.kl (by decide), jR (h.kv1 hg) h.kn (by decide)⟩,
   fun g hg => ⟨jR (h.kv2 hg) h.kQ (by decide), jR (h.kv2 hg) h.k1 (by decide), jR (h.kv2 hg) h.k2 (by decide), jR (h.kv2 hg) h.km (by decide), jR (h.kv2 hg) h.kl (by decide), jR (h.kv2 hg) h.kn (by decide)⟩, h.v12⟩
theorem PL.MJ(F:Ft){b:Nat}(hb:L.LF F.lb F.lm b):F.has b:=by
 rcases hb with rfl | rfl
 ·exact .inr (.inr (.inr (.inr (.inr (.inr (.inl rfl))))))
 ·exact .inr (.inr (.inr (.inr (.inr (.inr (.inr rfl))))))
theorem PL.ak2(h:PL w F n a){g:Nat}(hg:kd w g=3):¬L.LF F.lb F.lm g:=fun e=>h.sO hg (PL.MJ F e)
theorem PL.led{a':Ad}{k:Nat}(h:PL w F n a)(hk:Kept (L.LF F.lb F.lm) w w')(hr:L.bE w' F.lb F.lm k a'.lg)(hn:n<=k)(e1:fH F a'=fH F a)(e2:a'.W=a.W)(e3:it a'.I=it a.I)(e4:a'.got=a.got)(e5:a'.next=a.next)(e6:∀x∈a'.fl,x∈a.fl)(ok:a'.Ok):PL w' F k a':=by
 have N:=h.ne;refine⟨?_,?_,?_,?_,hr,ok,h.Of,h.v12,h.mm⟩
 ·rw[e1];exact (hk.block _ (h.lt (.inl rfl)) (by rintro (e | e);exact N.Ql e;exact N.Qn e)).trans h.st
 ·rw[e2,e5];exact h.l1.mO hk (by rintro (e | e);exact N.q1l e;exact N.q1n e) (fun g hg=>by rintro (e | e);exact (N.v1 g hg).2.2.2.2.1 e;exact (N.v1 g hg).2.2.2.2.2 e)
 ·rw[e3,e4];exact h.l2.mO hk (by rintro (e | e);exact N.q2l e;exact N.q2n e) (fun g hg=>by rintro (e | e);exact (N.v2 g hg).2.2.2.2.1 e;exact (N.v2 g hg).2.2.2.2.2 e)
 ·exact ((h.fm.mO hk (by rintro (e | e);exact N.ml e;exact N.mn e) (fun g _ hg=>h.ak2 hg)).mono hn).sub e6
theorem adU(a:Ad)(k:Int):L.ku a.lg k=(a.ku k).lg:=by
 unfold L.ku Ad.ku;by_cases e:0<=k/\k<=a.used
 ·have e':0<=k/\k<=a.lg.used:=e;rw[aE e',aE e];rfl
 ·have e':¬(0<=k/\k<=a.lg.used):=e;rw[aD e',aD e]
theorem WD(h:PL w F n a)(k:Int):Calls prog 105 #[qp F.Q,.int .i64 k] w fun e w'=>e=.returned (.int .i64 (a.Ck k))/\PL w' F (n+1) (a.ku k)/\Kept F.has w w':=by
 have c9:w.cell? ⟨F.Q,9,none⟩=some (qp F.lb):=h.c 9;have H:=zH h;clear h;go_enter func105,ntmps105;go_wp2_with (go_at_call 166;refine (L.Gc H.out.rm H.out.ok.lok k).mono ?_;rintro e w' ⟨rfl,h1,h2⟩;have HR:=rf h1 h2;clear h1 h2)
 go_ret;refine⟨rfl,?_,HR.out.2.wider fun x _ e=>PL.MJ F e⟩;have hr:=HR.out.1;rw[adU] at hr;have BX:=H.out.ok.WG k;unfold Ad.ku at hr BX ⊢;by_cases e:0<=k/\k<=a.used
 ·rw[aE e] at hr BX ⊢;exact H.out.led HR.out.2 hr (di _) rfl rfl rfl rfl rfl (fun x hx=>hx) BX
 ·rw[aD e] at hr BX ⊢;exact H.out.led HR.out.2 hr (di _) rfl rfl rfl rfl rfl (fun x hx=>hx) BX
theorem ES(t:Int):∀I:List (Int × List Int × Int),((oX t I).map fun x=>(x.1,x.2.1))=I.map fun x=>(x.1,x.2.1)
 | []=>rfl
 | x :: xs=>by
  by_cases e:x.1=t
  ·simp[oX,e]
  ·simp[oX,e,ES t xs]
theorem adV{a:Ad}{t:Int}{f:List Int}{k:Int}(hf:fi t a.I=some (f,k))(h0:k≠0)(h1:k≠1):L.jO a.lg t=0/\L.jI a.lg t=(a.jI t).lg/\a.jO t=0:=by
 have e1:L.look t a.lg.L=some k:=by show L.look t (dg a.I)=_;rw[gZ,hf];rfl
 have e2:a.jO t=0:=by simp[Ad.jO,hf,h1]
 refine⟨by simp[L.jO,e1,h0],?_,e2⟩;unfold L.jI;rw[e1];simp only[aD h0];unfold Ad.jI;rw[aE e2];simp only[Ad.lg,yg hf]
theorem Ex{a:Ad}{t:Int}{f:List Int}{k:Int}(hf:fi t a.I=some (f,k)):a.BM t=k/\a.yW t=true:=by simp[Ad.BM,Ad.yW,hf]
theorem Ey{a:Ad}{t:Int}(hf:fi t a.I=none):a.BM t=0/\a.yW t=false:=by simp[Ad.BM,Ad.yW,hf]
theorem qO(h:PL w F n a)(hn:n<10000){t:Int}(ht:L.vG t):Calls prog 40 #[qp F.Q,.int .u64 t] w fun e w'=>e=.returned (.int .i64 (a.jO t))/\PL w' F (n+1) (a.jI t)/\Kept F.has w w':=by
 have c9:w.cell? ⟨F.Q,9,none⟩=some (qp F.lb):=h.c 9;have H:=zH h;have HC:=left_at h ht;clear h;cases hf:fi t a.I with
 | none =>
  rw[(Ey hf).1,(Ey hf).2] at HC;have e1:Hid (a.jO t=110):=by show _=_;simp[Ad.jO,hf]
  have e2:Hid (a.jI t=a):=by show _=_;simp[Ad.jI,e1.out]
  have Tw:=zH HC;clear HC hf;go_enter func40,ntmps40;go_wp2_with (go_at_call 94;refine Tw.out.mono ?_;rintro e w' ⟨rfl,rfl⟩)
  go_ret;exact⟨by rw[e1.out];rfl,by rw[e2.out];exact H.out.mono (di _),Kept.refl _ _⟩
 | some x =>
  obtain ⟨f,k⟩:=x;rw[(Ex hf).1,(Ex hf).2] at HC;have Tw:=zH HC;have h3:=H.out.ok.sU _ (vh hf);simp only at h3;clear HC;by_cases hk:k=1
  ·have e1:Hid (a.jO t=120):=by show _=_;simp[Ad.jO,hf,hk]
   have e2:Hid (a.jI t=a):=by show _=_;simp[Ad.jI,e1.out]
   subst hk;clear hf h3;go_enter func40,ntmps40;go_wp2_with (go_at_call 94;refine Tw.out.mono ?_;rintro e w' ⟨rfl,rfl⟩)
   go_ret;exact⟨by rw[e1.out];rfl,by rw[e2.out];exact H.out.mono (di _),Kept.refl _ _⟩
  ·have h0:k≠0:=by omega
   have HG:=zH (adV hf h0 hk);have hb:(k == 1)=false:=by rw[gp];exact hk
   have HF:=zH hf;clear hf h3 hk;go_enter func40,ntmps40;go_wp2_with (first | (go_at_call 94;refine Tw.out.mono ?_;rintro e w' ⟨rfl,rfl⟩) | (go_at_call 95;refine (L.qO H.out.rm H.out.ok.lok hn ht).mono ?_;rintro e w2 ⟨rfl,h1,h2⟩;have HR:=rf h1 h2;clear h1 h2))
   go_ret;refine⟨by rw[HG.out.2.2,<-HG.out.1];rfl,?_,HR.out.2.wider fun x _ e=>PL.MJ F e⟩;have hr:=HR.out.1;rw[HG.out.2.1] at hr;have BX:=H.out.ok.app t;unfold Ad.jI at hr BX ⊢;rw[aE HG.out.2.2] at hr BX ⊢;refine H.out.led HR.out.2 hr (di _) rfl rfl (Mq t a.I) rfl rfl (fun x hx=>?_) BX;have e3:({ a with used:=a.used+1,I:=oX t a.I }:Ad).fl=a.fl:=by simp only[Ad.fl,ES]
   rw[e3] at hx;exact hx
def OF (F:Ft)(b:Nat):Prop:=b=F.mb\/b=F.q2\/bC F.v2=some b\/b=F.lb\/b=F.lm
theorem OF.has{F:Ft}{b:Nat}(h:OF F b):F.has b:=by
 rcases h with rfl | rfl | e | rfl | rfl
 ·exact .inr (.inr (.inr (.inr (.inr (.inl rfl)))))
 ·exact .inr (.inr (.inl rfl))
 ·exact .inr (.inr (.inr (.inr (.inl e))))
 ·exact .inr (.inr (.inr (.inr (.inr (.inr (.inl rfl))))))
 ·exact .inr (.inr (.inr (.inr (.inr (.inr (.inr rfl))))))
theorem adE{M:Int->Option Value}{zs:List Int}{m:Int}{s:L.Lg}{k:Nat}(N:Ne F)(c7:w.cell? ⟨F.Q,7,none⟩=some (qp F.q2))(c8:w.cell? ⟨F.Q,8,none⟩=some (.map (some F.mb)))(c9:w.cell? ⟨F.Q,9,none⟩=some (qp F.lb))(hm:tZ w F.mb n M)(hq:mS 211 w F.q2 F.v2 zs m)(hr:L.bE w F.lb F.lm k s)(ok:L.Ok s){t:Int}(hu:L.vG t)(ht:t∈zs)(hl:zs.length<=1000) :
  Calls prog 96 #[qp F.Q,.int .u64 t] w fun e w'=>e=.returned (.int .i64 (L.JS s t))/\tZ w' F.mb n (fun u=>if u=t then none else M u)/\(∃v',mS 211 w' F.q2 v' (zs.erase t) m/\bC v'=bC F.v2)/\L.bE w' F.lb F.lm (k+1) (L.Sa s t)/\Kept (OF F) w w':=by
 have HM:=zH hm;have HQ:=zH hq;have HR:=zH hr;have Jt:F.Q<w.heap.size:=cG w _ c7;have C7:=zH c7;have C9:=zH c9;clear hm hq hr c7 c9;go_enter func96,ntmps96;go_wp2_with (first
  | (at_delete;refine zh rfl (.tmp 8) (.tmp 9) rfl M rfl HM.out t hu rfl ?_;intro w1 h1 h2;have H1:=rf h1 h2;clear h1 h2;have d7:w1.cell? ⟨F.Q,7,none⟩=some (qp F.q2):=(dN (w:=w) (a:=⟨F.Q,7,none⟩) (H1.out.2.block _ Jt N.Qm)).trans C7.out;have Q1:Hid (mS 211 w1 F.q2 F.v2 zs m):=HQ.out.mO H1.out.2 N.q2m (fun g hg=>(N.v2 g hg).2.2.2.1);have R1:Hid (L.bE w1 F.lb F.lm k s):=HR.out.kept (H1.out.2.block _ HR.out.lt (Ne.symm N.ml)) (H1.out.2.block _ HR.out.mp.lt (Ne.symm N.mn)))
  | (go_at_call 162;refine (aaW Q1.out t ht (by omega)).mono ?_;rintro e w2 ⟨rfl,v',h1,h2,h3⟩;have H2:=Av h1 h2 h3;clear h1 h2 h3;have hQ1:F.Q<w1.heap.size:=bN Jt H1.out.2.size;have d9:w2.cell? ⟨F.Q,9,none⟩=some (qp F.lb):=(dN (w:=w1) (a:=⟨F.Q,9,none⟩) (H2.out.2.2.block _ hQ1 (by rintro (e | e);exact N.Qq2 e;exact (N.v2 _ e).1 rfl))).trans ((dN (w:=w) (a:=⟨F.Q,9,none⟩) (H1.out.2.block _ Jt N.Qm)).trans C9.out);have R2:Hid (L.bE w2 F.lb F.lm k s):=R1.out.kept (H2.out.2.2.block _ R1.out.lt (by rintro (e | e);exact N.q2l e.symm;exact (N.v2 _ e).2.2.2.2.1 rfl)) (H2.out.2.2.block _ R1.out.mp.lt (by rintro (e | e);exact N.q2n e.symm;exact (N.v2 _ e).2.2.2.2.2 rfl)))
  | (go_at_call 163;refine (L.Xl R2.out ok hu).mono ?_;rintro e w3 ⟨rfl,h1,h2⟩;have H3:=rf h1 h2;clear h1 h2))
 go_ret;refine⟨rfl,?_,⟨v',?_,H2.out.2.1⟩,H3.out.1,?_⟩
 ·refine (H1.out.1.kept (H2.out.2.2.block _ H1.out.1.lt (by rintro (e | e);exact N.q2m e.symm;exact (N.v2 _ e).2.2.2.1 rfl))).kept (H3.out.2.block _ (bN H1.out.1.lt H2.out.2.2.size) (by rintro (e | e);exact N.ml e;exact N.mn e))
 ·exact H2.out.1.mO H3.out.2 (by rintro (e | e);exact N.q2l e;exact N.q2n e) (fun g hg=>by rw[H2.out.2.1] at hg;rintro (e | e);exact (N.v2 g hg).2.2.2.2.1 e;exact (N.v2 g hg).2.2.2.2.2 e)
 ·refine ((H1.out.2.wider (T:=OF F) (fun x _ e=>.inl e)).trans H2.out.2.2 (fun x _ e=>?_)).trans H3.out.2 (fun x _ e=>?_)
  ·rcases e with e | e
   ·exact .inr (.inl e)
   ·exact .inr (.inr (.inl e))
  ·rcases e with e | e
   ·exact .inr (.inr (.inr (.inl e)))
   ·exact .inr (.inr (.inr (.inr e)))
theorem Po{t:Int}:∀{I:List (Int × List Int × Int)},(it I).Nodup->∀x∈mD t I,x.1≠t
 | [],_,x,hx=>by simp[mD] at hx
 | y :: ys,h,x,hx=>by
  have h2:=List.nodup_cons.1 h;by_cases e:y.1=t
  ·simp only[mD,aE e] at hx;intro e2;exact h2.1 (by rw[e,<-e2];exact cF.2 ⟨x,hx,rfl⟩)
  ·simp only[mD,aD e,bZ] at hx;rcases hx with rfl | hx
   ·exact e
   ·exact Po h2.2 x hx
theorem aib{t:Int}{I:List (Int × List Int × Int)}{x:List Int × Int}(h:fi t I=some x):t∈it I:=cF.2 ⟨(t,x.1,x.2),vh h,rfl⟩
theorem PL.akQ{t u:Int}{k:Nat}{v':Value}{M:Int->Option Value}(h:PL w F n a)(_hm:tZ w F.mb n M)(hs:∀t v,M t=some v->∃p n c,v=.slice p n c)(hf:∀x∈a.fl,∃v,M x.1=some v/\ow w v x.2/\∀g,bC v=some g->F.G g){f:List Int}{x:Int}(hfi:fi t a.I=some (f,x))(hk:Kept (OF F) w w')(hn:n<=k)
  (hm':tZ w' F.mb n (fun u=>if u=t then none else M u)) (hq:mS 211 w' F.q2 v' ((it a.I).erase t) a.got) (hb:bC v'=bC F.v2) (hr:L.bE w' F.lb F.lm k ({ a with used:=u,I:=mD t a.I }:Ad).lg) (ok:({ a with used:=u,I:=mD t a.I }:Ad).Ok) :
  PL w' { F with v2:=v' } k { a with used:=u,I:=mD t a.I }:=by
 have N:=h.ne;have hint:∀g,kd w g=3->¬OF F g:=fun g hg e=>h.sO hg e.has;have hnd:(it a.I).Nodup:=Vo h.ok.yZ;refine⟨?_,?_,?_,?_,hr,ok,h.Of,fun g hg=>by rw[hb];exact h.v12 g hg,h.mm⟩
 ·exact (hk.block _ (h.lt (.inl rfl)) (by rintro (e | e | e | e | e);exact N.Qm e;exact N.Qq2 e;exact (N.v2 _ e).1 rfl;exact N.Ql e;exact N.Qn e)).trans h.st
 ·exact h.l1.mO hk (by rintro (e | e | e | e | e);exact N.q1m e;exact N.Of e;exact (N.v2 _ e).2.1 rfl;exact N.q1l e;exact N.q1n e) (fun g hg=>by have e1:=N.v1 g hg;rintro (e | e | e | e | e);exact e1.2.2.2.1 e;exact e1.2.2.1 e;exact N.v12 g hg e;exact e1.2.2.2.2.1 e;exact e1.2.2.2.2.2 e)
 ·show mS _ _ _ _ (it (mD t a.I)) _;rw[VK];exact hq
 ·refine⟨_,hm'.mono hn,fun y v hv=>?_,fun y hy=>?_⟩
  ·by_cases e:y=t
   ·rw[aE e] at hv;cases hv
   ·rw[aD e] at hv;exact hs y v hv
  ·have EH:y∈a.fl/\y.1≠t:=by
    rcases bH.1 hy with hy | hy
    ·refine⟨bH.2 (.inl hy),fun e=>?_⟩;have h1:=h.ok.Ny y hy;have h2:=h.ok.VW _ (vh hfi);simp only at h2;omega
    ·obtain ⟨z,hz,rfl⟩:=cF.1 hy;exact⟨bH.2 (.inr (cF.2 ⟨z,(tr t a.I).subset hz,rfl⟩)),Po hnd z hz⟩
   obtain ⟨v,hv,uY,hG⟩:=hf y EH.1;exact⟨v,by rw[aD EH.2];exact hv,uY.mO hk (fun g _=>hint g),hG⟩
theorem Pn(t v:Int):∀l:List (Int × Int),L.cut t (L.set t v l)=L.cut t l
 | []=>rfl
 | x :: xs=>by
  by_cases e:x.1=t
  ·simp[L.cut,L.set,e]
  ·simp[L.cut,L.set,e,Pn t v xs]
theorem aaX(h:PL w F n a)(hn:n<10000)(hN:a.next<=1000){t:Int}(ht:L.vG t):Calls prog 42 #[qp F.Q,.int .u64 t] w fun e w'=>e=.returned (.int .i64 (a.tq t))/\∃v',PL w' { F with v2:=v' } (n+2) (a.vu t)/\bC v'=bC F.v2/\Kept F.has w w':=by
 have c9:w.cell? ⟨F.Q,9,none⟩=some (qp F.lb):=h.c 9;have H:=zH h;clear h;cases hf:fi t a.I with
 | none =>
  have e0:L.look t a.lg.L=none:=by show L.look t (dg a.I)=_;rw[gZ,hf];rfl
  have e1:Hid (a.tq t=110/\a.vu t=a/\L.jO a.lg t=110/\L.jI a.lg t=a.lg):=⟨by simp[Ad.tq,hf],by simp[Ad.vu,Ad.tq,hf],by simp[L.jO,e0],by simp[L.jI,e0]⟩
  clear hf e0;go_enter func42,ntmps42;go_wp2_with (go_at_call 95;refine (L.qO H.out.rm H.out.ok.lok hn ht).mono ?_;rw[e1.out.2.2.1,e1.out.2.2.2];rintro e w2 ⟨rfl,h1,h2⟩;have HR:=rf h1 h2;clear h1 h2)
  go_ret;exact⟨by rw[e1.out.1];rfl,F.v2,by rw[e1.out.2.1];exact (H.out.led HR.out.2 HR.out.1 (di _) rfl rfl rfl rfl rfl (fun x hx=>hx) H.out.ok).mono (by omega),rfl,HR.out.2.wider fun x _ e=>PL.MJ F e⟩
 | some x =>
  obtain ⟨f,k⟩:=x;have h3:=H.out.ok.sU _ (vh hf);simp only at h3;have h0:k≠0:=by omega
  have e0:L.look t a.lg.L=some k:=by show L.look t (dg a.I)=_;rw[gZ,hf];rfl
  have e1:Hid (a.tq t=0/\a.vu t={ a with used:=a.used+1,I:=mD t a.I }/\L.jO a.lg t=0/\L.jI a.lg t={ a.lg with used:=a.used+1,L:=L.set t (k-1) (dg a.I) }):=⟨by simp[Ad.tq,hf],by simp[Ad.vu,Ad.tq,hf],by simp[L.jO,e0,h0],by simp[L.jI,e0,h0];exact⟨rfl,rfl⟩⟩
  have HF:=zH hf;have ahr:=zH (aib hf);have hl:Hid ((it a.I).length<=1000):=by show _<=_;have:=H.out.ok.sS;simp only[it,dI];omega
  clear hf e0 h3 h0;obtain ⟨M,hm,Tf,hmf⟩:=H.out.fm;have HM:=Av hm Tf hmf;clear hm Tf hmf;have N:=H.out.ne;go_enter func42,ntmps42;go_wp2_with (first
   | (go_at_call 95;refine (L.qO H.out.rm H.out.ok.lok hn ht).mono ?_;rw[e1.out.2.2.1];rintro e w2 ⟨rfl,h1,h2⟩;have HR:=Av h1 h2 (H.out.ok.lok.app t);clear h1 h2;have HP:Hid (w2.heap[F.Q]?=some (.cells (fH F a) 115 (0,0))/\mS 211 w2 F.q2 F.v2 (it a.I) a.got/\tZ w2 F.mb n M):=⟨(HR.out.2.1.block _ (H.out.lt (.inl rfl)) (by rintro (e | e);exact N.Ql e;exact N.Qn e)).trans H.out.st,H.out.l2.mO HR.out.2.1 (by rintro (e | e);exact N.q2l e;exact N.q2n e) (fun g hg=>by rintro (e | e);exact (N.v2 g hg).2.2.2.2.1 e;exact (N.v2 g hg).2.2.2.2.2 e),HM.out.1.kept (HR.out.2.1.block _ HM.out.1.lt (by rintro (e | e);exact N.ml e;exact N.mn e))⟩)
   | (go_at_call 96;refine (adE N (aq _ F.Q 7 _ 115 (0,0) HP.out.1) (aq _ F.Q 8 _ 115 (0,0) HP.out.1) (aq _ F.Q 9 _ 115 (0,0) HP.out.1) HP.out.2.2 HP.out.2.1 HR.out.1 HR.out.2.2 ht ahr.out hl.out).mono ?_;rintro e w3 ⟨rfl,h1,⟨v',h2,Cj⟩,h3,h4⟩;have HO:=zH5 h1 h2 Cj h3 h4;clear h1 h2 Cj h3 h4))
  go_ret;have MC:Kept (OF F) w w3:=(HR.out.2.1.wider (T:=OF F) (fun x _ e=>by rcases e with e | e;exact .inr (.inr (.inr (.inl e)));exact .inr (.inr (.inr (.inr e))))).trans HO.out.2.2.2.2 (fun _ _ e=>e);have ecl:L.JS (L.jI a.lg t) t=0:=by
   rw[e1.out.2.2.2];have:L.look t (L.set t (k-1) (dg a.I))=some (k-1):=by rw[L.BJ (n:=k) (by rw[gZ,HF.out];rfl)];simp
   simp[L.JS,this]
  have els:L.Sa (L.jI a.lg t) t=({ a with used:=a.used+1,I:=mD t a.I }:Ad).lg:=by
   rw[e1.out.2.2.2];simp only[L.Sa,Pn,Ad.lg,yh]
  have BX:=H.out.ok.Dp t;rw[e1.out.2.1] at BX;refine⟨by rw[e1.out.1,<-ecl];rfl,v',?_,HO.out.2.2.1,MC.wider fun x _ e=>e.has⟩;rw[e1.out.2.1];have hr:=HO.out.2.2.2.1;rw[els] at hr;exact H.out.akQ HM.out.1 HM.out.2.1 HM.out.2.2 HF.out MC (by omega) HO.out.1 HO.out.2.1 HO.out.2.2.1 hr BX
end
abbrev Xp (bl lc mr hi cl:Int):Value:=.agg #[.int .i64 bl,.int .i64 lc,.int .i64 mr,.int .i64 hi,.int .i64 cl]
abbrev ae0 (bl lc mr hi cl:Int):Obj:=.cells #[.int .i64 bl,.int .i64 lc,.int .i64 mr,.int .i64 hi,.int .i64 cl] 23
theorem ah6{bl mr:Int}(h:B.sQ bl mr=true):B.gA [0] bl mr=([0],0):=by
 have h':1<=bl/\bl<=64/\1<=mr/\mr<=16/\mr<=bl:=by simpa [B.sQ] using h
 have e1:B.xh [0] bl=true:=by simp[B.xh];omega
 have e2:B.iq [0]=[0]:=rfl;unfold B.gA;rw[aD (by rw[h];simp)];simp[e1,e2];omega
section
variable {bl lc mr hi cl:Int}
theorem Ld(w:World)(h:B.sQ bl mr=true)(h2:L.BH lc hi)(h3:1<=cl)(h4:cl<=8):Calls prog 120 #[Xp bl lc mr hi cl] w fun e w'=>∃lb lm,e=.returned (.tuple #[qp lb,.bool (decide (mr+1<=lc))])/\L.bE w' lb lm 0 (L.kM lc hi)/\w.heap.size<=lb/\w.heap.size<=lm/\Below w.heap.size w w':=by
 have h':1<=bl/\bl<=64/\1<=mr/\mr<=16/\mr<=bl:=by simpa [B.sQ] using h
 have HF:=zH (ah6 h);have H2:=zH h2;have hw:IntKind.i64.wrap (mr+1)=mr+1:=by rw[aY];omega
 have HE:Hid (L.nW (L.kM lc hi) (mr+1)=decide (mr+1<=lc)):=by
  show _=_;simp only[L.nW,L.kM,L.total]
  congr 1
  exact propext ⟨fun h=>by omega,fun h=>by omega⟩
 clear h h2 h';have HI:Hid (B.pZ ((w.alloc (ae0 bl lc mr hi cl)).alloc (.cells #[.int .i64 0] 3)) (some ⟨w.heap.size+1,0,none⟩) 1 [0]):=by
  have:=B.ye (w.alloc (ae0 bl lc mr hi cl)) [0] 1 rfl;rw[a_] at this;exact this
 go_enter func120,ntmps120;go_wp2_with (first
  | (go_at_call 85;refine (B.Gd _ 1 1 [0] bl mr [0] 0 HF.out _ (by omega) HI.out).mono ?_;rintro e w2 ⟨q,d,rfl,hm⟩;have HB:Hid (Below w.heap.size w w2):=ah (ag w _) (ah (ag _ _) hm.below);have cc:∀o,w2.cell? ⟨w.heap.size,o,none⟩=(#[Value.int .i64 bl,.int .i64 lc,.int .i64 mr,.int .i64 hi,.int .i64 cl]:Array Value)[o]?:=fun o=>((hm.below.cell (p:=⟨w.heap.size,o,none⟩) (by simp;omega)).trans ((ag (w.alloc (ae0 bl lc mr hi cl)) (.cells #[.int .i64 0] 3)).cell (p:=⟨w.heap.size,o,none⟩) (by simp))).trans (aq _ w.heap.size o _ 23 (0,0) (aG w _));have c1:w2.cell? ⟨w.heap.size,1,none⟩=some (.int .i64 lc):=cc 1;have c2:w2.cell? ⟨w.heap.size,2,none⟩=some (.int .i64 mr):=cc 2;have c3:w2.cell? ⟨w.heap.size,3,none⟩=some (.int .i64 hi):=cc 3;have c4:w2.cell? ⟨w.heap.size,4,none⟩=some (.int .i64 cl):=cc 4;have uW:w.heap.size<w2.heap.size:=cG w2 _ c1;clear hm cc)
  | (go_at_call 181;refine (L.Md _ H2.out).mono ?_;rintro e w3 ⟨rfl,h3',h4'⟩;have HR:Hid (L.bE w3 (w2.heap.size+1) w2.heap.size 0 (L.kM lc hi)/\w.heap.size<=w2.heap.size/\Below w.heap.size w w3):=⟨h3',Nat.le_of_lt uW,ah HB.out h4'⟩;have d4:w3.cell? ⟨w.heap.size,4,none⟩=some (.int .i64 cl):=(h4'.cell (p:=⟨w.heap.size,4,none⟩) uW).trans c4;have d2:w3.cell? ⟨w.heap.size,2,none⟩=some (.int .i64 mr):=(h4'.cell (p:=⟨w.heap.size,2,none⟩) uW).trans c2;clear h3' h4')
  | (go_at_call 154;refine (L.tX HR.out.1 (L.Ok.new H2.out) (mr+1)).mono ?_;rw[HE.out];rintro e w4 ⟨rfl,nq,rfl⟩))
 go_ret2;exact⟨_,_,rfl,HR.out.1.drawn _,by have:=HR.out.2.1;omega,HR.out.2.1,ah HR.out.2.2 (av _)⟩
theorem ID:kf bl lc mr hi cl↔B.sQ bl mr=true/\L.BH lc hi/\(1<=cl/\cl<=8)/\mr+1<=lc:=by
 simp only[kf,B.sQ,L.BH,gx];omega
theorem Qw(w:World)(h:kf bl lc mr hi cl):Calls prog 120 #[Xp bl lc mr hi cl] w fun e w'=>∃lb lm,e=.returned (.tuple #[qp lb,.bool true])/\L.bE w' lb lm 0 (L.kM lc hi)/\w.heap.size<=lb/\w.heap.size<=lm/\Below w.heap.size w w':=by
 obtain ⟨h1,h2,h3,h4⟩:=ID.1 h;have:=Ld w h1 h2 h3.1 h3.2
 rwa [aP h4] at this
theorem Md(w:World)(h:kf bl lc mr hi cl):Calls prog 58 #[Xp bl lc mr hi cl] w fun e w'=>∃F,e=.returned (.tuple #[qp F.Q,.int .i64 0])/\PL w' F 0 (zq bl lc mr hi cl)/\(∀b,F.has b->w.heap.size<=b)/\Below w.heap.size w w':=by
 have HM:=zH h;have Kr:=@run_makeMap prog;clear h;go_enter func58,ntmps58;go_wp2_with (go_at_call 120;refine (Qw _ HM.out).mono ?_;rintro e w2 ⟨lb,lm,rfl,hr,h1,h2,hb⟩;have HB:Hid (Below w.heap.size w w2/\L.bE w2 lb lm 0 (L.kM lc hi)/\w.heap.size<=lb/\w.heap.size<=lm):=⟨ah (ag w _) hb,hr,by simp at h1;omega,by simp at h2;omega⟩;have cc:∀o,w2.cell? ⟨w.heap.size,o,none⟩=(#[Value.int .i64 bl,.int .i64 lc,.int .i64 mr,.int .i64 hi,.int .i64 cl]:Array Value)[o]?:=fun o=>(hb.cell (p:=⟨w.heap.size,o,none⟩) (by simp)).trans (aq _ w.heap.size o _ 23 (0,0) (aG w _));have c0:w2.cell? ⟨w.heap.size,0,none⟩=some (.int .i64 bl):=cc 0;have c1:w2.cell? ⟨w.heap.size,1,none⟩=some (.int .i64 lc):=cc 1;have c2:w2.cell? ⟨w.heap.size,2,none⟩=some (.int .i64 mr):=cc 2;have c3:w2.cell? ⟨w.heap.size,3,none⟩=some (.int .i64 hi):=cc 3;have c4:w2.cell? ⟨w.heap.size,4,none⟩=some (.int .i64 cl):=cc 4;have uW:w.heap.size<w2.heap.size:=cG w2 _ c1;clear hr h1 h2 hb cc)
 go_ret2;have sV:=HB.out.1.size;refine⟨⟨w2.heap.size+1+1+1,w2.heap.size,w2.heap.size+1,w2.heap.size+1+1,lb,lm,gR,gR,fun _=>False⟩,rfl,?_,?_,?_⟩
 ·obtain ⟨V,hV⟩:=zE (((w2.alloc (.cells #[gR,.int .u64 0] 211)).alloc (.cells #[gR,.int .u64 0] 211)).alloc (.map #[] 0));have hVs:V.heap.size=w2.heap.size+1+1+1:=by rw[<-hV];simp
  have q1:=mS.new w2 211 (m:=0) (Row.empty w2);have q2:=mS.new (w2.alloc (.cells #[gR,.int .u64 0] 211)) 211 (m:=0) (Row.empty _);have m1:=tZ.made ((w2.alloc (.cells #[gR,.int .u64 0] 211)).alloc (.cells #[gR,.int .u64 0] 211));have b1:Below (w2.alloc (.cells #[gR,.int .u64 0] 211)).heap.size (w2.alloc (.cells #[gR,.int .u64 0] 211)) V:=by rw[<-hV];exact ah (ag _ _) (ag _ _)
  have b2:Below ((w2.alloc (.cells #[gR,.int .u64 0] 211)).alloc (.cells #[gR,.int .u64 0] 211)).heap.size ((w2.alloc (.cells #[gR,.int .u64 0] 211)).alloc (.cells #[gR,.int .u64 0] 211)) V:=by rw[<-hV];exact ag _ _
  have b0:Below w2.heap.size w2 V:=ah (ag w2 _) b1;have bV:=ag V (.cells #[.int .i64 bl,.int .i64 lc,.int .i64 mr,.int .i64 hi,.int .i64 cl,.int .u64 1,qp w2.heap.size,qp (w2.heap.size+1),.map (some (w2.heap.size+1+1)),qp lb] 115);have st:=aG V (.cells #[.int .i64 bl,.int .i64 lc,.int .i64 mr,.int .i64 hi,.int .i64 cl,.int .u64 1,qp w2.heap.size,qp (w2.heap.size+1),.map (some (w2.heap.size+1+1)),qp lb] 115);rw[hV] at m1;rw[hVs] at st;simp only[a_] at q2 m1;have hlm:=HB.out.2.1.mp.lt;refine⟨by rw[hV];exact st,by rw[hV];exact (q1.later b1).later bV,by rw[hV];exact (q2.later b2).later bV,?_,by rw[hV];exact (HB.out.2.1.later b0).later bV,Ad.Ok.new HM.out,by show w2.heap.size≠w2.heap.size+1;omega,fun g hg=>(by cases hg),by show w2.heap.size+1+1≠lm;omega⟩;rw[hV];exact⟨_,m1.kept (bV.block _ (by rw[hVs];omega)),fun t v hv=>(by cases hv),fun x hx=>(by cases hx)⟩
 ·rintro b (rfl | rfl | rfl | e | e | rfl | rfl | rfl)
  ·show w.heap.size<=w2.heap.size+1+1+1;omega
  ·exact sV
  ·show w.heap.size<=w2.heap.size+1;omega
  ·cases e
  ·cases e
  ·show w.heap.size<=w2.heap.size+1+1;omega
  ·exact HB.out.2.2.1
  ·exact HB.out.2.2.2
 ·exact ah HB.out.1 (ah (ag _ _) (ah (ag _ _) (ah (ag _ _) (ag _ _))))
end
section
variable {w w':World} {F:Ft} {n:Nat} {a:Ad}
theorem h_(w:World):Below w.heap.size w w.drew:=(aV _ w).drew
theorem Ss(h:PL w F n a){p:Option Addr}{m c:Nat}{xs f:List Int}{E:Int}(hI:B.pZ w p m xs)(hm:m+80<=17592186044416)(hf:B.gA xs a.bl a.mr=(f,E))(hE:E≠0) :
  Calls prog 37 #[qp F.Q,.slice p m c] w fun e w'=>e=.returned (.tuple #[.int .u64 0,gR,.int .i64 E])/\Below w.heap.size w w':=by
 have HI:Hid (B.pZ w.drew p m xs):=⟨hI.len,hI.cells⟩
 have HF:=zH hf;have hEb:(E != 0)=true:=by simpa using hE
 have c0:w.drew.cell? ⟨F.Q,0,none⟩=some (.int .i64 a.bl):=h.c 0;have c2:w.drew.cell? ⟨F.Q,2,none⟩=some (.int .i64 a.mr):=h.c 2;clear hI hf h hE;go_enter func37,ntmps37;go_wp2_with fail
 go_region_with (go_at_call 85;refine (B.Gd p m c xs a.bl a.mr f E HF.out w.drew (by omega) HI.out).mono ?_;rintro e w2 ⟨q,d,rfl,sZ⟩;have HB:Hid (B.Made w.drew w2 q f.length d f):=sZ;clear sZ)
 all_goals (go_wp2;go_ret3;exact⟨rfl,ah (h_ w) HB.out.below⟩)
theorem gU{w:World}{base:Nat}{e:TypeId}{size:Nat}{v:Value}{n:Nat}{xs:List Value}(h:w.ownsRow base e size v n xs){g:Nat}(hg:bC v=some g):base<=g:=by
 rcases h.2 with ⟨rfl,_⟩ | ⟨g',cap,cur,rfl,h1,_⟩
 ·cases hg
 ·cases hg;exact h1
theorem qx{t:Int}(h0:0<=t)(h1:t<=1000):L.vG t:=by
 have e1:IntKind.u64.min=0:=by decide
 have e2:IntKind.u64.max=18446744073709551615:=by decide
 simp only[L.vG,Lit.wf,e1,e2,Bool.and_eq_true,gx];omega
theorem WI(xs:List Int)(b m:Int):(B.gA xs b m).1.length<=16:=B.yE xs b m
end
section
variable {w w':World} {F:Ft} {n:Nat} {a:Ad}
theorem WY(h:PL w F n a)(hN:a.next<=1000)(hW:a.Af=false):Calls prog 38 #[qp F.Q] w fun e w'=>e=.returned (.tuple #[.int .u64 0,gR,.int .i64 110])/\Below w.heap.size w w':=by
 have HC:=th h hN;rw[hW] at HC;have Tw:=zH HC;clear HC h hW;go_enter func38,ntmps38;go_wp2_with (go_at_call 88;refine Tw.out.mono ?_;rintro e w1 ⟨v,rfl,uY,hb⟩;have HB:=zH hb;clear uY hb)
 go_ret3;exact⟨rfl,HB.out⟩
theorem WV{a:Ad}(h:a.Ok){x:Int × List Int}{r:List (Int × List Int)}(hW:a.W=x :: r):L.look x.1 (dg a.I)=none/\x.1≠0:=by
 have h1:=h.Ny x (by rw[hW];exact bS ..);have h0:=h.vg;refine⟨?_,by omega⟩;rw[gZ,Ph.2]
 ·rfl
 ·intro hx;obtain ⟨y,hy,e⟩:=cF.1 hx;have:=h.VW y hy;omega
theorem Zp{a:Ad}(h:a.Ok){x:Int × List Int}{r:List (Int × List Int)}(hW:a.W=x :: r)(hf:a.fits=true):L.ue a.lg x.1 ((x.2.length:Int)+1)=0/\L.Qu a.lg x.1 ((x.2.length:Int)+1)=({ a with W:=r,I:=a.I++[(x.1,x.2,(x.2.length:Int)+1)],got:=x.1 }:Ad).lg:=by
 obtain ⟨h1,h2⟩:=WV h hW;have e1:L.nW a.lg ((x.2.length:Int)+1)=true:=by
  have:=Gf (a:=a) (by simp[Ad.Af,hW]);rw[show a.fF=x.2 by simp[Ad.fF,hW]] at this;rw[this,hf]
 have e2:L.ue a.lg x.1 ((x.2.length:Int)+1)=0:=by
  have e3:¬(x.1=0\/(x.2.length:Int)+1<1):=by omega
  have e4:L.look x.1 a.lg.L=none:=h1;exact L.NU e3 e4 e1
 refine⟨e2,?_⟩;rw[L.NT e2];simp only[Ad.lg,Ew]
theorem adk{a:Ad}(h:a.Ok){x:Int × List Int}{r:List (Int × List Int)}(hW:a.W=x :: r)(hf:a.fits=false):L.ue a.lg x.1 ((x.2.length:Int)+1)=120/\L.Qu a.lg x.1 ((x.2.length:Int)+1)=a.lg:=by
 obtain ⟨h1,h2⟩:=WV h hW;have e1:L.nW a.lg ((x.2.length:Int)+1)=false:=by
  have:=Gf (a:=a) (by simp[Ad.Af,hW]);rw[show a.fF=x.2 by simp[Ad.fF,hW]] at this;rw[this,hf]
 have e2:L.ue a.lg x.1 ((x.2.length:Int)+1)=120:=by
  have e3:¬(x.1=0\/(x.2.length:Int)+1<1):=by omega
  have e4:L.look x.1 a.lg.L=none:=h1;exact L.Ed e3 e4 e1
 exact⟨e2,L.wj (by rw[e2];decide)⟩
theorem MQ(h:PL w F n a)(hn:n<10000)(hN:a.next<=1000){x:Int × List Int}{r:List (Int × List Int)}(hW:a.W=x :: r)(hf:a.fits=false):Calls prog 38 #[qp F.Q] w fun e w'=>e=.returned (.tuple #[.int .u64 0,gR,.int .i64 120])/\PL w' F (n+1) a/\Kept F.has w w':=by
 have HC:=th h hN;have hl:=h.ok.jq;have HU:Hid (L.vG x.1):=by have h1:=h.ok.Ny x (by rw[hW];exact bS ..);have h0:=h.ok.vg;exact qx (by omega) (by omega)
 rw[show a.Af=true by simp[Ad.Af,hW],show a.fT=x.1 by simp[Ad.fT,hW],show a.fF=x.2 by simp[Ad.fF,hW]] at HC;rw[show a.fF=x.2 by simp[Ad.fF,hW]] at hl;have Tw:=zH HC;have HR:=zH (adk h.ok hW hf);have H:=zH h;clear HC h hW hf;go_enter func38,ntmps38;go_wp2_with (go_at_call 88;refine Tw.out.mono ?_;rintro e w1 ⟨v,rfl,uY,hb⟩;obtain ⟨p,c,rfl,-⟩:=uY.read;have HB:=zH hb;clear uY hb;have MK:Hid (PL w1.drew F n a):=(H.out.later HB.out).later (h_ _);have c9:w1.drew.cell? ⟨F.Q,9,none⟩=some (qp F.lb):=MK.out.c 9)
 go_region_with (first | (go_at_call 90;refine (oJ _ _ _ (by omega) _).mono ?_;rintro e w' ⟨rfl,rfl⟩) | (go_at_call 89;refine (L.Bi MK.out.rm MK.out.ok.lok hn HU.out ((x.2.length:Int)+1)).mono ?_;rw[HR.out.1,HR.out.2];rintro e w2 ⟨rfl,h1,h2⟩;have H2:Hid (L.bE w2 F.lb F.lm (n+1) a.lg/\Kept (L.LF F.lb F.lm) w1.drew w2):=⟨h1,h2⟩;clear h1 h2))
 all_goals (
  clear c9;go_wp2;go_ret3;exact⟨rfl,MK.out.led H2.out.2 H2.out.1 (di _) rfl rfl rfl rfl rfl (fun x hx=>hx) MK.out.ok,((Kept.bP _ HB.out).trans (Kept.bP (fun _=>False) (h_ w1)) (fun _ _ e=>e.elim)).trans H2.out.2 (fun x _ e=>PL.MJ F e)⟩)
theorem PL.aaO{w2 w3 w4:World}{x:Int × List Int}{r:List (Int × List Int)}{Nz Fc:Value}(h:PL w F n a)(N:Ne F)(hW:a.W=x :: r)(wR:Kept (L.LF F.lb F.lm) w w2)(OM:L.bE w2 F.lb F.lm (n+1) ({ a with W:=r,I:=a.I++[(x.1,x.2,(x.2.length:Int)+1)],got:=x.1 }:Ad).lg)
  (hQ1:mS 211 w3 F.q1 Nz (wt r) (a.next-1)) (qj:bC Nz=bC F.v1) (tU:Kept (fun b=>b=F.q1\/bC F.v1=some b) w2 w3) (hQ2:mS 211 w4 F.q2 Fc (it a.I++[x.1]) x.1) (RA:Kept (fun b=>b=F.q2\/bC F.v2=some b) w3 w4) (uT:bC Fc=bC F.v2\/∃g,bC Fc=some g/\w.heap.size<=g)
  (ok:({ a with W:=r,I:=a.I++[(x.1,x.2,(x.2.length:Int)+1)],got:=x.1 }:Ad).Ok) :
  PL w4 { F with v1:=Nz,v2:=Fc } (n+1) { a with W:=r,I:=a.I++[(x.1,x.2,(x.2.length:Int)+1)],got:=x.1 }/\Kept F.has w w4:=by
 have eP:∀b,F.has b->b<w.heap.size:=fun b hb=>h.lt hb;have Rk:Kept F.has w w4:=((wR.wider (T:=F.has) (fun x _ e=>PL.MJ F e)).trans tU (fun x _ e=>by rcases e with e | e;exact .inr (.inl e);exact .inr (.inr (.inr (.inl e))))).trans RA (fun x _ e=>by rcases e with e | e;exact .inr (.inr (.inl e));exact .inr (.inr (.inr (.inr (.inl e)))));have kB:Kept (fun b=>F.has b/\b≠F.mb) w w4:=((wR.wider (T:=fun b=>F.has b/\b≠F.mb) (fun x _ e=>⟨PL.MJ F e,by rcases e with rfl | rfl;exact Ne.symm N.ml;exact Ne.symm N.mn⟩)).trans tU (fun x _ e=>by rcases e with rfl | e;exact⟨.inr (.inl rfl),N.q1m⟩;exact⟨.inr (.inr (.inr (.inl e))),(N.v1 _ e).2.2.2.1⟩)).trans RA (fun x _ e=>by rcases e with rfl | e;exact⟨.inr (.inr (.inl rfl)),N.q2m⟩;exact⟨.inr (.inr (.inr (.inr (.inl e)))),(N.v2 _ e).2.2.2.1⟩);have s2:=wR.size;have s3:=tU.size;refine⟨⟨?_,?_,?_,?_,?_,ok,h.Of,fun g hg=>?_,h.mm⟩,Rk⟩
 ·show w4.heap[F.Q]?=_;refine (RA.block _ (by have:=eP F.Q (.inl rfl);omega) (by rintro (e | e);exact N.Qq2 e;exact (N.v2 _ e).1 rfl)).trans ((tU.block _ (by have:=eP F.Q (.inl rfl);omega) (by rintro (e | e);exact N.Qq1 e;exact (N.v1 _ e).1 rfl)).trans ((wR.block _ (eP _ (.inl rfl)) (by rintro (e | e);exact N.Ql e;exact N.Qn e)).trans h.st))
 ·exact hQ1.mO RA (by rintro (e | e);exact N.Of e;exact (N.v2 _ e).2.1 rfl) (fun g hg=>by rw[qj] at hg;rintro (e | e);exact (N.v1 g hg).2.2.1 e;exact N.v12 g hg e)
 ·show mS _ _ _ _ (it (a.I++[_])) _;rw[VL];exact hQ2
 ·refine (((h.fm.mO kB (fun e=>e.2 rfl) (fun g _ hg e=>h.sO hg e.1)).mono (di n)).sub fun y hy=>?_)
  ·simp only[Ad.fl,bH,cZ,l_,List.map_nil,hW,bZ,dL,or_false] at hy ⊢;rcases hy with hy | hy | hy
   ·exact .inl (.inr hy)
   ·exact .inr hy
   ·exact .inl (.inl hy)
 ·exact (OM.kept (tU.block _ OM.lt (by rintro (e | e);exact N.q1l e.symm;exact (N.v1 _ e).2.2.2.2.1 rfl)) (tU.block _ OM.mp.lt (by rintro (e | e);exact N.q1n e.symm;exact (N.v1 _ e).2.2.2.2.2 rfl))).kept (RA.block _ (by have:=OM.lt;omega) (by rintro (e | e);exact N.q2l e.symm;exact (N.v2 _ e).2.2.2.2.1 rfl)) (RA.block _ (by have:=OM.mp.lt;omega) (by rintro (e | e);exact N.q2n e.symm;exact (N.v2 _ e).2.2.2.2.2 rfl))
 ·rw[show ({ F with v1:=Nz,v2:=Fc }:Ft).v1=Nz from rfl,qj] at hg;show ¬bC Fc=some g;rcases uT with e | ⟨g',e,EK⟩
  ·rw[e];exact h.v12 g hg
  ·rw[e];intro e2;cases e2;have:=eP g (.inr (.inr (.inr (.inl hg))));omega
theorem WX(h:PL w F n a)(hn:n<10000)(hN:a.next<=1000){x:Int × List Int}{r:List (Int × List Int)}(hW:a.W=x :: r)(hf:a.fits=true)(ok:({ a with W:=r,I:=a.I++[(x.1,x.2,(x.2.length:Int)+1)],got:=x.1 }:Ad).Ok) :
  Calls prog 38 #[qp F.Q] w fun e w'=>∃q d Nz Fc,e=.returned (.tuple #[.int .u64 x.1,.slice q x.2.length d,.int .i64 0])/\w'.ownsRow w.heap.size 3 1 (.slice q x.2.length d) x.2.length (o_ x.2)/\PL w' { F with v1:=Nz,v2:=Fc } (n+1) { a with W:=r,I:=a.I++[(x.1,x.2,(x.2.length:Int)+1)],got:=x.1 }/\bC Nz=bC F.v1/\(bC Fc=bC F.v2\/∃g,bC Fc=some g/\w.heap.size<=g)/\Kept F.has w w':=by
 have HC:=th h hN;have hl:=h.ok.jq;have h1:=h.ok.Ny x (by rw[hW];exact bS ..);have h0:=h.ok.vg;have HU:Hid (L.vG x.1):=qx (by omega) (by omega);have hgt:¬x.1<=a.got:=by omega
 have hwl:(wt a.W).length<=1000:=by have:=h.ok.xA;simp only[wt,dI];omega
 have hil:(it a.I).length<=1000:=by have:=h.ok.sS;simp only[it,dI];omega
 rw[show a.Af=true by simp[Ad.Af,hW],show a.fT=x.1 by simp[Ad.fT,hW],show a.fF=x.2 by simp[Ad.fF,hW]] at HC;rw[show a.fF=x.2 by simp[Ad.fF,hW]] at hl;have Tw:=zH HC;have HR:=zH (Zp h.ok hW hf);have H:=zH h;have N:=zH h.ne;have HW:=zH hW;have HO:=zH ok;clear HC h hW hf ok h1 h0;go_enter func38,ntmps38;go_wp2_with (go_at_call 88;refine Tw.out.mono ?_;rintro e w1 ⟨v,rfl,uY,hb⟩;obtain ⟨p,c,rfl,-⟩:=uY.read;have HB:=rf hb uY;clear uY hb;have MK:Hid (PL w1.drew F n a):=(H.out.later HB.out.1).later (h_ _);have c9:w1.drew.cell? ⟨F.Q,9,none⟩=some (qp F.lb):=MK.out.c 9)
 go_region_with (first | (go_at_call 90;refine (oJ _ _ _ (by omega) _).mono ?_;rintro e w' ⟨rfl,rfl⟩) | (go_at_call 89;refine (L.Bi MK.out.rm MK.out.ok.lok hn HU.out ((x.2.length:Int)+1)).mono ?_;rw[HR.out.1];rintro e w2 ⟨rfl,h1,h2⟩;have H2:Hid (L.bE w2 F.lb F.lm (n+1) (L.Qu a.lg x.1 ((x.2.length:Int)+1))/\Kept (L.LF F.lb F.lm) w1.drew w2):=⟨h1,h2⟩;clear h1 h2))
 all_goals (
  clear c9;have Ru:Hid (w2.heap[F.Q]?=some (.cells (fH F a) 115 (0,0))):=(H2.out.2.block _ (MK.out.lt (.inl rfl)) (by rintro (e | e);exact N.out.Ql e;exact N.out.Qn e)).trans MK.out.st;have ahV:Hid (mS 211 w2 F.q1 F.v1 (x.1 :: wt r) (a.next-1)):=by
   have:=MK.out.l1.mO H2.out.2 (by rintro (e | e);exact N.out.q1l e;exact N.out.q1n e) (fun g hg=>by rintro (e | e);exact (N.out.v1 g hg).2.2.2.2.1 e;exact (N.out.v1 g hg).2.2.2.2.2 e);rw[HW.out] at this;exact this
  have ahU:Hid (mS 211 w2 F.q2 F.v2 (it a.I) a.got):=MK.out.l2.mO H2.out.2 (by rintro (e | e);exact N.out.q2l e;exact N.out.q2n e) (fun g hg=>by rintro (e | e);exact (N.out.v2 g hg).2.2.2.2.1 e;exact (N.out.v2 g hg).2.2.2.2.2 e);have d6:w2.cell? ⟨F.Q,6,none⟩=some (qp F.q1):=aq _ F.Q 6 _ 115 (0,0) Ru.out;go_wp2_with fail;clear d6;refine (PX ahV.out (by rw[HW.out] at hwl;simp[wt] at hwl ⊢;omega)).mono ?_;rintro e w3 ⟨rfl,Nz,h1,h2,h3⟩;have H3:=Av h1 h2 h3;clear h1 h2 h3;have Jt:Hid (F.Q<w2.heap.size):=(au.1 Ru.out).1;have uU:Hid (w3.heap[F.Q]?=some (.cells (fH F a) 115 (0,0))):=(H3.out.2.2.block _ Jt.out (by rintro (e | e);exact N.out.Qq1 e;exact (N.out.v1 _ e).1 rfl)).trans Ru.out;have ahT:Hid (mS 211 w3 F.q2 F.v2 (it a.I) a.got):=ahU.out.mO H3.out.2.2 (by rintro (e | e);exact N.out.Of e.symm;exact (N.out.v1 _ e).2.2.1 rfl) (fun g hg=>by rintro (e | e);exact (N.out.v2 g hg).2.1 e;exact N.out.v12 g e hg);have d7:w3.cell? ⟨F.Q,7,none⟩=some (qp F.q2):=aq _ F.Q 7 _ 115 (0,0) uU.out;go_wp2_with fail;clear d7;refine (Ij ahT.out x.1 (by omega) (by omega)).mono ?_;rintro e w4 ⟨rfl,Fc,h1,h2,h3⟩;have H4:=Av h1 h2 h3;clear h1 h2 h3;have GC:Hid (w.heap.size<=w1.drew.heap.size/\w1.drew.heap.size<=w3.heap.size):=⟨(ah HB.out.1 (h_ w1)).size,bJ H2.out.2.size H3.out.2.2.size⟩
  have HV:Hid (bC Fc=bC F.v2\/∃g,bC Fc=some g/\w1.drew.heap.size<=g):=by
   rcases H4.out.2.2 with e | ⟨g,e,hg⟩
   ·exact .inl e
   ·exact .inr ⟨g,e,bJ GC.out.2 hg⟩
  have Kz:Hid (PL w4 { F with v1:=Nz,v2:=Fc } (n+1) { a with W:=r,I:=a.I++[(x.1,x.2,(x.2.length:Int)+1)],got:=x.1 }/\Kept F.has w1.drew w4):=by
   have hr:=H2.out.1;rw[HR.out.2] at hr;exact MK.out.aaO N.out HW.out H2.out.2 hr H3.out.1 H3.out.2.1 H3.out.2.2 H4.out.1 H4.out.2.1 HV.out HO.out
  have alS:Hid (ow w4 (.slice p x.2.length c) x.2):=(HB.out.2.later (h_ w1)).mO Kz.out.2 (fun g _ hg=>MK.out.sO hg);clear Ru uU ahV ahU ahT;go_wp2_with fail;refine (yJ alS.out (by omega)).mono ?_;rintro e w6 ⟨q',d',rfl,hm6⟩;have H6:=zH hm6;clear hm6;go_wp2;go_ret3;refine⟨q',d',Nz,Fc,rfl,eH H6.out.own (bJ GC.out.1 Kz.out.2.size),Kz.out.1.later H6.out.below,H3.out.2.1,?_,(((Kept.bP _ HB.out.1).trans (Kept.bP (fun _=>False) (h_ w1)) (fun _ _ e=>e.elim)).trans Kz.out.2 (fun _ _ e=>e)).trans (Kept.bP (fun _=>False) H6.out.below) (fun _ _ e=>e.elim)⟩;rcases HV.out with e | ⟨g,e,hg⟩
  ·exact .inl e
  ·exact .inr ⟨g,e,bJ GC.out.1 hg⟩)
