import Derived.Test.YtcdjepkhdjpjcaaGreatDoorU05
set_option maxHeartbeats 20000000
set_option maxRecDepth 100000
namespace Go.Proofs.Zq
open Go.Proofs.Tryz
open Go.RowKit
def ZC (ws:List Wr)(vs:List Value):List Value:=(List.zipWith (fun (x:Wr) u=>[Value.int .i64 (x.s:Int),u]) ws vs).flatten
structure RD (w:World) (S:Nat->Prop) (p n:Nat) (d:List Int) (ws:List Wr) (g L cap:Nat) (v:Value) (vs:List Value):Prop where
 str:w.heap[p]?=some (.cells #[.slice (some ⟨g,0,none⟩) L cap,v] 236 (0,0))
 ze:w.ownsRow 0 5 1 (.slice (some ⟨g,0,none⟩) L cap) L (U8 d)
 wr:w.ownsRow 0 237 2 v ws.length (ZC ws vs)
 len:vs.length=ws.length
 dat:∀i (h:i<ws.length) (h2:i<vs.length),w.ownsRow 0 5 1 vs[i] 64 (U8 ws[i].b)
 ne:∀i (h2:i<vs.length),vs[i].ownBlock≠some g
 sp:S p
 sg:S g
 sv:∀k,v.ownBlock=some k->S k
 sd:∀i (h2:i<vs.length) k,vs[i].ownBlock=some k->S k
 hL:L=64*n
 n1:1<=n
 n2:n<=4096
 dl:d.length=64*n
 db:Bytes d
 fit:Fit n ws
def Ref (w:World)(S:Nat->Prop)(p n:Nat)(d:List Int)(ws:List Wr):Prop:=∃g L cap v vs,RD w S p n d ws g L cap v vs
theorem RD.bC{w:World}{S:Nat->Prop}{p n:Nat}{d:List Int}{ws:List Wr}{g L cap:Nat}{v:Value}{vs:List Value}(h:RD w S p n d ws g L cap v vs):pJ w p 236 2:=⟨_,h.str,rfl⟩
theorem RD.cell0{w:World}{S:Nat->Prop}{p n:Nat}{d:List Int}{ws:List Wr}{g L cap:Nat}{v:Value}{vs:List Value}(h:RD w S p n d ws g L cap v vs):w.cell? ⟨p,0,none⟩=some (.slice (some ⟨g,0,none⟩) L cap):=by
 rw[aq w p 0 _ 236 (0,0) h.str];rfl
theorem RD.nH{w:World}{S:Nat->Prop}{p n:Nat}{d:List Int}{ws:List Wr}{g L cap:Nat}{v:Value}{vs:List Value}(h:RD w S p n d ws g L cap v vs):w.cell? ⟨p,1,none⟩=some v:=by
 rw[aq w p 1 _ 236 (0,0) h.str];rfl
theorem RD.same{w w':World}{S T:Nat->Prop}{p n:Nat}{d:List Int}{ws:List Wr}{g L cap:Nat}{v:Value}{vs:List Value}(h:RD w S p n d ws g L cap v vs)(hs:∀k,k<w.heap.size->S k->T k)(e:∀k,k<w.heap.size->S k->w'.heap[k]?=w.heap[k]?):RD w' T p n d ws g L cap v vs :=
 have hp:=h.bC.lt;have hg:=(gU h.ze).1.lt;have hv:∀k,v.ownBlock=some k->k<w.heap.size:=fun _ hk=>(gY h.wr hk).elim fun _ hb=>hb.lt;have hd:∀i (h2:i<vs.length) k,vs[i].ownBlock=some k->k<w.heap.size:=fun i h2 _ hk=>(gY (h.dat i (by have:=h.len;omega) h2) hk).elim fun _ hb=>hb.lt
 ⟨(e p hp h.sp).trans h.str,gO h.ze (fun k hk=>by simp only[Value.ownBlock,aC] at hk;subst hk;exact e _ hg h.sg),gO h.wr (fun k hk=>e k (hv k hk) (h.sv k hk)),h.len,fun i h1 h2=>gO (h.dat i h1 h2) (fun k hk=>e k (hd i h2 k hk) (h.sd i h2 k hk)),h.ne,hs p hp h.sp,hs g hg h.sg,fun k hk=>hs k (hv k hk) (h.sv k hk),fun i h2 k hk=>hs k (hd i h2 k hk) (h.sd i h2 k hk),h.hL,h.n1,h.n2,h.dl,h.db,h.fit⟩
theorem RD.later{w w':World}{S:Nat->Prop}{p n:Nat}{d:List Int}{ws:List Wr}{g L cap:Nat}{v:Value}{vs:List Value}(h:RD w S p n d ws g L cap v vs)(hb:Below w.heap.size w w'):RD w' S p n d ws g L cap v vs :=
 h.same (fun _ _=>id) (fun k' kN _=>hb.block k' kN)
theorem Ref.later{w w':World}{S:Nat->Prop}{p n:Nat}{d:List Int}{ws:List Wr}(h:Ref w S p n d ws)(hb:Below w.heap.size w w'):Ref w' S p n d ws:=by
 obtain ⟨g,L,cap,v,vs,h⟩:=h;exact⟨g,L,cap,v,vs,h.later hb⟩
theorem Ref.kept{w w':World}{S T:Nat->Prop}{p n:Nat}{d:List Int}{ws:List Wr}(h:Ref w S p n d ws)(hk:Kept T w w')(hd:∀k,S k->T k->False):Ref w' S p n d ws:=by
 obtain ⟨g,L,cap,v,vs,h⟩:=h;exact⟨g,L,cap,v,vs,h.same (fun _ _=>id) (fun k kN hs=>hk.block k kN (fun t=>hd k hs t))⟩
theorem Ref.mono{w:World}{S T:Nat->Prop}{p n:Nat}{d:List Int}{ws:List Wr}(h:Ref w S p n d ws)(hs:∀k,k<w.heap.size->S k->T k):Ref w T p n d ws:=by
 obtain ⟨g,L,cap,v,vs,h⟩:=h;exact⟨g,L,cap,v,vs,h.same hs (fun _ _ _=>rfl)⟩
theorem Bg{w:World}{S:Nat->Prop}{p n:Nat}{d:List Int}{ws:List Wr}(h:Ref w S p n d ws):Calls prog 122 #[.pointer (some ⟨p,0,none⟩)] w fun e w'=>e=.returned (.int .i64 n)/\w=w':=by
 obtain ⟨g,L,cap,v,vs,h⟩:=h;have h0:=h.cell0;have e1:(L:Int) / 64=(n:Int):=by have:=h.hL;omega
 have MB:=h.n2;have hw:Go.RowKit.wrap64 (n:Int)=(n:Int):=by have:=aY (n:Int);unfold Go.RowKit.wrap64;omega
 clear h;go_enter func122,ntmps122;go_wp2;go_ret;exact⟨rfl,rfl⟩
end Go.Proofs.Zq
namespace Go.Proofs.Zq
open Go.RowKit
section
variable {P:Program} {ops:Array Oper} {Q:Exit->Act->World->Prop} {md:Region.Mode} {S:World->Prop} {L:Nat}
def iC (P:Program)(md:Region.Mode)(ops:Array Oper)(Q:Exit->Act->World->Prop)(S:World->Prop)(L:Nat):Nat->Array Bool->Act->World->Prop
 | 0,listed,a,w=>Region.ready md ops listed=[]/\Q .normal a w
 | fuel+1,listed,a,w =>
  (Region.ready md ops listed=[]->Q .normal a w) /\
  ∀i∈Region.ready md ops listed,wpOp P ops Q i (fun a' w'=>(i≠L->S w')/\iC P md ops Q S L fuel (listed.setIfInBounds i true) a' w') a w
theorem AH:∀(fuel:Nat) (listed:Array Bool)(a:Act)(w:World),iC P md ops Q S L fuel listed a w->wpAny P md ops Q fuel listed a w
 | 0,_,_,_,h=>h
 | fuel+1,_,_,_,h=>⟨h.1,fun i hi=>wpOp_mono (fun a' w' h'=>AH fuel _ a' w' h'.2) (h.2 i hi)⟩
theorem E_{i:Nat}{oi:Oper}{v:Value}(hi:ops[i]?=some oi)(ahg:∀(j:Nat) (o:Oper) cs b,ops[j]?=some o->o.op≠.select cs b)
  (hQ:∀c a w,Q (.panic c) (a.put oi.dst v) w->Q (.panic c) a w) (alZ:∀o,ops[L]?=some o->∃e∈o.after,Region.binds md e=true/\e.on=i) :
  ∀(fuel:Nat) (listed:Array Bool) (a:Act) (w:World),
   (∀j oj,ops[j]?=some oj->j≠i->listed.getD j true=false->(∀e∈oj.after,Region.binds md e=true->e.on≠i)->oi.apart ops oj=true) ->
   i∈Region.ready md ops listed->YieldsIf P ops S oi v a->S w ->
   iC P md ops Q S L fuel (listed.setIfInBounds i true) (a.put oi.dst v) w->iC P md ops Q S L (fuel+1) listed a w:=by
 intro fuel
 induction fuel with
 | zero =>
  intro listed a w _ hr hy hS H;refine⟨fun h=>(by rw[h] at hr;cases hr),fun j hj=>?_⟩;by_cases RE:j=i
  ·subst RE;exact hy.wpOp hi hS ⟨fun _=>hS,H⟩
  ·have:=ready_mono hj RE;rw[H.1] at this;cases this
 | succ fuel ih =>
  intro listed a w acp hr hy hS H;refine⟨fun h=>(by rw[h] at hr;cases hr),fun j hj=>?_⟩;by_cases RE:j=i
  ·subst RE;exact hy.wpOp hi hS ⟨fun _=>hS,H⟩
  ·have h1:=H.2 j (ready_mono hj RE);obtain ⟨ahw,oj,hoj,Ci⟩:=mem_ready.1 hj;have ahn:∀e∈oj.after,Region.binds md e=true->e.on≠i:=fun e he hb heq=>by
    have h1:=Ci e he hb;have h0:=(mem_ready.1 hr).1;rw[heq] at h1;rcases Nat.lt_or_ge i listed.size with h' | h'
    ·simp[h'] at h0 h1;rw[h0] at h1;cases h1
    ·simp[Array.getElem?_eq_none h'] at h1
   have hjL:j≠L:=fun e=>by
    subst e;obtain ⟨e,he,hb,ho⟩:=alZ oj hoj;exact ahn e he hb ho
   have h2:=wpOp_putIf hoj (acp j oj hoj RE ahw ahn) (fun cs b=>ahg i oi cs b hi) (fun cs b=>ahg j oj cs b hoj) hQ hy h1;have aet:∀k ok,ops[k]?=some ok->k≠i->(listed.setIfInBounds j true).getD k true=false ->
     (∀e∈ok.after,Region.binds md e=true->e.on≠i)->oi.apart ops ok=true:=fun k ok hk hki hun hno=>by
    refine acp k ok hk hki ?_ hno;by_cases RC:j=k
    ·subst RC;exact ahw
    ·rw[getD_set_ne true RC] at hun;exact hun
   refine wpOp_mono (fun a' w' h3=>⟨fun _=>h3.2.1 hjL,ih (listed.setIfInBounds j true) a' w' aet (ready_mono hr (Ne.symm RE)) h3.1 (h3.2.1 hjL) ?_⟩) h2;rw[Array.setIfInBounds_comm _ _ RE];exact h3.2.2
theorem iV{i:Nat}{oi:Oper}{v:Value}{fuel:Nat}{listed:Array Bool}{a:Act}{w:World}(hi:ops[i]?=some oi)
  (hs:Region.noSelect ops=true) (hf:Region.free md ops listed i=true) (hr:(Region.ready md ops listed).contains i=true)
  (hd:(match ops[L]? with | some o=>o.after.any (fun e=>Region.binds md e && e.on == i) | none=>true)=true)
  (hQ:∀c a w,Q (.panic c) (a.put oi.dst v) w->Q (.panic c) a w) (hy:YieldsIf P ops S oi v a) (hS:S w)
  (h:iC P md ops Q S L fuel (listed.setIfInBounds i true) (a.put oi.dst v) w):iC P md ops Q S L (fuel+1) listed a w :=
 E_ hi (Region.noSelect_spec hs) hQ (fun o ho=>by
  rw[ho] at hd;obtain ⟨e,he,hb⟩:=Array.any_eq_true'.1 hd;simp only[Bool.and_eq_true,beq_iff_eq] at hb;exact⟨e,he,hb.1,hb.2⟩) fuel listed a w (Region.free_spec hi hf) (by simpa using hr) hy hS h
theorem vS(i:Nat){oi:Oper}{v:Value}{fuel:Nat}{listed:Array Bool}{a a':Act}{w:World}(hS:S w)(h:iC P md ops Q S L fuel (listed.setIfInBounds i true) a' w)(hi:ops[i]?=some oi:=by simp;rfl)(hs:Region.noSelect ops=true:=by kernel_rfl)(hf:Region.free md ops listed i=true:=by kernel_rfl)(hr:(Region.ready md ops listed).contains i=true:=by kernel_rfl)(hd:(match ops[L]? with | some o=>o.after.any (fun e=>Region.binds md e && e.on == i) | none=>true)=true:=by kernel_rfl)(hg:Region.wanted oi (yielded ops a.tmps)=true:=by rfl)(hy:∀w,(execOp a.eval oi).run P w=.ok (.value v) w:=by intro w;go_simp;with_reducible rfl)(ha:a.put oi.dst v=a':=by simp only[Act.put,zA,zB,zC];with_reducible rfl)(hQ:∀c a w,Q (.panic c) (a.put oi.dst v) w->Q (.panic c) a w:=by exact fun _ _ _ h=>h):iC P md ops Q S L (fuel+1) listed a w :=
 iV hi hs hf hr hd hQ (.inl ⟨hg,fun w _=>hy w⟩) hS (ha ▸ h)
def aR (P:Program)(md:Region.Mode)(ops:Array Oper)(Q:Exit->Act->World->Prop)(S:World->Prop)(L fuel:Nat)(listed:Array Bool)(a:Act)(w:World)(rs:List Nat):Prop :=
 ∀i∈rs,wpOp P ops Q i (fun a' w'=>(i≠L->S w')/\iC P md ops Q S L fuel (listed.setIfInBounds i true) a' w') a w
theorem aR.nil{fuel:Nat}{listed:Array Bool}{a:Act}{w:World}:aR P md ops Q S L fuel listed a w []:=fun _ h=>by cases h
theorem aR.cons{fuel:Nat}{listed:Array Bool}{a:Act}{w:World}{i:Nat}{o:Oper}{rs:List Nat}(ho:ops[i]?=some o)
  (h:∀K':Act->World->Prop,Shut (∀a w,(i≠L->S w)->iC P md ops Q S L fuel (listed.setIfInBounds i true) a w->K' a w)->if Region.wanted o (yielded ops a.tmps)=true then Oper.wp P o a w K' Q else K' (a.put o.dst undef) w)
  (hs:aR P md ops Q S L fuel listed a w rs):aR P md ops Q S L fuel listed a w (i :: rs):=fun j hj=>by
 rcases bZ.1 hj with rfl | hj
 ·exact wpOp_step ho (fun K' hK=>h K' (fun a w hS hW=>hK a w ⟨hS,hW⟩))
 ·exact hs j hj
theorem bU{rs:List Nat}{fuel:Nat}{listed:Array Bool}{a:Act}{w:World}(hr:Region.ready md ops listed=rs)(kG:rs≠[])
  (h:aR P md ops Q S L fuel listed a w rs):iC P md ops Q S L (fuel+1) listed a w :=
 ⟨fun h0=>absurd (hr ▸ h0) kG,hr ▸ h⟩
theorem jY{listed:Array Bool}{a:Act}{w:World}(hr:Region.ready md ops listed=[])(h:Q .normal a w) :
  ∀fuel,iC P md ops Q S L fuel listed a w
 | 0=>⟨hr,h⟩
 | _+1=>⟨fun _=>h,by rw[hr];simp⟩
theorem jX{id:Nat}{a:Act}{w:World}(L:Nat)(S:World->Prop)(hm:P.follows .mixedOrders=true)
  (h:iC P .any ops Q S L ops.size (Array.replicate ops.size false) a w.drew):(Code.region id ops true).wp P Q a w :=
 wp_region_any hm (AH _ _ _ _ h)
end
open Go.Proofs.Tryz
theorem ad1:(prog.info? 237).map (fun i=>(i.zero,i.size,i.bytes))=some (some (.agg #[.int .i64 0,.slice none 0 0]),2,32):=by kernel_rfl
theorem abr{ws:List Wr}{vs:List Value}(h:vs.length=ws.length)(x:Wr)(u:Value):ZC (ws++[x]) (vs++[u])=ZC ws vs++[.int .i64 (x.s:Int),u]:=by
 unfold ZC;rw[List.zipWith_append h.symm];simp
theorem XS{ws:List Wr}{vs:List Value}:∀l∈List.zipWith (fun (x:Wr) u=>[Value.int .i64 (x.s:Int),u]) ws vs,l.length=2:=fun l hl=>by
 obtain ⟨i,hi,e⟩:=fL hl;rw[<-e];simp
theorem air{ws:List Wr}{vs:List Value}(h:vs.length=ws.length)(i:Nat)(hi:i<ws.length):(ZC ws vs)[i*2]?=some (.int .i64 (ws[i].s:Int))/\(ZC ws vs)[i*2+1]?=some (vs[i]'(by omega)):=by
 have hl:i<(List.zipWith (fun (x:Wr) u=>[Value.int .i64 (x.s:Int),u]) ws vs).length:=by simp;omega
 have e0:=pT _ (XS (ws:=ws) (vs:=vs)) i hl 0 (by omega);have e1:=pT _ (XS (ws:=ws) (vs:=vs)) i hl 1 (by omega);rw[Nat.mul_comm] at e0 e1;constructor
 ·unfold ZC;rw[show i*2=i*2+0 from rfl,e0];simp
 ·unfold ZC;rw[e1];simp
theorem KX{w w3 w4:World}{S:Nat->Prop}{p n:Nat}{d:List Int}{ws:List Wr}{g L cap:Nat}{v:Value}{vs:List Value}{i:Nat}{b:List Int}{sl:Value}{g' c':Nat}
  (h:RD w S p n d ws g L cap v vs) (hb:Below w.heap.size w w3) (I_:w3.ownsRow w.heap.size 5 1 sl 64 (U8 b))
  (dR:w4.ownsRow 0 237 2 (.slice (some ⟨g',0,none⟩) (ws.length+1) c') (ws.length+1) (ZC ws vs++[.int .i64 (i:Int),sl])) (cU:w3.grownBy w4 v.ownBlock) (lf:v.ownBlock=some g'\/w.heap.size<=g') (hi:i<n) (Jq:b.length=64) (Ku:Bytes b) :
  w4.cell? ⟨p,1,none⟩=some v/\w4.frozen? ⟨p,1,none⟩=false /\
  Ref (w4.setCell ⟨p,1,none⟩ (.slice (some ⟨g',0,none⟩) (ws.length+1) c')) (kX S w) p n d (ws++[⟨i,b⟩])/\Kept S w (w4.setCell ⟨p,1,none⟩ (.slice (some ⟨g',0,none⟩) (ws.length+1) c')):=by
 have h3:=h.later hb;have hp3:=h3.bC.lt;have hg3:=(gU h3.ze).1;have nv:∀k sz t,pJ w3 k t sz->t≠237->some k≠v.ownBlock:=fun k sz t hk ht e=>by
  obtain ⟨sz',kN⟩:=gY h3.wr e.symm;exact hk.ne kN ht rfl
 have bp:w4.heap[p]?=some (.cells #[.slice (some ⟨g,0,none⟩) L cap,v] 236 (0,0)):=(cU.block p hp3 (nv p 2 236 h3.bC (by decide))).trans h3.str;have b5:∀{base:Nat} {u:Value} {m:Nat} {xs:List Value},w3.ownsRow base 5 1 u m xs->w4.ownsRow base 5 1 u m xs:=fun {base u m xs} ho =>
  gO ho (fun k hk=>by
   obtain ⟨sz,xq⟩:=gY ho hk;exact cU.block k xq.lt (nv k sz 5 xq (by decide)))
 have hgp:g'≠p:=(gU dR).1.ne ⟨_,bp,rfl⟩ (by decide);have np:∀k sz t,pJ w4 k t sz->t≠236->k≠p:=fun k sz t hk ht=>hk.ne (sz':=2) ⟨_,bp,rfl⟩ ht;have b5':∀{base:Nat} {u:Value} {m:Nat} {xs:List Value},w3.ownsRow base 5 1 u m xs->(w4.setCell ⟨p,1,none⟩ (.slice (some ⟨g',0,none⟩) (ws.length+1) c')).ownsRow base 5 1 u m xs:=fun {base u m xs} ho =>
  gO (b5 ho) (fun k hk=>by
   obtain ⟨sz,xq⟩:=gY (b5 ho) hk;exact cJ _ _ _ _ (np k sz 5 xq (by decide)))
 refine⟨by rw[aq _ _ _ _ 236 (0,0) bp];rfl,mK _ _ _ _ 236 bp,⟨g,L,cap,.slice (some ⟨g',0,none⟩) (ws.length+1) c',vs++[sl],?_⟩,?_⟩
 ·refine⟨pK (cs:=[_,_]) bp 1 _,b5' h3.ze,?_,by simp[h.len],fun j h1 h2=>?_,fun j h2=>?_,.inl h.sp,.inl h.sg,fun k hk=>?_,fun j h2 k hk=>?_,h.hL,h.n1,h.n2,h.dl,h.db,h.fit.snoc hi Jq Ku⟩
  ·rw[abr h.len,aO,fO];exact gO dR (fun k hk=>cJ _ _ _ _ (by simp only[Value.ownBlock,aC] at hk;rw[<-hk];exact hgp))
  ·by_cases c:j<vs.length
   ·rw[dX c,dX (by have:=h.len;omega)];exact b5' (h3.dat j (by have:=h.len;omega) c)
   ·have e:j=ws.length:=by simp at h1;have:=h.len;omega
    subst e;have e2:(vs++[sl])[ws.length]=sl:=by simp[<-h.len]
    rw[e2];simp only[mV];exact eH (b5' I_) (aI _)
  ·by_cases c:j<vs.length
   ·rw[dX c];exact h.ne j c
   ·have e:j=vs.length:=by simp at h2;omega
    subst e;simp only[mV];intro e;have:=(I_.lt g e).1;have:=(gU h.ze).1.lt;omega
  ·simp only[Value.ownBlock,aC] at hk;subst hk;exact Fw lf (h.sv _) id
  ·by_cases c:j<vs.length
   ·rw[dX c] at hk;exact .inl (h.sd j c k hk)
   ·have e:j=vs.length:=by simp at h2;omega
    subst e;simp only[mV] at hk;exact .inr (I_.lt k hk).1
 ·exact ((Kept.bP hb).grown cU (fun k hk _=>h.sv k hk)).setCell (fun _=>h.sp) _
theorem Hp{w:World}{S:Nat->Prop}{p n:Nat}{d:List Int}{ws:List Wr}(h:Ref w S p n d ws)(i:Nat)(hi:i<n)(a:Option Addr)(c:Nat)(b:List Int)(hb:jK w a 64 b)(hk:ws.length<=100000):Calls prog 184 #[.pointer (some ⟨p,0,none⟩),.int .i64 i,.slice a 64 c] w fun e w'=>e=.returned (.int .i64 0)/\Ref w' (kX S w) p n d (ws++[⟨i,b⟩])/\Kept S w w':=by
 obtain ⟨i5,hi5,ad9,ad8,ad7⟩:=cj mq;obtain ⟨i85,alO,agY,agX,agW⟩:=cj ad1;have c1:¬(i:Int)<0:=by omega
 have c2:¬(n:Int)<=(i:Int):=by omega
 obtain ⟨ga,oa,rfl,_⟩:=hb.cells (by omega);have HBi:=zH hb;clear hb;go_enter func184,ntmps184;go_wp2_with fail;refine (Bg h).mono ?_;rintro e w1 ⟨rfl,rfl⟩;obtain ⟨g,L,cap,v,vs,h⟩:=h;have HH:=zH h;have s0:=h.nH;obtain ⟨pv,cv,rfl,_⟩:=iE h.wr;clear h;go_wp2;refine jg ?_;refine jX 14 (fun w'=>w'.cell? ⟨p,1,none⟩=some (.slice pv ws.length cv)) (by kernel_rfl) ?_;have aa:w.drew.cell? ⟨p,1,none⟩=some (.slice pv ws.length cv):=s0;refine vS 0 aa ?_;refine vS 1 aa ?_;refine vS 2 aa ?_;refine vS 3 aa ?_;refine iV (i:=4) (v:=?v4) (by simp;rfl) (by kernel_rfl) (by kernel_rfl) (by kernel_rfl) (by kernel_rfl) (fun _ _ _ h=>h) (Or.inl ⟨by rfl,?y4⟩) aa ?r4
 case y4=>intro w fc;go_simp;with_reducible rfl
 simp only[Act.put,zA,zB,zC];refine vS 5 aa ?_;refine vS 7 aa ?_;refine bU (rs:=[6]) (by kernel_rfl) (by simp) ?_;refine aR.cons (by simp;rfl) (fun K hK=>?_) aR.nil;go_simp;have hH6:(w.alloc (.cells #[] 5)).drew.cell? ⟨p,1,none⟩=some (.slice pv ws.length cv):=(HH.out.later (ag w _)).nH;refine hK.out _ _ (fun _=>hH6) ?_;clear hK K aa;have aa:=hH6;refine bU (rs:=[8]) (by kernel_rfl) (by simp) ?_;refine aR.cons (by simp;rfl) (fun K hK=>?_) aR.nil;refine step_append_lies _ rfl (.tmp 24) (.tmp 25) 107 rfl w.heap.size 5 i5 (.int .u8 0) 1 1 bK hi5 ad9 ad8 ad7 rfl (by omega) _ 0 [] rfl (gN w #[] 0 (az _) (aI _) rfl) ⟨ga,oa,none⟩ 64 c (U8 b) rfl (by rw[aX];exact HBi.out.len) ((HBi.out.later (ag w _)).news) (eO _) (by omega) (by unfold maxLen;omega) (by omega) (by simp) _ rfl ?_;intro g2 qN w2 jF ja FY uW;simp only[aW,bF] at jF ⊢;have jb:Below w.heap.size w w2:=((aV _ w).alloc (az _) (.cells #[] 5)).trans ⟨ja.os,ja.tape,ja.output,ja.size,fun k hk=>ja.block k (bN hk (by show _<=(w.alloc _).heap.size;simp)) (fun e=>by have e':k=w.heap.size:=iY e;omega)⟩;have hH8:=(HH.out.later jb).nH;refine hK.out _ _ (fun _=>hH8) ?_;clear hK K aa hH6 ja FY uW;have aa:=hH8;simp only[Act.put,zA,zB,zC];refine vS 9 aa ?_;refine bU (rs:=[10]) (by kernel_rfl) (by simp) ?_;refine aR.cons (by simp;rfl) (fun K hK=>?_) aR.nil;go_simp;have Dj:Below w.heap.size w (w2.alloc (.cells #[.int .i64 (i:Int),.slice (some ⟨g2,0,none⟩) 64 qN] 237)):=jb.alloc jb.size _;have hHA:=(HH.out.later Dj).nH;refine hK.out _ _ (fun _=>hHA) ?_;clear hK K aa hH8;have aa:=hHA;refine bU (rs:=[11]) (by kernel_rfl) (by simp) ?_;refine aR.cons (by simp;rfl) (fun K hK=>?_) aR.nil;have iL:=jb.size;refine step_append_lies _ rfl (.tmp 22) (.tmp 28) 234 rfl 0 237 i85 (.agg #[.int .i64 0,.slice none 0 0]) 2 32 underlying234 alO agY agX agW rfl (by omega) _ ws.length (ZC ws vs) rfl (HH.out.later Dj).wr ⟨w2.heap.size,0,none⟩ 1 1 [.int .i64 (i:Int),.slice (some ⟨g2,0,none⟩) 64 qN] rfl rfl ?_ (by simp[Value.oneCell']) (by omega) (by unfold maxLen;omega) (by omega) (aI _) _ rfl ?_
 ·intro j u hu;have e:=oy w2 [.int .i64 (i:Int),.slice (some ⟨g2,0,none⟩) 64 qN] 237 j u hu;rw[fo];exact e
 intro g4 ast w4 sX mA ahM alE;obtain ⟨f1,f2,f3,f4⟩:=KX HH.out Dj (jF.alloc _) sX mA (Fw ahM id (fun e=>by rw[e];simp;omega)) hi HBi.out.len HBi.out.byte;refine hK.out _ _ (fun _=>f1) ?_;clear hK K aa hHA mA ahM alE sX;have HF:=rf f3 f4;clear f3 f4;have aa:=f1;simp only[Act.put,zA,zB,zC];refine bU (rs:=[12]) (by kernel_rfl) (by simp) ?_;refine aR.cons (by simp;rfl) (fun K hK=>?_) aR.nil;go_simp;refine hK.out _ _ (fun _=>f1) ?_;clear hK K;refine bU (rs:=[13]) (by kernel_rfl) (by simp) ?_;refine aR.cons (by simp;rfl) (fun K hK=>?_) aR.nil;go_simp;refine hK.out _ _ (fun _=>f1) ?_;clear hK K;refine bU (rs:=[14]) (by kernel_rfl) (by simp) ?_;refine aR.cons (by simp;rfl) (fun K hK=>?_) aR.nil;go_simp;refine hK.out _ _ (fun h=>absurd rfl h) ?_;clear hK K;refine jY (by kernel_rfl) (lq ?_) _;clear f1 f2 aa;go_wp2;go_ret;exact⟨rfl,HF.out.1,HF.out.2⟩
end Go.Proofs.Zq
namespace Go.Proofs.Zq
open Go.RowKit
theorem RD.at{w:World}{S:Nat->Prop}{p n:Nat}{d:List Int}{ws:List Wr}{g L cap:Nat}{v:Value}{vs:List Value}(h:RD w S p n d ws g L cap v vs)(k:Nat)(hk:k<ws.length) :
  ∃gv cv gb cb,v=.slice (some ⟨gv,0,none⟩) ws.length cv/\w.cell? ⟨gv,k*2,none⟩=some (.int .i64 (ws[k].s:Int))/\w.cell? ⟨gv,k*2+1,none⟩=some (.slice (some ⟨gb,0,none⟩) 64 cb)/\jK w (some ⟨gb,0,none⟩) 64 ws[k].b/\gb≠g:=by
 obtain ⟨pv,cv,e,h0,h1⟩:=iE h.wr;cases pv with
 | none=>have:=(h0 rfl).1;omega
 | some a =>
  obtain ⟨gv,rfl⟩:=h1 a rfl;subst e;have EJ:k<vs.length:=by rw[h.len];exact hk
  have hd:=h.dat k hk EJ;obtain ⟨pb,cb,e,hb,_⟩:=rA hd (h.fit.at k hk).2.2;obtain ⟨gb,ob,rfl,_⟩:=hb.cells (by omega);have h00:ob=0:=by
   obtain ⟨_,_,e2,_,h3⟩:=iE hd;rw[e] at e2;simp only[cE] at e2;obtain ⟨g3,h4⟩:=h3 ⟨gb,ob,none⟩ e2.1.symm;simp only[d_] at h4;exact h4.2.1
  subst h00;obtain ⟨c0,c1⟩:=air h.len k hk;have hr:=Ej h.wr;refine⟨gv,cv,gb,cb,rfl,?_,?_,hb,fun e3=>?_⟩
  ·have:=hr (k*2) _ c0
   rwa [aW] at this
  ·have:=hr (k*2+1) _ c1;rw[aW] at this;rw[this,e]
  ·apply h.ne k EJ;rw[e,<-e3];rfl
open Go.Proofs.Tryz
theorem jK.kept{w w':World}{S:Nat->Prop}{p:Option Addr}{n:Nat}{xs:List Int}(h:jK w p n xs)(hk:Kept S w w')(hs:∀a,p=some a->¬S a.block):jK w' p n xs:=by
 refine⟨h.len,h.byte,fun h0=>?_⟩;obtain ⟨b,o,rfl,hc⟩:=h.cells h0;refine⟨b,o,rfl,fun i hi=>?_⟩;rw[dN (w:=w) (a:=⟨b,o+i,none⟩) (hk.block b (h.lt h0) (hs _ rfl))];exact hc i hi
theorem JIn.kept{w w':World}{S:Nat->Prop}{p:Option Addr}{n:Nat}{xs:List Int}(h:JIn w p n xs)(hk:Kept S w w')(hs:∀a,p=some a->¬S a.block):JIn w' p n xs:=by
 refine⟨h.len,fun h0=>?_⟩;obtain ⟨b,o,rfl,hc⟩:=h.cells h0;refine⟨b,o,rfl,fun i hi=>?_⟩;rw[dN (w:=w) (a:=⟨b,o+i,none⟩) (hk.block b (h.lt h0) (hs _ rfl))];exact hc i hi
abbrev o_ (xs:List Int):List Value:=xs.map (Value.int .i64)
theorem wO{w:World}{base:Nat}{v:Value}{n:Nat}{xs:List Int}(h:w.ownsRow base 3 1 v n (o_ xs)):∃p c,v=.slice p n c/\JIn w p n xs/\n<=c/\(p=none->c=0)/\(∀a,p=some a->base<=a.block/\a.block<w.heap.size):=by
 have hl:xs.length=n:=by have:=h.1;simpa [o_] using this
 rcases h.2 with ⟨rfl,rfl⟩ | ⟨g,cap,cur,rfl,h1,hg,FX,MG,nV,uA⟩
 ·exact⟨none,0,rfl,⟨hl,fun h0=>absurd h0 (gB 0)⟩,az _,fun _=>rfl,fun a e=>by cases e⟩
 ·refine⟨_,cap,rfl,⟨hl,fun h0=>⟨g,0,rfl,fun i hi=>?_⟩⟩,FX,(fun e=>by cases e),fun a e=>?_⟩
  ·have:=h.cellAt i (by omega);rw[aW,this];simp[o_,List.getD,List.getElem?_eq_getElem (show i<xs.length by omega)]
  ·simp only[aC] at e;subst e;exact⟨h1,(au.1 hg).1⟩
def zm (e:List Int)(s:Nat)(b:List Int)(j:Nat):List Int:=e.take (64*s)++b.take j++e.drop (64*s+j)
theorem QN(e:List Int)(s:Nat)(b:List Int):zm e s b 0=e:=by simp[zm]
theorem UE{e b:List Int}{s:Nat}(hb:b.length=64):zm e s b 64=put e s b:=by unfold zm put;rw[show b.take 64=b from aL (by omega)]
theorem Ii{e b:List Int}{n s j:Nat}(he:e.length=64*n)(hs:s<n)(hb:b.length=64)(hj:j<=64):(zm e s b j).length=64*n:=by
 simp[zm,he,hb];omega
theorem QO{e b:List Int}{n s j:Nat}(he:e.length=64*n)(hs:s<n)(hb:b.length=64)(hj:j<64):(zm e s b j).set (s*64+j) (b.getD j 0)=zm e s b (j+1):=by
 have hjb:j<b.length:=by omega
 have e1:b.getD j 0=b[j]:=by simp[List.getD,List.getElem?_eq_getElem hjb]
 have hd:64*s+j<e.length:=by omega
 unfold zm;rw[e1,bw hjb,aS,aS];rw[qT _ _ (by simp[he];omega)]
 congr 1
 rw[show s*64+j-(e.take (64*s)).length=j by simp[he];omega,qT _ _ (by simp;omega)];rw[show j-(b.take j).length=0 by simp;omega,aS]
 congr 1
 rw[eS hd,zB];rfl
theorem ee{e b:List Int}{n s:Nat}(he:e.length=64*n)(hs:s<n)(hb:b.length=64):put (put e s b) s b=put e s b:=by
 apply aaL (ke (ke he hs hb) hs hb) (ke he hs hb);intro i hi;rw[Fl (ke he hs hb) hs hb hi,Fl he hs hb hi];split <;> rfl
def rk (K:List Int)(ws:List Wr)(d:List Int)(X:Wr)(i k:Nat):List Int:=if (i:Int)∈K.take k then put (m_ (kV K) ws d i) X.s X.b else m_ (kV K) ws d i
theorem Zz(K:List Int)(ws:List Wr)(d:List Int)(X:Wr)(i:Nat):rk K ws d X i 0=m_ (kV K) ws d i:=by simp[rk]
theorem adm{K:List Int}{ws:List Wr}{d:List Int}{i:Nat}(hi:i<ws.length):rk K ws d ws[i] i K.length=m_ (kV K) ws d (i+1):=by
 unfold rk;rw[mZ _ ws d i hi,aL (az _)];by_cases h:(i:Int)∈K
 ·rw[aE h,aE (show kV K i=true by simpa [kV] using h)]
 ·rw[aD h,aD (show ¬kV K i=true by simpa [kV] using h)]
theorem ZA{K:List Int}{ws:List Wr}{d:List Int}{X:Wr}{i k:Nat}(hk:k<K.length)(h:¬K[k]=(i:Int)):rk K ws d X i (k+1)=rk K ws d X i k:=by
 unfold rk;rw[bw hk];by_cases c:(i:Int)∈K.take k
 ·rw[aE (List.mem_append_left _ c),aE c]
 ·rw[aD (fun hh=>(bH.1 hh).elim c (fun e=>h (bg.1 e).symm)),aD c]
theorem adl{K:List Int}{ws:List Wr}{d:List Int}{X:Wr}{n i k:Nat}(hk:k<K.length)(h:K[k]=(i:Int))(hd:d.length=64*n)(hf:Fit n ws)(hX:X.s<n/\X.b.length=64):put (rk K ws d X i k) X.s X.b=rk K ws d X i (k+1):=by
 unfold rk;rw[bw hk,h];rw[aE (show (i:Int)∈K.take k++[(i:Int)] by simp)];split
 ·exact ee (iD hd hf i) hX.1 hX.2
 ·rfl
theorem Qz{K:List Int}{ws:List Wr}{d:List Int}{X:Wr}{n i k:Nat}(hd:d.length=64*n)(hf:Fit n ws)(hX:X.s<n/\X.b.length=64):(rk K ws d X i k).length=64*n:=by
 unfold rk;split
 ·exact ke (iD hd hf i) hX.1 hX.2
 ·exact iD hd hf i
structure nK (w wr:World) (S:Nat->Prop) (p:Nat) (g L cap:Nat) (v:Value) (vs:List Value) (ws:List Wr) (e:List Int):Prop where
 str:wr.heap[p]?=some (.cells #[.slice (some ⟨g,0,none⟩) L cap,v] 236 (0,0))
 ze:wr.ownsRow 0 5 1 (.slice (some ⟨g,0,none⟩) L cap) L (U8 e)
 kp:Kept (fun k=>k=g) w wr
theorem nK.start{w:World}{S:Nat->Prop}{p n:Nat}{d:List Int}{ws:List Wr}{g L cap:Nat}{v:Value}{vs:List Value}(h:RD w S p n d ws g L cap v vs):nK w w S p g L cap v vs ws d:=⟨h.str,h.ze,Kept.refl _ _⟩
theorem nK.below{w wr w':World}{S:Nat->Prop}{p:Nat}{g L cap:Nat}{v:Value}{vs:List Value}{ws:List Wr}{e:List Int}(h:nK w wr S p g L cap v vs ws e)(hb:Below wr.heap.size wr w'):nK w w' S p g L cap v vs ws e :=
 ⟨(hb.block p (pJ.lt (t:=236) (sz:=2) ⟨_,h.str,rfl⟩)).trans h.str,dD h.ze hb,h.kp.trans (T:=fun _=>False) (Kept.bP hb) (fun _ _ f=>f.elim)⟩
theorem nK.cell0{w wr:World}{S:Nat->Prop}{p:Nat}{g L cap:Nat}{v:Value}{vs:List Value}{ws:List Wr}{e:List Int}(h:nK w wr S p g L cap v vs ws e):wr.cell? ⟨p,0,none⟩=some (.slice (some ⟨g,0,none⟩) L cap):=by
 rw[aq _ _ _ _ 236 (0,0) h.str];rfl
theorem nK.nH{w wr:World}{S:Nat->Prop}{p:Nat}{g L cap:Nat}{v:Value}{vs:List Value}{ws:List Wr}{e:List Int}(h:nK w wr S p g L cap v vs ws e):wr.cell? ⟨p,1,none⟩=some v:=by
 rw[aq _ _ _ _ 236 (0,0) h.str];rfl
theorem nK.at{w wr:World}{S:Nat->Prop}{p n:Nat}{d:List Int}{ws:List Wr}{g L cap:Nat}{v:Value}{vs:List Value}{e:List Int}(h:nK w wr S p g L cap v vs ws e)(h0:RD w S p n d ws g L cap v vs)(k:Nat)(hk:k<ws.length) :
  ∃gv cv gb cb,v=.slice (some ⟨gv,0,none⟩) ws.length cv/\wr.cell? ⟨gv,k*2,none⟩=some (.int .i64 (ws[k].s:Int))/\wr.cell? ⟨gv,k*2+1,none⟩=some (.slice (some ⟨gb,0,none⟩) 64 cb)/\jK wr (some ⟨gb,0,none⟩) 64 ws[k].b/\gb≠g:=by
 obtain ⟨gv,cv,gb,cb,rfl,t1,t2,t3,t4⟩:=h0.at k hk;have hgv:gv≠g:=(gU h0.wr).1.ne (gU h0.ze).1 (by decide);have b1:=h.kp.block gv (cG w _ t1) hgv;exact⟨gv,cv,gb,cb,rfl,(dN (w:=w) (a:=⟨gv,k*2,none⟩) b1).trans t1,(dN (w:=w) (a:=⟨gv,k*2+1,none⟩) b1).trans t2,t3.kept h.kp (fun a e=>by simp only[aC] at e;subst e;exact t4),t4⟩
theorem nK.set{w wr:World}{S:Nat->Prop}{p:Nat}{g L cap:Nat}{v:Value}{vs:List Value}{ws:List Wr}{e:List Int}(h:nK w wr S p g L cap v vs ws e)(k:Nat)(x:Int):nK w (wr.setCell ⟨g,k,none⟩ (.int .u8 x)) S p g L cap v vs ws (e.set k x):=by
 have hpg:p≠g:=pJ.ne (t:=236) (sz:=2) ⟨_,h.str,rfl⟩ (gU h.ze).1 (by decide);refine⟨(cJ _ _ _ _ hpg).trans h.str,?_,h.kp.setCell (fun _=>rfl) _⟩;have:=(h.ze.stored k (.int .u8 x)).1
 rwa [show (U8 e).set k (.int .u8 x)=U8 (e.set k x) by simp[U8,List.map_set]] at this
theorem nK.done{w wr:World}{S:Nat->Prop}{p n:Nat}{d:List Int}{ws:List Wr}{g L cap:Nat}{v:Value}{vs:List Value}{e:List Int}(h:nK w wr S p g L cap v vs ws e)(h0:RD w S p n d ws g L cap v vs)(he:e.length=64*n)(hy:Bytes e) :
  Ref (wr.setCell ⟨p,1,none⟩ (.slice none 0 0)) S p n e []/\Kept S w (wr.setCell ⟨p,1,none⟩ (.slice none 0 0)):=by
 have hpg:p≠g:=pJ.ne (t:=236) (sz:=2) ⟨_,h.str,rfl⟩ (gU h.ze).1 (by decide);refine⟨⟨g,L,cap,.slice none 0 0,[],pK (cs:=[_,_]) h.str 1 _,gO h.ze (fun k hk=>cJ _ _ _ _ (by simp only[Value.ownBlock,aC] at hk;rw[<-hk];exact fun e=>hpg e.symm)),cq _ _ _ _,rfl,fun i h=>by simp at h,fun i h=>by simp at h,h0.sp,h0.sg,fun k hk=>by simp[Value.ownBlock] at hk,fun i h=>by simp at h,h0.hL,h0.n1,h0.n2,he,hy,Fit.nil _⟩,?_⟩;exact (h.kp.mono (fun i _ e=>by subst e;exact h0.sg)).setCell (fun _=>h0.sp) _
theorem Lv{w:World}{S:Nat->Prop}{p n:Nat}{d:List Int}{ws:List Wr}(h:Ref w S p n d ws)(hk:ws.length<=100000)(a:Option Addr)(m c:Nat)(xs:List Int)(hx:JIn w a m xs)(ha:∀b,a=some b->0<m->¬S b.block)(hm:m<=140737488355328) :
  Calls prog 192 #[.pointer (some ⟨p,0,none⟩),.slice a m c] w fun e w'=>e=.returned (.int .i64 ws.length)/\Ref w' S p n (settle (kV xs) ws d) []/\Kept S w w':=by
 obtain ⟨g,L,cap,v,vs,h⟩:=h;have s1:=h.nH;have HH:=zH h;have HX:Hid (JIn w a m xs/\(∀b,a=some b->0<m->b.block≠g)):=⟨hx,fun b e h0 e2=>ha b e h0 (by rw[e2];exact h.sg)⟩
 obtain ⟨pv,cv,rfl,_⟩:=iE h.wr;have HLn:=Av h.hL h.n2 ((gU h.ze).2.1);have HM0:=zH (nK.start h);clear h hx ha;go_enter func192,ntmps192;go_wp2;clear s1
 go_loopw [6] (fun j wr=>∃i:Nat,i<=ws.length/\j=.int .i64 i/\Hid (nK w wr S p g L cap (.slice pv ws.length cv) vs ws (m_ (kV xs) ws d i))) (fun j _=>ws.length-(intOf j).toNat)
 case atStart=>exact⟨0,by omega,rfl,HM0.out⟩
 case round =>
  obtain ⟨i,hil,rfl,HR⟩:=hrel;clear HM0;by_cases eP:i<ws.length
  ·have Yb:=HH.out.fit.at i eP;have Gu:Hid (nK w wr S p g L cap (.slice pv ws.length cv) vs ws (rk xs ws d ws[i] i 0)):=by rw[Zz];exact HR
   have anJ:Hid (rk xs ws d ws[i] i xs.length=m_ (kV xs) ws d (i+1)):=adm eP;have fY:Hid (∀(wr:World) (e:List Int),nK w wr S p g L cap (.slice pv ws.length cv) vs ws e->∃gv cv' gb cb,Value.slice pv ws.length cv=.slice (some ⟨gv,0,none⟩) ws.length cv'/\wr.cell? ⟨gv,i*2,none⟩=some (.int .i64 (ws[i].s:Int))/\wr.cell? ⟨gv,i*2+1,none⟩=some (.slice (some ⟨gb,0,none⟩) 64 cb)/\jK wr (some ⟨gb,0,none⟩) 64 ws[i].b/\gb≠g):=fun wr e hM=>hM.at HH.out i eP;generalize ws[i]=X at *;clear HR;go_wp2
   go_loopw [7] (fun j wr=>∃k:Nat,k<=m/\j=.int .i64 k/\Hid (nK w wr S p g L cap (.slice pv ws.length cv) vs ws (rk xs ws d X i k))) (fun j _=>m-(intOf j).toNat)
   case atStart=>exact⟨0,by omega,rfl,Gu.out⟩
   case round =>
    obtain ⟨k,hkm,rfl,HQ⟩:=hrel;clear Gu;by_cases vK:k<m
    ·obtain ⟨ga,oa,hae,hca⟩:=(HX.out.1.kept HQ.out.kp (fun b e=>HX.out.2 b e (by omega))).cells (by omega);have hck:=hca k vK;have hkx:k<xs.length:=by rw[HX.out.1.len];exact vK
     have ey:xs.getD k 0=xs[k]:=by simp[List.getD,List.getElem?_eq_getElem hkx]
     rw[ey] at hck;obtain ⟨y,hy⟩:∃y,y=xs[k]:=⟨_,rfl⟩
     have HY:=zH hy;rw[<-hy] at hck;have HA:=zH hae;clear hy hca hae ey;rw[HA.out];by_cases hyi:y=(i:Int)
     ·subst hyi;obtain ⟨gv,cv',gb,cb,hv,t1,t2,t3,t4⟩:=fY.out _ _ HQ.out;simp only[cE,nY] at hv;obtain ⟨rfl,rfl⟩:=hv;have s1:=HQ.out.nH;have anu:Hid (put (rk xs ws d X i k) X.s X.b=rk xs ws d X i (k+1)):=adl hkx HY.out.symm HH.out.dl HH.out.fit ⟨Yb.1,Yb.2.1⟩;have aiR:Hid ((rk xs ws d X i k).length=64*n):=Qz HH.out.dl HH.out.fit ⟨Yb.1,Yb.2.1⟩;obtain ⟨wk,hwk⟩:∃wk,wk=wr:=⟨_,rfl⟩
      subst hwk;have HV:Hid (nK w (wk.alloc (.cells #[.int .i64 (X.s:Int),.slice (some ⟨gb,0,none⟩) 64 cb] 237)) S p g L cap (.slice (some ⟨gv,0,none⟩) ws.length cv) vs ws (zm (rk xs ws d X i k) X.s X.b 0)/\(wk.alloc (.cells #[.int .i64 (X.s:Int),.slice (some ⟨gb,0,none⟩) 64 cb] 237)).heap[wk.heap.size]?=some (.cells #[.int .i64 (X.s:Int),.slice (some ⟨gb,0,none⟩) 64 cb] 237 (0,0))/\jK (wk.alloc (.cells #[.int .i64 (X.s:Int),.slice (some ⟨gb,0,none⟩) 64 cb] 237)) (some ⟨gb,0,none⟩) 64 X.b):=⟨by rw[QN];exact HQ.out.below (ag _ _),aG _ _,t3.later (ag _ _)⟩
      have HGl:Hid (g<wk.heap.size/\p<wk.heap.size):=⟨(gU HQ.out.ze).1.lt,pJ.lt (t:=236) (sz:=2) ⟨_,HQ.out.str,rfl⟩⟩
      clear t3;go_wp2;clear t1 t2 s1 hck HQ;generalize wk.alloc (.cells #[.int .i64 (X.s:Int),.slice (some ⟨gb,0,none⟩) 64 cb] 237)=W1 at *
      go_loopw [9] (fun jj wr=>∃j:Nat,j<=64/\jj=.int .i64 j/\Hid (nK w wr S p g L cap (.slice (some ⟨gv,0,none⟩) ws.length cv) vs ws (zm (rk xs ws d X i k) X.s X.b j)/\wr.heap[wk.heap.size]?=some (.cells #[.int .i64 (X.s:Int),.slice (some ⟨gb,0,none⟩) 64 cb] 237 (0,0))/\jK wr (some ⟨gb,0,none⟩) 64 X.b)) (fun jj _=>64-(intOf jj).toNat)
      case atStart=>exact⟨0,by omega,rfl,HV.out⟩
      case round =>
       obtain ⟨j,hj,rfl,HJ⟩:=hrel;clear HV;by_cases hj2:j<64
       ·have u0:=HJ.out.1.cell0;have u1:wr.cell? ⟨wk.heap.size,0,none⟩=some (.int .i64 (X.s:Int)):=by rw[aq _ _ _ _ _ _ HJ.out.2.1];rfl
        have u2:wr.cell? ⟨wk.heap.size,1,none⟩=some (.slice (some ⟨gb,0,none⟩) 64 cb):=by rw[aq _ _ _ _ _ _ HJ.out.2.1];rfl
        obtain ⟨_,_,eg,hcg⟩:=HJ.out.2.2.cells (by omega);simp only[aC,d_,gJ] at eg;obtain ⟨rfl,rfl⟩:=eg;have u3:=hcg j hj2;rw[aW] at u3;have hpl:=Ii (j:=j) aiR.out Yb.1 Yb.2.1 hj;have hsn:X.s<n:=Yb.1;have u4:∃u,wr.cell? ⟨g,X.s*64+j,none⟩=some u:=(gU HJ.out.1.ze).1.some _ (by have:=HLn.out;rw[mU];omega);obtain ⟨u,u4⟩:=u4;have u5:=(gU HJ.out.1.ze).1.free (X.s*64+j);have hx0:=(Yb.2.2.getD j)
        obtain ⟨bx,hbx⟩:∃bx,bx=X.b.getD j 0:=⟨_,rfl⟩
        have HBx:=zH hbx;rw[<-hbx] at u3 hx0;have hVg:wk.heap.size≠g:=by have:=HGl.out;omega
        have hpg:p≠g:=pJ.ne (t:=236) (sz:=2) ⟨_,HJ.out.1.str,rfl⟩ (gU HJ.out.1.ze).1 (by decide);have HU:Hid (nK w (wr.setCell ⟨g,X.s*64+j,none⟩ (.int .u8 bx)) S p g L cap (.slice (some ⟨gv,0,none⟩) ws.length cv) vs ws (zm (rk xs ws d X i k) X.s X.b (j+1))/\(wr.setCell ⟨g,X.s*64+j,none⟩ (.int .u8 bx)).heap[wk.heap.size]?=some (.cells #[.int .i64 (X.s:Int),.slice (some ⟨gb,0,none⟩) 64 cb] 237 (0,0))/\jK (wr.setCell ⟨g,X.s*64+j,none⟩ (.int .u8 bx)) (some ⟨gb,0,none⟩) 64 X.b):=by
         refine⟨?_,(cJ _ _ _ _ hVg).trans HJ.out.2.1,HJ.out.2.2.kept (S:=fun k=>k=g) ((Kept.refl (fun k=>k=g) wr).setCell (p:=⟨g,X.s*64+j,none⟩) (fun _=>rfl) _) (fun a e=>by simp only[aC] at e;subst e;exact t4)⟩;rw[<-QO aiR.out Yb.1 Yb.2.1 hj2,<-HBx.out];exact HJ.out.1.set _ _
        have k0:(wr.setCell ⟨g,X.s*64+j,none⟩ (.int .u8 bx)).cell? ⟨p,0,none⟩=some (.slice (some ⟨g,0,none⟩) L cap):=HU.out.1.cell0;have k1:(wr.setCell ⟨g,X.s*64+j,none⟩ (.int .u8 bx)).cell? ⟨wk.heap.size,0,none⟩=some (.int .i64 (X.s:Int)):=by rw[aq _ _ _ _ _ _ HU.out.2.1];rfl
        have k2:(wr.setCell ⟨g,X.s*64+j,none⟩ (.int .u8 bx)).cell? ⟨wk.heap.size,1,none⟩=some (.slice (some ⟨gb,0,none⟩) 64 cb):=by rw[aq _ _ _ _ _ _ HU.out.2.1];rfl
        have k3:(wr.setCell ⟨g,X.s*64+j,none⟩ (.int .u8 bx)).cell? ⟨gb,j,none⟩=some (.int .u8 bx):=by rw[World.cell?_setCell_far _ _ _ _ (by show g≠gb;exact fun e=>t4 e.symm)];exact u3
        clear hcg hpl hbx HBx HJ;go_wp2;have hLn:=HLn.out;have m1:IntKind.i64.wrap ((X.s:Int)*64)=(X.s:Int)*64:=by rw[aY];omega
        have m2:IntKind.i64.wrap ((X.s:Int)*64+(j:Int))=(X.s:Int)*64+(j:Int):=by rw[aY];omega
        have m3:(X.s:Int)*64+(j:Int)<(L:Int):=by omega
        have m4:(0:Int)<=(X.s:Int)*64+(j:Int):=by omega
        have m5:(j:Int)<64:=by omega
        have m6:(0:Int)<=(j:Int):=by omega
        have m7:((X.s:Int)*64+(j:Int)).toNat=X.s*64+j:=by omega
        clear hLn
        go_region_held3 (fun w'=>w'.cell? ⟨p,0,none⟩=some (.slice (some ⟨g,0,none⟩) L cap)/\w'.cell? ⟨wk.heap.size,0,none⟩=some (.int .i64 (X.s:Int))/\w'.cell? ⟨wk.heap.size,1,none⟩=some (.slice (some ⟨gb,0,none⟩) 64 cb)/\w'.cell? ⟨gb,j,none⟩=some (.int .u8 bx)) (first | exact⟨u0,u1,u2,u3⟩ | exact⟨k0,k1,k2,k3⟩) (fail)
        clear k0 k1 k2 k3 u0 u1 u2 u3 u4 u5 m1 m2 m3 m4 m5 m6 m7;go_wp2;go_roundw
        case rel=>exact⟨j+1,by omega,by go_num,HU.out.1.below ⟨rfl,rfl,rfl,az _,fun _ _=>rfl⟩,HU.out.2.1,HU.out.2.2.drew⟩
        case measure=>simp[intOf];omega
       ·obtain rfl:j=64:=by omega
        have HQ2:Hid (nK w wr S p g L cap (.slice (some ⟨gv,0,none⟩) ws.length cv) vs ws (rk xs ws d X i (k+1))):=by
         have:=HJ.out.1;rw[UE Yb.2.1,anu.out] at this;exact this
        clear HJ;go_wp2;go_roundw
        case rel=>exact⟨k+1,by omega,by go_num,HQ2⟩
        case measure=>simp[intOf];omega
     ·have HM:Hid (rk xs ws d X i (k+1)=rk xs ws d X i k):=ZA hkx (fun e=>hyi (HY.out.trans e));have by1:(y == (i:Int))=false:=by rw[gp];exact hyi
      go_wp2;go_roundw
      case rel=>exact⟨k+1,by omega,by go_num,by rw[HM.out];exact HQ⟩
      case measure=>simp[intOf];omega
    ·obtain rfl:k=m:=by omega
     have HQ2:Hid (nK w wr S p g L cap (.slice pv ws.length cv) vs ws (m_ (kV xs) ws d (i+1))):=by
      rw[<-anJ.out,HX.out.1.len];exact HQ
     go_wp2;go_roundw
     case rel=>exact⟨i+1,by omega,by go_num,HQ2⟩
     case measure=>simp[intOf];omega
  ·obtain rfl:i=ws.length:=by omega
   have f1:=mK wr p 1 _ 236 HR.out.str;have s1:=HR.out.nH;have HD:Hid (Ref (wr.setCell ⟨p,1,none⟩ (.slice none 0 0)) S p n (settle (kV xs) ws d) []/\Kept S w (wr.setCell ⟨p,1,none⟩ (.slice none 0 0))):=HR.out.done HH.out (iD HH.out.dl HH.out.fit _) (oF HH.out.db HH.out.fit _);clear HR;go_wp2;go_ret;exact⟨rfl,HD.out.1,HD.out.2⟩
theorem A_{K K':Nat->Bool}{ws:List Wr}{d:List Int}:∀k,(∀j,j<k->K j=K' j)->m_ K ws d k=m_ K' ws d k
 | 0,_=>rfl
 | k+1,h=>by
  have ih:=A_ (ws:=ws) (d:=d) k (fun j hj=>h j (by omega));by_cases hk:k<ws.length
  ·rw[mZ K ws d k hk,mZ K' ws d k hk,ih,h k (by omega)]
  ·simp only[m_,cS (show ws.length<=k by omega)];exact ih
def Ta (k:Nat):List Int:=(List.range k).map fun (i:Nat)=>(i:Int)
theorem Ug(k:Nat):Ta (k+1)=Ta k++[(k:Int)]:=by simp[Ta,List.range_succ]
theorem Zw(n j:Nat)(h:j<n):kV (Ta n) j=true:=by
 simp only[kV,gx,Ta,cF,p_];exact⟨j,h,rfl⟩
theorem Lj{w:World}{S:Nat->Prop}{p n:Nat}{d:List Int}{ws:List Wr}(h:Ref w S p n d ws)(hk:ws.length<=100000)(hS:∀k,S k->k<w.heap.size) :
  Calls prog 140 #[.pointer (some ⟨p,0,none⟩)] w fun e w'=>e=.returned (.int .i64 ws.length)/\Ref w' S p n (settle (fun _=>true) ws d) []/\Kept S w w':=by
 obtain ⟨i0,BZ,ij,gm,iL⟩:=cj OH;have HH:=zH h;clear h;go_enter func140,ntmps140;go_wp2
 go_loopw [3,4] (fun v i wr=>∃k:Nat,k<=ws.length/\i=.int .i64 k/\Hid (wr.ownsRow w.heap.size 3 1 v k (o_ (Ta k))/\Below w.heap.size w wr)) (fun _ i _=>ws.length-(intOf i).toNat)
 case atStart=>exact⟨0,by omega,rfl,cq _ _ _ _,aV _ _⟩
 case round =>
  obtain ⟨k,vK,rfl,HQ⟩:=hrel;obtain ⟨g,L,cap,v,vs,h1⟩:=HH.out.later HQ.out.2;have s1:=h1.nH;obtain ⟨pw,cw,rfl,_⟩:=iE h1.wr;clear h1;by_cases hkJ:k<ws.length
  ·obtain ⟨pv,cv,rfl,_⟩:=iE HQ.out.1;have nV:=HQ.out.2.size;go_wp2_with (at_builtin;refine dK _ rfl (.tmp 14) (.tmp 16) 59 rfl w.heap.size 3 i0 (.int .i64 0) 1 8 mG BZ ij gm iL rfl (by omega) _ k (o_ (Ta k)) rfl (HQ.out.1.alloc _) ⟨wr.heap.size,0,none⟩ 1 1 [.int .i64 (k:Int)] rfl rfl (cell_one_new _ _ _) (by simp[Value.oneCell']) (by unfold maxLen;omega) (by omega) (by simp;omega) ?_;intro v' w5 dR cU _;have HU:Hid (w5.ownsRow w.heap.size 3 1 v' (k+1) (o_ (Ta (k+1)))/\Below w.heap.size w w5):=⟨by rw[Ug,show o_ (Ta k++[(k:Int)])=o_ (Ta k)++[.int .i64 (k:Int)] by simp[o_]];exact dR,(HQ.out.2.alloc HQ.out.2.size _).grown cU (by simp;omega) (fun j hj=>(HQ.out.1.lt j hj).1)⟩;clear dR cU)
   go_roundw
   case rel=>exact⟨k+1,by omega,by go_num,HU⟩
   case measure=>simp[intOf];omega
  ·obtain rfl:k=ws.length:=by omega
   obtain ⟨ap,ac,rfl,ak3,_,_,hab⟩:=wO HQ.out.1;have hb:=HQ.out.2;go_wp2_with fail;refine (Lv (HH.out.later hb) hk ap ws.length ac (Ta ws.length) ak3 (fun b e _ s=>by have:=hab b e;have:=hS _ s;omega) (by omega)).mono ?_;rintro e w1 ⟨rfl,hd,OU⟩;have eF:settle (kV (Ta ws.length)) ws d=settle (fun _=>true) ws d:=by
    unfold settle;exact A_ _ (fun j hj=>Zw _ j hj)
   rw[eF] at hd;go_wp2;go_ret;exact⟨rfl,hd,(Kept.bP hb).trans OU (fun _ _ h=>h)⟩
theorem ym{w:World}{S:Nat->Prop}{p n:Nat}{d:List Int}{ws:List Wr}(h:pz w S p n d ws) :
  Calls prog 136 #[.pointer (some ⟨p,0,none⟩)] w fun e w'=>∃v,e=.returned v/\w'.ownsRow w.heap.size 5 1 v (64*n) (U8 d)/\Below w.heap.size w w':=by
 obtain ⟨i0,hi,ij,gm,iL⟩:=cj mq;obtain ⟨q,cap,v,h⟩:=h;have h0:=h.cell0;have HH:=zH h;have MB:=h.n2;have hmul:IntKind.i64.wrap ((n:Int)*64)=(n:Int)*64:=by rw[aY];omega
 clear h;have Jg:=run_make (P:=prog) w 107 5 i0 _ bK hi ij .i64 .i64 0 ((n:Int)*64) (by omega) (by omega) (by rw[iL];omega) (by omega);rw[gm,show ((n:Int)*64).toNat=n*64 by omega] at Jg;simp only[Int.toNat_zero,mU,Value.cells] at Jg;have HO:Hid ((w.alloc (.cells (madeCells #[.int .u8 0] (n*64)) 5)).ownsRow w.heap.size 5 1 (.slice (some ⟨w.heap.size,0,none⟩) 0 (n*64)) 0 []):=gN w _ (n*64) (az _) (by unfold maxLen;omega) (by rw[size_madeCells];omega);obtain ⟨ob,hob⟩:=zE (Obj.cells (madeCells #[.int .u8 0] (n*64)) 5);rw[hob] at Jg HO;clear hob;have HB:Hid (Below w.heap.size w (w.alloc ob)):=ag w ob;have h0':(w.alloc ob).cell? ⟨p,0,none⟩=some (.slice (some ⟨q,0,none⟩) n cap):=(HB.out.cell (p:=⟨p,0,none⟩) HH.out.bC.lt).trans h0;go_enter func136,ntmps136;go_wp2;clear Jg hmul;generalize w.alloc ob=W0 at *
 go_loopw [3,19] (fun b i wr=>∃k:Nat,k<=n/\i=.int .i64 k/\Hid (wr.ownsRow w.heap.size 5 1 b (64*k) (U8 (d.take (64*k)))/\Below w.heap.size w wr)) (fun _ i _=>n-(intOf i).toNat)
 case atStart=>exact⟨0,by omega,rfl,by simpa using HO.out,HB.out⟩
 case round =>
  obtain ⟨k,hkm,rfl,HR⟩:=hrel;clear HO HB h0';by_cases eP:k<n
  ·have c0:wr.cell? ⟨p,0,none⟩=some (.slice (some ⟨q,0,none⟩) n cap):=(HR.out.2.cell (p:=⟨p,0,none⟩) HH.out.bC.lt).trans h0;have HN:Hid (∀j u,(U8 (sec d k))[j]?=some u->wr.cell? ((⟨q,k*128,none⟩:Addr).add j)=some u):=fun j u hu=>by
    rw[fo];exact gL (HH.out.pl.ze k eP) (HR.out.2.block q HH.out.pl.bC.lt) j u hu
   have HL:=zH (HH.out.pl.dl k eP);obtain ⟨bp,bc,rfl,_⟩:=iE HR.out.1;go_wp2_with (at_builtin;refine dK _ rfl (.tmp 22) (.tmp 30) 107 rfl w.heap.size 5 i0 (.int .u8 0) 1 1 bK hi ij gm iL rfl (by omega) _ (64*k) _ rfl HR.out.1 ⟨q,k*128,none⟩ 64 64 (U8 (sec d k)) rfl (by rw[aX];exact HL.out) HN.out (eO _) (by unfold maxLen;omega) (by omega) HR.out.2.size ?_;intro v' w1 dR cU _;have HO1:Hid (w1.ownsRow w.heap.size 5 1 v' (64*(k+1)) (U8 (d.take (64*(k+1))))/\Below w.heap.size w w1):=⟨by rw[Uc,show 64*(k+1)=64*k+64 by omega,show U8 (d.take (64*k)++sec d k)=U8 (d.take (64*k))++U8 (sec d k) from cZ];exact dR,HR.out.2.grown cU HR.out.2.size (fun j hj=>(HR.out.1.lt j hj).1)⟩;clear dR cU HN)
   go_roundw
   case rel=>exact⟨k+1,by omega,by go_num,HO1.out⟩
   case measure=>simp[intOf];omega
  ·obtain rfl:k=n:=by omega
   have HE:Hid (d.take (64*k)=d):=aL (by rw[HH.out.dl];omega);go_wp2;go_ret;exact⟨_,rfl,by have:=HR.out.1;rw[HE.out] at this;exact this,HR.out.2⟩
