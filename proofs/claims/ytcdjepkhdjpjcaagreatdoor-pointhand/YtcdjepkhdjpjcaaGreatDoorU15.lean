import Derived.Test.YtcdjepkhdjpjcaaGreatDoorU14
set_option maxHeartbeats 20000000
set_option maxRecDepth 100000
namespace Go.Proofs.Zq.E
open Go.RowKit Go.Shelf
theorem KE{F:Fence}(hd:F.depth=none){m:Nat}(m' akW:Nat){P:Program}{l:Nat}{args:Array Value}{W:World}{R:Ending->World->Prop}(h:YieldAt F m P l args W R):YieldAt (F.inRound akW) m' P l args W R:=by
 obtain ⟨fn,tmps,assign,body,hy,hf,hR⟩:=h;exact⟨fn,tmps,assign,body,hy,hf,fun c cs _=>hR c cs (fun d e=>by rw[hd] at e;cases e)⟩
def Ke {α:Type}(F:Fence)(n:Nat)(P:Program)(g:Nat)(lb:Array Value)(W_:α->Array Value)(Kp:World->World->Prop)(S Sp:List α->Prop)(N:Nat)(w:World):Prop :=
 ∀(l:Nat) (J Jx:List α->World->Prop) (W:World),Below w.heap.size w W->OwnFrom W.heap.size J->OwnFrom W.heap.size Jx ->
  (∀pre x V,J pre V->pre.length<N->YieldAt F (n-1) P l (W_ x) V fun e V' =>
   KeepsFrom W.heap.size V V'/\((e=.returned (.bool true)/\J (pre++[x]) V'/\Kp V V')\/(e=.returned (.bool false)/\Jx (pre++[x]) V'))) ->
  J [] W ->
  CallsIn F n P g (#[.func (.yield l) #[] #[]]++lb) W fun e V=>(∃v,e=.returned v)/\((∃xs,S xs/\J xs V)\/(∃pre,Sp pre/\Jx pre V))
structure nX (D:Nat) (r:Loop) (W:World):Prop where
 Oa:W.heap[D+1]?=some (.loop r)
 dfr:W.heap[D]?=some (.deferred (some []))
theorem nX.lt{D:Nat}{r:Loop}{W:World}(h:nX D r W):D+1<W.heap.size:=(au.1 h.Oa).1
theorem nX.keeps{D:Nat}{r:Loop}{W W':World}(h:nX D r W)(hk:KeepsFrom D W W'):nX D r W':=⟨hk.same _ _ (by omega) h.Oa rfl,hk.same _ _ (az _) h.dfr rfl⟩
theorem nX.put{D:Nat}{r:Loop}{W:World}(h:nX D r W)(r':Loop):nX D r' (W.putObj (D+1) (.loop r')):=⟨World.putObj_heap_same h.lt,(World.putObj_heap_other (by omega)).trans h.dfr⟩
theorem nX.own{D:Nat}{r:Loop}{β:Type}:OwnFrom (D+2) (fun (_:β) W=>nX D r W):=fun _ W W' row hs hg hr=>by
 have e:∀k,k<D+2->k<W.heap.size->W'.heap[k]?=W.heap[k]?:=fun k h1 h2=>hg.block k h2 fun e=>by have:=(hr k e.symm).1;omega
 have:=hs.lt;exact⟨(e _ (by omega) (by omega)).trans hs.Oa,(e _ (by omega) (by omega)).trans hs.dfr⟩
theorem ED(D:Nat)(W:World)(r':Loop):KeepsFrom (D+2) W (W.putObj (D+1) (.loop r')) :=
 ⟨by simp,fun _ _ hk h1 _=>(World.putObj_heap_other (by omega)).trans h1⟩
theorem uQ{B C:Nat}{W W':World}(h:KeepsFrom B W W')(hb:B<=C):KeepsFrom C W W':=⟨h.size,fun k o hk=>h.same k o (by omega)⟩
section
variable {F:Fence} {n:Nat} {P:Program}
theorem wF{α:Type}{g:Operand}{ps:Array Tmp}{assign body:Code}{Q:Exit->Act->World->Prop}{a:Act}{w:World}
  (vJ:F.round=none) (h1:1<=n) {gf:Nat} {lb:Array Value} (hg:a.eval g=.func (.func gf) #[] lb) (hFg:F.fn gf) (eg:∀args w,(callFunc gf args).run P w=.ok (.enter gf args) w)
  {W_:α->Array Value} {Kp:World->World->Prop} {S Sp:List α->Prop} {N:Nat} {w0:World} (ale:Ke F (n-1) P gf lb W_ Kp S Sp N w0)
  (hKt:∀{A B C:World},Kp A B->Kp B C->Kp A C) (hKb:∀(W:World) (l:Nat) (o o':Obj),w.heap.size<=l->W.heap[l]?=some o->o.isCells=false->Kp W (W.putObj l o')) (yD:Below w0.heap.size w0 w) (Yz:∀x,(W_ x).size=ps.size)
  (I:List α->World->Prop) (Ix:Code->List α->World->Prop) (hI:OwnFrom w.heap.size I) (hIx:∀c,OwnFrom w.heap.size (Ix c)) (h0:I [] w) (Ax:α->Act->World->Prop) (hAx:∀x a',OwnFrom w.heap.size (fun (_:Unit) W=>Ax x a' W))
  (aaz:∀(l:Nat) (pre:List α) (x:α) (W:World) (K:Act->World->Prop),I pre W->(∀a' W',KeepsFrom w.heap.size W W'->Kp W W'->I pre W'->Ax x a' W'->K a' W') ->
   assign.wpIn (F.inRound l) (n-1-1) P (Exit.then K (fun _ _ _=>False)) { tmps:=(ps.zip (W_ x)).foldl (fun t (p,v)=>t.setIfInBounds p v) a.tmps,defers:=[] } W)
  (kP:∀(l:Nat) (pre:List α) (x:α) (a':Act) (W:World),I pre W->Ax x a' W->pre.length<N->body.wpIn (F.inRound l) (n-1-1) P (ownPostG w.heap.size Kp I Ix (pre++[x]) W) a' W)
  (ahG:∀(D:Nat) (xs:List α) (W:World),w.heap.size<=D->S xs->I xs W->W.heap[D]?=some (.deferred (some []))->Q .normal { a with defers:={ target:=.collected D,args:=#[] } :: a.defers } W)
  (ahf:∀(D:Nat) (c:Code) (pre:List α) (W:World),w.heap.size<=D->Sp pre->Ix c pre W->W.heap[D]?=some (.deferred (some []))->c.wpIn F n P Q { a with defers:={ target:=.collected D,args:=#[] } :: a.defers } W) :
  (Code.rangeFunc g ps assign body).wpIn F n P Q a w:=by
 obtain ⟨D,hD⟩:∃D,D=w.heap.size:=⟨_,rfl⟩
 refine wpIn_rangeFunc fun fn hfn=>?_;rw[vJ]
 let iO:LoopState->Option Code->Loop:=fun st pe=>{ state:=st,pending:=pe,fn,tmps:=a.tmps,params:=ps,assign,body,defers:=w.heap.size }
 obtain ⟨V0,hV0⟩:=zE ((w.alloc (.deferred (some []))).alloc (.loop (iO .ready none)));have OL:V0.heap.size=D+2:=by rw[<-hV0,hD];simp
 have L0:nX D (iO .ready none) V0:=by
  rw[<-hV0,hD];refine⟨?_,(mL _ _ _ (by simp)).trans (World.alloc_heap_new w _)⟩;have:=World.alloc_heap_new (w.alloc (.deferred (some []))) (.loop (iO .ready none))
  rwa [a_] at this
 have qj:Below w0.heap.size w0 V0:=by
  rw[<-hV0];exact yD.trans ((((aV _ w).alloc (az _) _).alloc (by simp) _).mono yD.size)
 refine⟨D+1,[{ target:=.collected D,args:=#[] }],V0,{ target:=.fn (.func gf) lb,args:=#[.func (.yield (D+1)) #[] #[]] },V0,gf,#[.func (.yield (D+1)) #[] #[]]++lb,V0,?_,?_,?_,?_,fun _=>h1,?_⟩
 ·rw[<-hV0,hD];exact run_enterLoop_outer _ _ _ _ _
 ·simp only[resolve,hg];simp[go_sem]
 ·intro f' hf';simp[Target.leads] at hf';subst hf';exact hFg
 ·simp[invoke,go_sem,eg]
 have hIw:OwnFrom (D+2) I:=fun s A B row hs EK hr=>hI s A B row hs EK fun r e=>⟨by have:=(hr r e).1;omega,(hr r e).2⟩
 have amu:∀c,OwnFrom (D+2) (Ix c):=fun c s A B row hs EK hr=>hIx c s A B row hs EK fun r e=>⟨by have:=(hr r e).1;omega,(hr r e).2⟩
 refine (ale (D+1) (fun pre W=>I pre W/\nX D (iO .ready none) W) (fun pre W=>∃c,Ix c pre W/\nX D (iO .done (some c)) W) V0 qj ?_ ?_ ?_ ⟨?_,L0⟩).mono ?_
 ·rw[OL];exact OwnFrom.and hIw nX.own
 ·rw[OL];intro s A B row hs EK hr;obtain ⟨c,hc,hl⟩:=hs;exact⟨c,amu c s A B row hc EK hr,nX.own () A B row hl EK hr⟩
 ·rintro pre x W ⟨hi,hl⟩ hlen;rw[OL];refine⟨fn,_,assign,body,run_yield hl.Oa (Yz x),roundIn_of_wpIn hfn (aaz _ pre x W _ hi ?_)⟩;intro a' Wa ka kpa hia hax;rw[<-hD] at ka;have la:=hl.keeps ka;refine⟨_,run_beginRound la.Oa rfl,?_⟩;have lb':=la.put { iO .ready none with state:=.busy };refine wpIn_mono (kP _ pre x a' _ (hI.putObj _ hia (by omega) la.Oa rfl) ((hAx x a').putObj (s:=()) _ hax (by omega) la.Oa rfl) hlen) ?_;have fin:∀(jump:Option Code) (W3:World),KeepsFrom w.heap.size (Wa.putObj (D+1) (.loop { iO .ready none with state:=.busy })) W3 ->
    ∃r,W3.heap[D+1]?=some (.loop r)/\(Instr.endRound (D+1) jump).run P W3=.ok (.bool jump.isNone) (W3.putObj (D+1) (.loop (iO (if jump.isNone then .ready else .done) jump))) /\
    nX D (iO (if jump.isNone then .ready else .done) jump) (W3.putObj (D+1) (.loop (iO (if jump.isNone then .ready else .done) jump))) /\
    KeepsFrom (D+2) W (W3.putObj (D+1) (.loop (iO (if jump.isNone then .ready else .done) jump))):=fun jump W3 k3=>by
   rw[<-hD] at k3;have l3:=lb'.keeps k3;exact⟨_,l3.Oa,run_endRound jump l3.Oa,l3.put _,(((uQ ka (by omega)).trans (ED D _ _)).trans (uQ k3 (by omega))).trans (ED D _ _)⟩
  rintro e a3 W3 hp;cases e with
  | normal =>
   obtain ⟨k3,kp3,i3⟩:=hp;obtain ⟨r,hr,e3,l3,kk⟩:=fin none W3 k3;exact⟨_,_,e3,kk,.inl ⟨rfl,⟨hI.putObj _ i3 (by omega) hr rfl,l3⟩,hKt kpa (hKt (hKt (hKb _ _ _ _ (by omega) la.Oa rfl) kp3) (hKb _ _ _ _ (by omega) hr rfl))⟩⟩
  | ret =>
   obtain ⟨k3,i3⟩:=hp;obtain ⟨r,hr,e3,l3,kk⟩:=fin (some .ret) W3 k3;exact⟨_,_,e3,kk,.inr ⟨rfl,.ret,(hIx _).putObj _ i3 (by omega) hr rfl,l3⟩⟩
  | exit id =>
   obtain ⟨k3,i3⟩:=hp;obtain ⟨r,hr,e3,l3,kk⟩:=fin (some (.exit id)) W3 k3;exact⟨_,_,e3,kk,.inr ⟨rfl,.exit id,(hIx _).putObj _ i3 (by omega) hr rfl,l3⟩⟩
  | goto t =>
   obtain ⟨k3,i3⟩:=hp;obtain ⟨r,hr,e3,l3,kk⟩:=fin (some (.goto t)) W3 k3;exact⟨_,_,e3,kk,.inr ⟨rfl,.goto t,(hIx _).putObj _ i3 (by omega) hr rfl,l3⟩⟩
  | panic ch=>exact hp.elim
  | outgrown=>exact hp.elim
 ·rw[<-hV0];exact hI.alloc _ (hI.alloc _ h0)
 ·rintro e W2 ⟨⟨v,rfl⟩,(⟨xs,hS,hi,hl⟩ | ⟨pre,hSp,c,hi,hl⟩)⟩
  ·exact⟨none,_,run_endLoop hl.Oa (by simp[iO]),ahG _ xs _ (by omega) hS (hI.putObj _ hi (by omega) hl.Oa rfl) ((World.putObj_heap_other (by omega)).trans hl.dfr)⟩
  ·exact⟨some c,_,run_endLoop hl.Oa (by simp[iO]),ahf _ c pre _ (by omega) hSp ((hIx c).putObj _ hi (by omega) hl.Oa rfl) ((World.putObj_heap_other (by omega)).trans hl.dfr)⟩
end
end Go.Proofs.Zq.E
namespace Go.Proofs.Zq.E
open Go.Proofs.Tryz
open Go.RowKit
attribute [local go_sem] Oper.semAt_some
abbrev dh (ps:String):Array Oper:=#[{ dst:=some 12,op:=Op.load 280 (Operand.tmp 2),type:=280,pos:=ps,after:=#[],guard:=none },{ dst:=some 13,op:=Op.move (Operand.tmp 3),type:=52,pos:=ps,after:=#[],guard:=none },{ dst:=some 14,op:=Op.load 34 (Operand.tmp 1),type:=34,pos:=ps,after:=#[],guard:=none },{ dst:=some 15,op:=Op.nilCheck (Operand.tmp 14),type:=0,pos:=ps,after:=#[{ on:=2,ground:=Ground.data }],guard:=none },{ dst:=some 16,op:=Op.fieldAddr 115 (Operand.tmp 15) 4,type:=0,pos:=ps,after:=#[{ on:=3,ground:=Ground.data }],guard:=none },{ dst:=some 17,op:=Op.load 112 (Operand.tmp 16),type:=112,pos:=ps,after:=#[{ on:=4,ground:=Ground.data }],guard:=none },{ dst:=some 18,op:=Op.move (Operand.tmp 3),type:=52,pos:=ps,after:=#[],guard:=none },{ dst:=some 19,op:=Op.lookup 112 (Operand.tmp 17) (Operand.tmp 18) false,type:=59,pos:=ps,after:=#[{ on:=5,ground:=Ground.data },{ on:=6,ground:=Ground.data }],guard:=none },{ dst:=some 20,op:=Op.call { callee:=Callee.value (Operand.tmp 12),args:=#[Operand.tmp 13,Operand.tmp 19],argTypes:=#[52,59] },type:=4,pos:=ps,after:=#[{ on:=0,ground:=Ground.data },{ on:=1,ground:=Ground.data },{ on:=7,ground:=Ground.data }],guard:=none },{ dst:=some 21,op:=Op.unOp UnOp.not 4 (Operand.tmp 20),type:=4,pos:=ps,after:=#[{ on:=8,ground:=Ground.data }],guard:=none }]
theorem Fg{ps:String}{F:Fence}{l n:Nat}{Q':Exit->Act->World->Prop}(w0:World)(id Bl By Q mb:Nat)(y:Value)(u:Int)(p:Option Addr)(nn cc:Nat)(z0 z4 z5 z6 z7 z8 z9 pG pF:Value)(w:World)(hw:Hid (w=w0.drew))
  (kl:w.cell? ⟨Bl,0,none⟩=some (qp Q)) (ky:w.cell? ⟨By,0,none⟩=some y) (k8:w.cell? ⟨Q,8,none⟩=some (.map (some mb)))
  (OT:(Instr.lookup 112 (.map (some mb)) (.int .u64 u) false).run prog w=.ok (.slice p nn cc) w)
  (xE:wpAnyIn (F.inRound l) n prog .any (dh ps) Q' 2 #[true,true,true,true,true,true,true,true,false,false] { tmps:=#[z0,.pointer (some ⟨Bl,0,none⟩),.pointer (some ⟨By,0,none⟩),.int .u64 u,z4,z5,z6,z7,z8,z9,pG,pF,y,.int .u64 u,qp Q,qp Q,.pointer (some ⟨Q,8,none⟩),.map (some mb),.int .u64 u,.slice p nn cc,undef,undef],defers:=[] } w) :
  (Code.region id (dh ps) true).wpIn (F.inRound l) n prog Q' { tmps:=#[z0,.pointer (some ⟨Bl,0,none⟩),.pointer (some ⟨By,0,none⟩),.int .u64 u,z4,z5,z6,z7,z8,z9,pG,pF,undef,undef,undef,undef,undef,undef,undef,undef,undef,undef],defers:=[] } w0:=by
 have hmo:prog.follows Departure.mixedOrders=true:=by kernel_rfl
 have tI:wpAnyIn (F.inRound l) n prog .any (dh ps) Q' 3 #[true,true,true,true,true,true,true,false,false,false] { tmps:=#[z0,.pointer (some ⟨Bl,0,none⟩),.pointer (some ⟨By,0,none⟩),.int .u64 u,z4,z5,z6,z7,z8,z9,pG,pF,y,.int .u64 u,qp Q,qp Q,.pointer (some ⟨Q,8,none⟩),.map (some mb),.int .u64 u,undef,undef,undef],defers:=[] } w:=by
  refine wpAnyIn_ready (rs:=[7]) (by kernel_rfl) (by simp) ?_;refine AllReadyIn.cons rfl (fun Kc aJ=>?_) AllReadyIn.nil
  ·go_simp;exact aJ _ _ xE
 have DI:wpAnyIn (F.inRound l) n prog .any (dh ps) Q' 3 #[true,false,true,true,true,true,true,true,false,false] { tmps:=#[z0,.pointer (some ⟨Bl,0,none⟩),.pointer (some ⟨By,0,none⟩),.int .u64 u,z4,z5,z6,z7,z8,z9,pG,pF,y,undef,qp Q,qp Q,.pointer (some ⟨Q,8,none⟩),.map (some mb),.int .u64 u,.slice p nn cc,undef,undef],defers:=[] } w:=by
  refine wpAnyIn_ready (rs:=[1]) (by kernel_rfl) (by simp) ?_;refine AllReadyIn.cons rfl (fun Kc aJ=>?_) AllReadyIn.nil
  ·go_simp;exact aJ _ _ xE
 have DP:wpAnyIn (F.inRound l) n prog .any (dh ps) Q' 3 #[false,true,true,true,true,true,true,true,false,false] { tmps:=#[z0,.pointer (some ⟨Bl,0,none⟩),.pointer (some ⟨By,0,none⟩),.int .u64 u,z4,z5,z6,z7,z8,z9,pG,pF,undef,.int .u64 u,qp Q,qp Q,.pointer (some ⟨Q,8,none⟩),.map (some mb),.int .u64 u,.slice p nn cc,undef,undef],defers:=[] } w:=by
  refine wpAnyIn_ready (rs:=[0]) (by kernel_rfl) (by simp) ?_;refine AllReadyIn.cons rfl (fun Kc aJ=>?_) AllReadyIn.nil
  ·go_simp;exact aJ _ _ xE
 have xF:wpAnyIn (F.inRound l) n prog .any (dh ps) Q' 4 #[true,true,true,true,true,true,false,false,false,false] { tmps:=#[z0,.pointer (some ⟨Bl,0,none⟩),.pointer (some ⟨By,0,none⟩),.int .u64 u,z4,z5,z6,z7,z8,z9,pG,pF,y,.int .u64 u,qp Q,qp Q,.pointer (some ⟨Q,8,none⟩),.map (some mb),undef,undef,undef,undef],defers:=[] } w:=by
  refine wpAnyIn_ready (rs:=[6]) (by kernel_rfl) (by simp) ?_;refine AllReadyIn.cons rfl (fun Kc aJ=>?_) AllReadyIn.nil
  ·go_simp;exact aJ _ _ tI
 have tJ:wpAnyIn (F.inRound l) n prog .any (dh ps) Q' 4 #[true,true,true,true,true,false,true,false,false,false] { tmps:=#[z0,.pointer (some ⟨Bl,0,none⟩),.pointer (some ⟨By,0,none⟩),.int .u64 u,z4,z5,z6,z7,z8,z9,pG,pF,y,.int .u64 u,qp Q,qp Q,.pointer (some ⟨Q,8,none⟩),undef,.int .u64 u,undef,undef,undef],defers:=[] } w:=by
  refine wpAnyIn_ready (rs:=[5]) (by kernel_rfl) (by simp) ?_;refine AllReadyIn.cons rfl (fun Kc aJ=>?_) AllReadyIn.nil
  ·go_simp;exact aJ _ _ tI
 have xK:wpAnyIn (F.inRound l) n prog .any (dh ps) Q' 4 #[true,false,true,true,true,true,true,false,false,false] { tmps:=#[z0,.pointer (some ⟨Bl,0,none⟩),.pointer (some ⟨By,0,none⟩),.int .u64 u,z4,z5,z6,z7,z8,z9,pG,pF,y,undef,qp Q,qp Q,.pointer (some ⟨Q,8,none⟩),.map (some mb),.int .u64 u,undef,undef,undef],defers:=[] } w:=by
  refine wpAnyIn_ready (rs:=[1,7]) (by kernel_rfl) (by simp) ?_;refine AllReadyIn.cons rfl (fun Kc aJ=>?_) (AllReadyIn.cons rfl (fun Kc aJ=>?_) AllReadyIn.nil)
  ·go_simp;exact aJ _ _ tI
  ·go_simp;exact aJ _ _ DI
 have xO:wpAnyIn (F.inRound l) n prog .any (dh ps) Q' 4 #[false,true,true,true,true,true,true,false,false,false] { tmps:=#[z0,.pointer (some ⟨Bl,0,none⟩),.pointer (some ⟨By,0,none⟩),.int .u64 u,z4,z5,z6,z7,z8,z9,pG,pF,undef,.int .u64 u,qp Q,qp Q,.pointer (some ⟨Q,8,none⟩),.map (some mb),.int .u64 u,undef,undef,undef],defers:=[] } w:=by
  refine wpAnyIn_ready (rs:=[0,7]) (by kernel_rfl) (by simp) ?_;refine AllReadyIn.cons rfl (fun Kc aJ=>?_) (AllReadyIn.cons rfl (fun Kc aJ=>?_) AllReadyIn.nil)
  ·go_simp;exact aJ _ _ tI
  ·go_simp;exact aJ _ _ DP
 have Qo:wpAnyIn (F.inRound l) n prog .any (dh ps) Q' 4 #[false,false,true,true,true,true,true,true,false,false] { tmps:=#[z0,.pointer (some ⟨Bl,0,none⟩),.pointer (some ⟨By,0,none⟩),.int .u64 u,z4,z5,z6,z7,z8,z9,pG,pF,undef,undef,qp Q,qp Q,.pointer (some ⟨Q,8,none⟩),.map (some mb),.int .u64 u,.slice p nn cc,undef,undef],defers:=[] } w:=by
  refine wpAnyIn_ready (rs:=[0,1]) (by kernel_rfl) (by simp) ?_;refine AllReadyIn.cons rfl (fun Kc aJ=>?_) (AllReadyIn.cons rfl (fun Kc aJ=>?_) AllReadyIn.nil)
  ·go_simp;exact aJ _ _ DI
  ·go_simp;exact aJ _ _ DP
 have xG:wpAnyIn (F.inRound l) n prog .any (dh ps) Q' 5 #[true,true,true,true,true,false,false,false,false,false] { tmps:=#[z0,.pointer (some ⟨Bl,0,none⟩),.pointer (some ⟨By,0,none⟩),.int .u64 u,z4,z5,z6,z7,z8,z9,pG,pF,y,.int .u64 u,qp Q,qp Q,.pointer (some ⟨Q,8,none⟩),undef,undef,undef,undef,undef],defers:=[] } w:=by
  refine wpAnyIn_ready (rs:=[5,6]) (by kernel_rfl) (by simp) ?_;refine AllReadyIn.cons rfl (fun Kc aJ=>?_) (AllReadyIn.cons rfl (fun Kc aJ=>?_) AllReadyIn.nil)
  ·go_simp;exact aJ _ _ xF
  ·go_simp;exact aJ _ _ tJ
 have tK:wpAnyIn (F.inRound l) n prog .any (dh ps) Q' 5 #[true,true,true,true,false,false,true,false,false,false] { tmps:=#[z0,.pointer (some ⟨Bl,0,none⟩),.pointer (some ⟨By,0,none⟩),.int .u64 u,z4,z5,z6,z7,z8,z9,pG,pF,y,.int .u64 u,qp Q,qp Q,undef,undef,.int .u64 u,undef,undef,undef],defers:=[] } w:=by
  refine wpAnyIn_ready (rs:=[4]) (by kernel_rfl) (by simp) ?_;refine AllReadyIn.cons rfl (fun Kc aJ=>?_) AllReadyIn.nil
  ·go_simp;exact aJ _ _ tJ
 have DJ:wpAnyIn (F.inRound l) n prog .any (dh ps) Q' 5 #[true,false,true,true,true,true,false,false,false,false] { tmps:=#[z0,.pointer (some ⟨Bl,0,none⟩),.pointer (some ⟨By,0,none⟩),.int .u64 u,z4,z5,z6,z7,z8,z9,pG,pF,y,undef,qp Q,qp Q,.pointer (some ⟨Q,8,none⟩),.map (some mb),undef,undef,undef,undef],defers:=[] } w:=by
  refine wpAnyIn_ready (rs:=[1,6]) (by kernel_rfl) (by simp) ?_;refine AllReadyIn.cons rfl (fun Kc aJ=>?_) (AllReadyIn.cons rfl (fun Kc aJ=>?_) AllReadyIn.nil)
  ·go_simp;exact aJ _ _ xF
  ·go_simp;exact aJ _ _ xK
 have xL:wpAnyIn (F.inRound l) n prog .any (dh ps) Q' 5 #[true,false,true,true,true,false,true,false,false,false] { tmps:=#[z0,.pointer (some ⟨Bl,0,none⟩),.pointer (some ⟨By,0,none⟩),.int .u64 u,z4,z5,z6,z7,z8,z9,pG,pF,y,undef,qp Q,qp Q,.pointer (some ⟨Q,8,none⟩),undef,.int .u64 u,undef,undef,undef],defers:=[] } w:=by
  refine wpAnyIn_ready (rs:=[1,5]) (by kernel_rfl) (by simp) ?_;refine AllReadyIn.cons rfl (fun Kc aJ=>?_) (AllReadyIn.cons rfl (fun Kc aJ=>?_) AllReadyIn.nil)
  ·go_simp;exact aJ _ _ tJ
  ·go_simp;exact aJ _ _ xK
 have DQ:wpAnyIn (F.inRound l) n prog .any (dh ps) Q' 5 #[false,true,true,true,true,true,false,false,false,false] { tmps:=#[z0,.pointer (some ⟨Bl,0,none⟩),.pointer (some ⟨By,0,none⟩),.int .u64 u,z4,z5,z6,z7,z8,z9,pG,pF,undef,.int .u64 u,qp Q,qp Q,.pointer (some ⟨Q,8,none⟩),.map (some mb),undef,undef,undef,undef],defers:=[] } w:=by
  refine wpAnyIn_ready (rs:=[0,6]) (by kernel_rfl) (by simp) ?_;refine AllReadyIn.cons rfl (fun Kc aJ=>?_) (AllReadyIn.cons rfl (fun Kc aJ=>?_) AllReadyIn.nil)
  ·go_simp;exact aJ _ _ xF
  ·go_simp;exact aJ _ _ xO
 have xP:wpAnyIn (F.inRound l) n prog .any (dh ps) Q' 5 #[false,true,true,true,true,false,true,false,false,false] { tmps:=#[z0,.pointer (some ⟨Bl,0,none⟩),.pointer (some ⟨By,0,none⟩),.int .u64 u,z4,z5,z6,z7,z8,z9,pG,pF,undef,.int .u64 u,qp Q,qp Q,.pointer (some ⟨Q,8,none⟩),undef,.int .u64 u,undef,undef,undef],defers:=[] } w:=by
  refine wpAnyIn_ready (rs:=[0,5]) (by kernel_rfl) (by simp) ?_;refine AllReadyIn.cons rfl (fun Kc aJ=>?_) (AllReadyIn.cons rfl (fun Kc aJ=>?_) AllReadyIn.nil)
  ·go_simp;exact aJ _ _ tJ
  ·go_simp;exact aJ _ _ xO
 have DY:wpAnyIn (F.inRound l) n prog .any (dh ps) Q' 5 #[false,false,true,true,true,true,true,false,false,false] { tmps:=#[z0,.pointer (some ⟨Bl,0,none⟩),.pointer (some ⟨By,0,none⟩),.int .u64 u,z4,z5,z6,z7,z8,z9,pG,pF,undef,undef,qp Q,qp Q,.pointer (some ⟨Q,8,none⟩),.map (some mb),.int .u64 u,undef,undef,undef],defers:=[] } w:=by
  refine wpAnyIn_ready (rs:=[0,1,7]) (by kernel_rfl) (by simp) ?_;refine AllReadyIn.cons rfl (fun Kc aJ=>?_) (AllReadyIn.cons rfl (fun Kc aJ=>?_) (AllReadyIn.cons rfl (fun Kc aJ=>?_) AllReadyIn.nil))
  ·go_simp;exact aJ _ _ xK
  ·go_simp;exact aJ _ _ xO
  ·go_simp;exact aJ _ _ Qo
 have xH:wpAnyIn (F.inRound l) n prog .any (dh ps) Q' 6 #[true,true,true,true,false,false,false,false,false,false] { tmps:=#[z0,.pointer (some ⟨Bl,0,none⟩),.pointer (some ⟨By,0,none⟩),.int .u64 u,z4,z5,z6,z7,z8,z9,pG,pF,y,.int .u64 u,qp Q,qp Q,undef,undef,undef,undef,undef,undef],defers:=[] } w:=by
  refine wpAnyIn_ready (rs:=[4,6]) (by kernel_rfl) (by simp) ?_;refine AllReadyIn.cons rfl (fun Kc aJ=>?_) (AllReadyIn.cons rfl (fun Kc aJ=>?_) AllReadyIn.nil)
  ·go_simp;exact aJ _ _ xG
  ·go_simp;exact aJ _ _ tK
 have tL:wpAnyIn (F.inRound l) n prog .any (dh ps) Q' 6 #[true,true,true,false,false,false,true,false,false,false] { tmps:=#[z0,.pointer (some ⟨Bl,0,none⟩),.pointer (some ⟨By,0,none⟩),.int .u64 u,z4,z5,z6,z7,z8,z9,pG,pF,y,.int .u64 u,qp Q,undef,undef,undef,.int .u64 u,undef,undef,undef],defers:=[] } w:=by
  refine wpAnyIn_ready (rs:=[3]) (by kernel_rfl) (by simp) ?_;refine AllReadyIn.cons rfl (fun Kc aJ=>?_) AllReadyIn.nil
  ·go_simp;exact aJ _ _ tK
 have DK:wpAnyIn (F.inRound l) n prog .any (dh ps) Q' 6 #[true,false,true,true,true,false,false,false,false,false] { tmps:=#[z0,.pointer (some ⟨Bl,0,none⟩),.pointer (some ⟨By,0,none⟩),.int .u64 u,z4,z5,z6,z7,z8,z9,pG,pF,y,undef,qp Q,qp Q,.pointer (some ⟨Q,8,none⟩),undef,undef,undef,undef,undef],defers:=[] } w:=by
  refine wpAnyIn_ready (rs:=[1,5,6]) (by kernel_rfl) (by simp) ?_;refine AllReadyIn.cons rfl (fun Kc aJ=>?_) (AllReadyIn.cons rfl (fun Kc aJ=>?_) (AllReadyIn.cons rfl (fun Kc aJ=>?_) AllReadyIn.nil))
  ·go_simp;exact aJ _ _ xG
  ·go_simp;exact aJ _ _ DJ
  ·go_simp;exact aJ _ _ xL
 have xM:wpAnyIn (F.inRound l) n prog .any (dh ps) Q' 6 #[true,false,true,true,false,false,true,false,false,false] { tmps:=#[z0,.pointer (some ⟨Bl,0,none⟩),.pointer (some ⟨By,0,none⟩),.int .u64 u,z4,z5,z6,z7,z8,z9,pG,pF,y,undef,qp Q,qp Q,undef,undef,.int .u64 u,undef,undef,undef],defers:=[] } w:=by
  refine wpAnyIn_ready (rs:=[1,4]) (by kernel_rfl) (by simp) ?_;refine AllReadyIn.cons rfl (fun Kc aJ=>?_) (AllReadyIn.cons rfl (fun Kc aJ=>?_) AllReadyIn.nil)
  ·go_simp;exact aJ _ _ tK
  ·go_simp;exact aJ _ _ xL
 have DT:wpAnyIn (F.inRound l) n prog .any (dh ps) Q' 6 #[false,true,true,true,true,false,false,false,false,false] { tmps:=#[z0,.pointer (some ⟨Bl,0,none⟩),.pointer (some ⟨By,0,none⟩),.int .u64 u,z4,z5,z6,z7,z8,z9,pG,pF,undef,.int .u64 u,qp Q,qp Q,.pointer (some ⟨Q,8,none⟩),undef,undef,undef,undef,undef],defers:=[] } w:=by
  refine wpAnyIn_ready (rs:=[0,5,6]) (by kernel_rfl) (by simp) ?_;refine AllReadyIn.cons rfl (fun Kc aJ=>?_) (AllReadyIn.cons rfl (fun Kc aJ=>?_) (AllReadyIn.cons rfl (fun Kc aJ=>?_) AllReadyIn.nil))
  ·go_simp;exact aJ _ _ xG
  ·go_simp;exact aJ _ _ DQ
  ·go_simp;exact aJ _ _ xP
 have xQ:wpAnyIn (F.inRound l) n prog .any (dh ps) Q' 6 #[false,true,true,true,false,false,true,false,false,false] { tmps:=#[z0,.pointer (some ⟨Bl,0,none⟩),.pointer (some ⟨By,0,none⟩),.int .u64 u,z4,z5,z6,z7,z8,z9,pG,pF,undef,.int .u64 u,qp Q,qp Q,undef,undef,.int .u64 u,undef,undef,undef],defers:=[] } w:=by
  refine wpAnyIn_ready (rs:=[0,4]) (by kernel_rfl) (by simp) ?_;refine AllReadyIn.cons rfl (fun Kc aJ=>?_) (AllReadyIn.cons rfl (fun Kc aJ=>?_) AllReadyIn.nil)
  ·go_simp;exact aJ _ _ tK
  ·go_simp;exact aJ _ _ xP
 have Qp:wpAnyIn (F.inRound l) n prog .any (dh ps) Q' 6 #[false,false,true,true,true,true,false,false,false,false] { tmps:=#[z0,.pointer (some ⟨Bl,0,none⟩),.pointer (some ⟨By,0,none⟩),.int .u64 u,z4,z5,z6,z7,z8,z9,pG,pF,undef,undef,qp Q,qp Q,.pointer (some ⟨Q,8,none⟩),.map (some mb),undef,undef,undef,undef],defers:=[] } w:=by
  refine wpAnyIn_ready (rs:=[0,1,6]) (by kernel_rfl) (by simp) ?_;refine AllReadyIn.cons rfl (fun Kc aJ=>?_) (AllReadyIn.cons rfl (fun Kc aJ=>?_) (AllReadyIn.cons rfl (fun Kc aJ=>?_) AllReadyIn.nil))
  ·go_simp;exact aJ _ _ DJ
  ·go_simp;exact aJ _ _ DQ
  ·go_simp;exact aJ _ _ DY
 have DZ:wpAnyIn (F.inRound l) n prog .any (dh ps) Q' 6 #[false,false,true,true,true,false,true,false,false,false] { tmps:=#[z0,.pointer (some ⟨Bl,0,none⟩),.pointer (some ⟨By,0,none⟩),.int .u64 u,z4,z5,z6,z7,z8,z9,pG,pF,undef,undef,qp Q,qp Q,.pointer (some ⟨Q,8,none⟩),undef,.int .u64 u,undef,undef,undef],defers:=[] } w:=by
  refine wpAnyIn_ready (rs:=[0,1,5]) (by kernel_rfl) (by simp) ?_;refine AllReadyIn.cons rfl (fun Kc aJ=>?_) (AllReadyIn.cons rfl (fun Kc aJ=>?_) (AllReadyIn.cons rfl (fun Kc aJ=>?_) AllReadyIn.nil))
  ·go_simp;exact aJ _ _ xL
  ·go_simp;exact aJ _ _ xP
  ·go_simp;exact aJ _ _ DY
 have xI:wpAnyIn (F.inRound l) n prog .any (dh ps) Q' 7 #[true,true,true,false,false,false,false,false,false,false] { tmps:=#[z0,.pointer (some ⟨Bl,0,none⟩),.pointer (some ⟨By,0,none⟩),.int .u64 u,z4,z5,z6,z7,z8,z9,pG,pF,y,.int .u64 u,qp Q,undef,undef,undef,undef,undef,undef,undef],defers:=[] } w:=by
  refine wpAnyIn_ready (rs:=[3,6]) (by kernel_rfl) (by simp) ?_;refine AllReadyIn.cons rfl (fun Kc aJ=>?_) (AllReadyIn.cons rfl (fun Kc aJ=>?_) AllReadyIn.nil)
  ·go_simp;exact aJ _ _ xH
  ·go_simp;exact aJ _ _ tL
 have xJ:wpAnyIn (F.inRound l) n prog .any (dh ps) Q' 7 #[true,true,false,false,false,false,true,false,false,false] { tmps:=#[z0,.pointer (some ⟨Bl,0,none⟩),.pointer (some ⟨By,0,none⟩),.int .u64 u,z4,z5,z6,z7,z8,z9,pG,pF,y,.int .u64 u,undef,undef,undef,undef,.int .u64 u,undef,undef,undef],defers:=[] } w:=by
  refine wpAnyIn_ready (rs:=[2]) (by kernel_rfl) (by simp) ?_;refine AllReadyIn.cons rfl (fun Kc aJ=>?_) AllReadyIn.nil
  ·go_simp;exact aJ _ _ tL
 have DL:wpAnyIn (F.inRound l) n prog .any (dh ps) Q' 7 #[true,false,true,true,false,false,false,false,false,false] { tmps:=#[z0,.pointer (some ⟨Bl,0,none⟩),.pointer (some ⟨By,0,none⟩),.int .u64 u,z4,z5,z6,z7,z8,z9,pG,pF,y,undef,qp Q,qp Q,undef,undef,undef,undef,undef,undef],defers:=[] } w:=by
  refine wpAnyIn_ready (rs:=[1,4,6]) (by kernel_rfl) (by simp) ?_;refine AllReadyIn.cons rfl (fun Kc aJ=>?_) (AllReadyIn.cons rfl (fun Kc aJ=>?_) (AllReadyIn.cons rfl (fun Kc aJ=>?_) AllReadyIn.nil))
  ·go_simp;exact aJ _ _ xH
  ·go_simp;exact aJ _ _ DK
  ·go_simp;exact aJ _ _ xM
 have xN:wpAnyIn (F.inRound l) n prog .any (dh ps) Q' 7 #[true,false,true,false,false,false,true,false,false,false] { tmps:=#[z0,.pointer (some ⟨Bl,0,none⟩),.pointer (some ⟨By,0,none⟩),.int .u64 u,z4,z5,z6,z7,z8,z9,pG,pF,y,undef,qp Q,undef,undef,undef,.int .u64 u,undef,undef,undef],defers:=[] } w:=by
  refine wpAnyIn_ready (rs:=[1,3]) (by kernel_rfl) (by simp) ?_;refine AllReadyIn.cons rfl (fun Kc aJ=>?_) (AllReadyIn.cons rfl (fun Kc aJ=>?_) AllReadyIn.nil)
  ·go_simp;exact aJ _ _ tL
  ·go_simp;exact aJ _ _ xM
 have DU:wpAnyIn (F.inRound l) n prog .any (dh ps) Q' 7 #[false,true,true,true,false,false,false,false,false,false] { tmps:=#[z0,.pointer (some ⟨Bl,0,none⟩),.pointer (some ⟨By,0,none⟩),.int .u64 u,z4,z5,z6,z7,z8,z9,pG,pF,undef,.int .u64 u,qp Q,qp Q,undef,undef,undef,undef,undef,undef],defers:=[] } w:=by
  refine wpAnyIn_ready (rs:=[0,4,6]) (by kernel_rfl) (by simp) ?_;refine AllReadyIn.cons rfl (fun Kc aJ=>?_) (AllReadyIn.cons rfl (fun Kc aJ=>?_) (AllReadyIn.cons rfl (fun Kc aJ=>?_) AllReadyIn.nil))
  ·go_simp;exact aJ _ _ xH
  ·go_simp;exact aJ _ _ DT
  ·go_simp;exact aJ _ _ xQ
 have xR:wpAnyIn (F.inRound l) n prog .any (dh ps) Q' 7 #[false,true,true,false,false,false,true,false,false,false] { tmps:=#[z0,.pointer (some ⟨Bl,0,none⟩),.pointer (some ⟨By,0,none⟩),.int .u64 u,z4,z5,z6,z7,z8,z9,pG,pF,undef,.int .u64 u,qp Q,undef,undef,undef,.int .u64 u,undef,undef,undef],defers:=[] } w:=by
  refine wpAnyIn_ready (rs:=[0,3]) (by kernel_rfl) (by simp) ?_;refine AllReadyIn.cons rfl (fun Kc aJ=>?_) (AllReadyIn.cons rfl (fun Kc aJ=>?_) AllReadyIn.nil)
  ·go_simp;exact aJ _ _ tL
  ·go_simp;exact aJ _ _ xQ
 have Qq:wpAnyIn (F.inRound l) n prog .any (dh ps) Q' 7 #[false,false,true,true,true,false,false,false,false,false] { tmps:=#[z0,.pointer (some ⟨Bl,0,none⟩),.pointer (some ⟨By,0,none⟩),.int .u64 u,z4,z5,z6,z7,z8,z9,pG,pF,undef,undef,qp Q,qp Q,.pointer (some ⟨Q,8,none⟩),undef,undef,undef,undef,undef],defers:=[] } w:=by
  refine wpAnyIn_ready (rs:=[0,1,5,6]) (by kernel_rfl) (by simp) ?_;refine AllReadyIn.cons rfl (fun Kc aJ=>?_) (AllReadyIn.cons rfl (fun Kc aJ=>?_) (AllReadyIn.cons rfl (fun Kc aJ=>?_) (AllReadyIn.cons rfl (fun Kc aJ=>?_) AllReadyIn.nil)))
  ·go_simp;exact aJ _ _ DK
  ·go_simp;exact aJ _ _ DT
  ·go_simp;exact aJ _ _ Qp
  ·go_simp;exact aJ _ _ DZ
 have D_:wpAnyIn (F.inRound l) n prog .any (dh ps) Q' 7 #[false,false,true,true,false,false,true,false,false,false] { tmps:=#[z0,.pointer (some ⟨Bl,0,none⟩),.pointer (some ⟨By,0,none⟩),.int .u64 u,z4,z5,z6,z7,z8,z9,pG,pF,undef,undef,qp Q,qp Q,undef,undef,.int .u64 u,undef,undef,undef],defers:=[] } w:=by
  refine wpAnyIn_ready (rs:=[0,1,4]) (by kernel_rfl) (by simp) ?_;refine AllReadyIn.cons rfl (fun Kc aJ=>?_) (AllReadyIn.cons rfl (fun Kc aJ=>?_) (AllReadyIn.cons rfl (fun Kc aJ=>?_) AllReadyIn.nil))
  ·go_simp;exact aJ _ _ xM
  ·go_simp;exact aJ _ _ xQ
  ·go_simp;exact aJ _ _ DZ
 have DH:wpAnyIn (F.inRound l) n prog .any (dh ps) Q' 8 #[true,true,false,false,false,false,false,false,false,false] { tmps:=#[z0,.pointer (some ⟨Bl,0,none⟩),.pointer (some ⟨By,0,none⟩),.int .u64 u,z4,z5,z6,z7,z8,z9,pG,pF,y,.int .u64 u,undef,undef,undef,undef,undef,undef,undef,undef],defers:=[] } w:=by
  refine wpAnyIn_ready (rs:=[2,6]) (by kernel_rfl) (by simp) ?_;refine AllReadyIn.cons rfl (fun Kc aJ=>?_) (AllReadyIn.cons rfl (fun Kc aJ=>?_) AllReadyIn.nil)
  ·go_simp;exact aJ _ _ xI
  ·go_simp;exact aJ _ _ xJ
 have DM:wpAnyIn (F.inRound l) n prog .any (dh ps) Q' 8 #[true,false,true,false,false,false,false,false,false,false] { tmps:=#[z0,.pointer (some ⟨Bl,0,none⟩),.pointer (some ⟨By,0,none⟩),.int .u64 u,z4,z5,z6,z7,z8,z9,pG,pF,y,undef,qp Q,undef,undef,undef,undef,undef,undef,undef],defers:=[] } w:=by
  refine wpAnyIn_ready (rs:=[1,3,6]) (by kernel_rfl) (by simp) ?_;refine AllReadyIn.cons rfl (fun Kc aJ=>?_) (AllReadyIn.cons rfl (fun Kc aJ=>?_) (AllReadyIn.cons rfl (fun Kc aJ=>?_) AllReadyIn.nil))
  ·go_simp;exact aJ _ _ xI
  ·go_simp;exact aJ _ _ DL
  ·go_simp;exact aJ _ _ xN
 have DO:wpAnyIn (F.inRound l) n prog .any (dh ps) Q' 8 #[true,false,false,false,false,false,true,false,false,false] { tmps:=#[z0,.pointer (some ⟨Bl,0,none⟩),.pointer (some ⟨By,0,none⟩),.int .u64 u,z4,z5,z6,z7,z8,z9,pG,pF,y,undef,undef,undef,undef,undef,.int .u64 u,undef,undef,undef],defers:=[] } w:=by
  refine wpAnyIn_ready (rs:=[1,2]) (by kernel_rfl) (by simp) ?_;refine AllReadyIn.cons rfl (fun Kc aJ=>?_) (AllReadyIn.cons rfl (fun Kc aJ=>?_) AllReadyIn.nil)
  ·go_simp;exact aJ _ _ xJ
  ·go_simp;exact aJ _ _ xN
 have DV:wpAnyIn (F.inRound l) n prog .any (dh ps) Q' 8 #[false,true,true,false,false,false,false,false,false,false] { tmps:=#[z0,.pointer (some ⟨Bl,0,none⟩),.pointer (some ⟨By,0,none⟩),.int .u64 u,z4,z5,z6,z7,z8,z9,pG,pF,undef,.int .u64 u,qp Q,undef,undef,undef,undef,undef,undef,undef],defers:=[] } w:=by
  refine wpAnyIn_ready (rs:=[0,3,6]) (by kernel_rfl) (by simp) ?_;refine AllReadyIn.cons rfl (fun Kc aJ=>?_) (AllReadyIn.cons rfl (fun Kc aJ=>?_) (AllReadyIn.cons rfl (fun Kc aJ=>?_) AllReadyIn.nil))
  ·go_simp;exact aJ _ _ xI
  ·go_simp;exact aJ _ _ DU
  ·go_simp;exact aJ _ _ xR
 have DW:wpAnyIn (F.inRound l) n prog .any (dh ps) Q' 8 #[false,true,false,false,false,false,true,false,false,false] { tmps:=#[z0,.pointer (some ⟨Bl,0,none⟩),.pointer (some ⟨By,0,none⟩),.int .u64 u,z4,z5,z6,z7,z8,z9,pG,pF,undef,.int .u64 u,undef,undef,undef,undef,.int .u64 u,undef,undef,undef],defers:=[] } w:=by
  refine wpAnyIn_ready (rs:=[0,2]) (by kernel_rfl) (by simp) ?_;refine AllReadyIn.cons rfl (fun Kc aJ=>?_) (AllReadyIn.cons rfl (fun Kc aJ=>?_) AllReadyIn.nil)
  ·go_simp;exact aJ _ _ xJ
  ·go_simp;exact aJ _ _ xR
 have Qr:wpAnyIn (F.inRound l) n prog .any (dh ps) Q' 8 #[false,false,true,true,false,false,false,false,false,false] { tmps:=#[z0,.pointer (some ⟨Bl,0,none⟩),.pointer (some ⟨By,0,none⟩),.int .u64 u,z4,z5,z6,z7,z8,z9,pG,pF,undef,undef,qp Q,qp Q,undef,undef,undef,undef,undef,undef],defers:=[] } w:=by
  refine wpAnyIn_ready (rs:=[0,1,4,6]) (by kernel_rfl) (by simp) ?_;refine AllReadyIn.cons rfl (fun Kc aJ=>?_) (AllReadyIn.cons rfl (fun Kc aJ=>?_) (AllReadyIn.cons rfl (fun Kc aJ=>?_) (AllReadyIn.cons rfl (fun Kc aJ=>?_) AllReadyIn.nil)))
  ·go_simp;exact aJ _ _ DL
  ·go_simp;exact aJ _ _ DU
  ·go_simp;exact aJ _ _ Qq
  ·go_simp;exact aJ _ _ D_
 have Ea:wpAnyIn (F.inRound l) n prog .any (dh ps) Q' 8 #[false,false,true,false,false,false,true,false,false,false] { tmps:=#[z0,.pointer (some ⟨Bl,0,none⟩),.pointer (some ⟨By,0,none⟩),.int .u64 u,z4,z5,z6,z7,z8,z9,pG,pF,undef,undef,qp Q,undef,undef,undef,.int .u64 u,undef,undef,undef],defers:=[] } w:=by
  refine wpAnyIn_ready (rs:=[0,1,3]) (by kernel_rfl) (by simp) ?_;refine AllReadyIn.cons rfl (fun Kc aJ=>?_) (AllReadyIn.cons rfl (fun Kc aJ=>?_) (AllReadyIn.cons rfl (fun Kc aJ=>?_) AllReadyIn.nil))
  ·go_simp;exact aJ _ _ xN
  ·go_simp;exact aJ _ _ xR
  ·go_simp;exact aJ _ _ D_
 have Qj:wpAnyIn (F.inRound l) n prog .any (dh ps) Q' 9 #[true,false,false,false,false,false,false,false,false,false] { tmps:=#[z0,.pointer (some ⟨Bl,0,none⟩),.pointer (some ⟨By,0,none⟩),.int .u64 u,z4,z5,z6,z7,z8,z9,pG,pF,y,undef,undef,undef,undef,undef,undef,undef,undef,undef],defers:=[] } w:=by
  refine wpAnyIn_ready (rs:=[1,2,6]) (by kernel_rfl) (by simp) ?_;refine AllReadyIn.cons rfl (fun Kc aJ=>?_) (AllReadyIn.cons rfl (fun Kc aJ=>?_) (AllReadyIn.cons rfl (fun Kc aJ=>?_) AllReadyIn.nil))
  ·go_simp;exact aJ _ _ DH
  ·go_simp;exact aJ _ _ DM
  ·go_simp;exact aJ _ _ DO
 have Qk:wpAnyIn (F.inRound l) n prog .any (dh ps) Q' 9 #[false,true,false,false,false,false,false,false,false,false] { tmps:=#[z0,.pointer (some ⟨Bl,0,none⟩),.pointer (some ⟨By,0,none⟩),.int .u64 u,z4,z5,z6,z7,z8,z9,pG,pF,undef,.int .u64 u,undef,undef,undef,undef,undef,undef,undef,undef],defers:=[] } w:=by
  refine wpAnyIn_ready (rs:=[0,2,6]) (by kernel_rfl) (by simp) ?_;refine AllReadyIn.cons rfl (fun Kc aJ=>?_) (AllReadyIn.cons rfl (fun Kc aJ=>?_) (AllReadyIn.cons rfl (fun Kc aJ=>?_) AllReadyIn.nil))
  ·go_simp;exact aJ _ _ DH
  ·go_simp;exact aJ _ _ DV
  ·go_simp;exact aJ _ _ DW
 have Qs:wpAnyIn (F.inRound l) n prog .any (dh ps) Q' 9 #[false,false,true,false,false,false,false,false,false,false] { tmps:=#[z0,.pointer (some ⟨Bl,0,none⟩),.pointer (some ⟨By,0,none⟩),.int .u64 u,z4,z5,z6,z7,z8,z9,pG,pF,undef,undef,qp Q,undef,undef,undef,undef,undef,undef,undef],defers:=[] } w:=by
  refine wpAnyIn_ready (rs:=[0,1,3,6]) (by kernel_rfl) (by simp) ?_;refine AllReadyIn.cons rfl (fun Kc aJ=>?_) (AllReadyIn.cons rfl (fun Kc aJ=>?_) (AllReadyIn.cons rfl (fun Kc aJ=>?_) (AllReadyIn.cons rfl (fun Kc aJ=>?_) AllReadyIn.nil)))
  ·go_simp;exact aJ _ _ DM
  ·go_simp;exact aJ _ _ DV
  ·go_simp;exact aJ _ _ Qr
  ·go_simp;exact aJ _ _ Ea
 have Qt:wpAnyIn (F.inRound l) n prog .any (dh ps) Q' 9 #[false,false,false,false,false,false,true,false,false,false] { tmps:=#[z0,.pointer (some ⟨Bl,0,none⟩),.pointer (some ⟨By,0,none⟩),.int .u64 u,z4,z5,z6,z7,z8,z9,pG,pF,undef,undef,undef,undef,undef,undef,.int .u64 u,undef,undef,undef],defers:=[] } w:=by
  refine wpAnyIn_ready (rs:=[0,1,2]) (by kernel_rfl) (by simp) ?_;refine AllReadyIn.cons rfl (fun Kc aJ=>?_) (AllReadyIn.cons rfl (fun Kc aJ=>?_) (AllReadyIn.cons rfl (fun Kc aJ=>?_) AllReadyIn.nil))
  ·go_simp;exact aJ _ _ DO
  ·go_simp;exact aJ _ _ DW
  ·go_simp;exact aJ _ _ Ea
 have Eb:wpAnyIn (F.inRound l) n prog .any (dh ps) Q' 10 #[false,false,false,false,false,false,false,false,false,false] { tmps:=#[z0,.pointer (some ⟨Bl,0,none⟩),.pointer (some ⟨By,0,none⟩),.int .u64 u,z4,z5,z6,z7,z8,z9,pG,pF,undef,undef,undef,undef,undef,undef,undef,undef,undef,undef],defers:=[] } w:=by
  refine wpAnyIn_ready (rs:=[0,1,2,6]) (by kernel_rfl) (by simp) ?_;refine AllReadyIn.cons rfl (fun Kc aJ=>?_) (AllReadyIn.cons rfl (fun Kc aJ=>?_) (AllReadyIn.cons rfl (fun Kc aJ=>?_) (AllReadyIn.cons rfl (fun Kc aJ=>?_) AllReadyIn.nil)))
  ·go_simp;exact aJ _ _ Qj
  ·go_simp;exact aJ _ _ Qk
  ·go_simp;exact aJ _ _ Qs
  ·go_simp;exact aJ _ _ Qt
 refine wpIn_region_any hmo ?_;rw[hw.out] at Eb;exact Eb
