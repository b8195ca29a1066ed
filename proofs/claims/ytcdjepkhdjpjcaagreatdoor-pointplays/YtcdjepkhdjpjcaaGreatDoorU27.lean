import Derived.Test.YtcdjepkhdjpjcaaGreatDoorU11
import Derived.Test.YtcdjepkhdjpjcaaGreatDoorU20
import Derived.Test.YtcdjepkhdjpjcaaGreatDoorU21
import Derived.Test.YtcdjepkhdjpjcaaGreatDoorU26
set_option maxHeartbeats 20000000
set_option maxRecDepth 100000
namespace Go.Proofs.Zq.Q
open Go.RowKit
def put {α:Type}(f:Nat->α)(i:Nat)(a:α):Nat->α:=fun j=>if j=i then a else f j
theorem ax{α:Type}(f:Nat->α)(i:Nat)(a:α):put f i a i=a:=aE rfl
theorem af{α:Type}(f:Nat->α){i j:Nat}(a:α)(h:j≠i):put f i a j=f j:=aD h
theorem On{a b c:Prop}(h:a\/b)(f:b->c):a\/c:=h.elim .inl fun x=>.inr (f x)
structure Th where
 at':World->(Nat->Prop)->Prop
 iF:Nat->Prop
 lt':∀w G b,at' w G->iF b->b<w.heap.size
 agR:∀w w' G G' S,at' w G->E.Kept S w w'->(∀b,iF b->¬S b)->(∀g,G g->¬S g)->(∀g,G g->G' g)->at' w' G'
def Th.at (w:World)(G:Nat->Prop)(t:Th):Prop:=t.at' w G
def Th.no:Th:=⟨fun _ _=>True,fun _=>False,fun _ _ _ _ h=>h.elim,fun _ _ _ _ _ _ _ _ _ _=>trivial⟩
variable {w0 w w':World} {G G':Nat->Prop}
theorem Th.lt{t:Th}(h:t.at w G){b:Nat}(hb:t.iF b):b<w.heap.size:=t.lt' w G b h hb
theorem Th.kept{t:Th}{S:Nat->Prop}(h:t.at w G)(hk:E.Kept S w w')(hf:∀b,t.iF b->¬S b)(hS:∀g,G g->¬S g)(xu:∀g,G g->G' g):t.at w' G':=t.agR w w' G G' S h hk hf hS xu
structure lT (w0 w:World) (T:Nat->Th) (G:Nat->Prop):Prop where
 at':∀i,i<40->(T i).at w G
 lo:∀i,i<40->∀b,(T i).iF b->w0.heap.size<=b
 apart:∀i j,i<40->j<40->i≠j->∀b,(T i).iF b->¬(T j).iF b
 im:∀i,i<40->∀b,(T i).iF b->¬G b
 YG:∀g,G g->g<w.heap.size
variable {P:Nat} {cs:Array Value} {T:Nat->Th}
theorem lT.mO{S:Nat->Prop}(h:lT w0 w T G)(hk:E.Kept S w w')(hf:∀i,i<40->∀b,(T i).iF b->¬S b)(hS:∀g,G g->¬S g):lT w0 w' T G :=
 ⟨fun i hi=>Th.kept (h.at' i hi) hk (hf i hi) hS (fun _ hg=>hg),h.lo,h.apart,h.im,fun g hg=>bN (h.YG g hg) hk.size⟩
theorem lT.later(h:lT w0 w T G)(hb:Below w.heap.size w w'):lT w0 w' T G:=h.mO (E.Kept.bP (fun _=>False) hb) (fun _ _ _ _ e=>e) (fun _ _ e=>e)
theorem lT.move(h:lT w0 w T G){i k:Nat}(hi:i<40)(Jj:i≠k){t:Th}{S:Nat->Prop}(ht:t.at w' G')(hk:E.Kept S w w')(hS:∀b,S b->(T i).iF b)(hf:∀b,t.iF b->(T i).iF b\/w.heap.size<=b\/(k<40/\(T k).iF b))(hw:w0.heap.size<=w.heap.size)(hG:∀g,G g->G' g)(hG2:∀g,G' g->G g\/(w.heap.size<=g/\g<w'.heap.size/\¬t.iF g)):lT w0 w' (put (put T i t) k .no) G':=by
 have hGS:∀g,G g->¬S g:=fun g hg hs=>h.im i hi g (hS g hs) hg;have Ry:∀j,j<40->∀b,(T j).iF b->b<w.heap.size:=fun j hj b hb=>Th.lt (h.at' j hj) hb;have nN:∀j,j<40->j≠i->j≠k->∀b,t.iF b->¬(T j).iF b:=fun j hj RE RC b hb e=>by
  rcases hf b hb with h1 | h1 | ⟨h1,h2⟩
  ·exact h.apart j i hj hi RE b e h1
  ·have:=Ry j hj b e;omega
  ·exact h.apart j k hj h1 RC b e h2
 refine⟨fun j hj=>?_,fun j hj b hb=>?_,fun x y hx hy kG b hb=>?_,fun j hj b hb hg=>?_,fun g hg=>?_⟩
 ·by_cases e:j=k
  ·subst e;rw[ax];trivial
  ·rw[af _ _ e];by_cases e2:j=i
   ·subst e2;rw[ax];exact ht
   ·rw[af _ _ e2];exact Th.kept (h.at' j hj) hk (fun b hb hs=>h.apart j i hj hi e2 b hb (hS b hs)) hGS hG
 ·by_cases e:j=k
  ·subst e;rw[ax] at hb;exact hb.elim
  ·rw[af _ _ e] at hb;by_cases e2:j=i
   ·subst e2;rw[ax] at hb;rcases hf b hb with h1 | h1 | ⟨h1,h2⟩
    ·exact h.lo j hj b h1
    ·omega
    ·exact h.lo k h1 b h2
   ·rw[af _ _ e2] at hb;exact h.lo j hj b hb
 ·by_cases e:x=k
  ·subst e;rw[ax] at hb;exact hb.elim
  ·by_cases e':y=k
   ·subst e';rw[ax];exact fun h=>h
   ·rw[af _ _ e] at hb;rw[af _ _ e'];by_cases e2:x=i
    ·subst e2;rw[ax] at hb;rw[af _ _ (Ne.symm kG)];exact nN y hy (Ne.symm kG) e' b hb
    ·rw[af _ _ e2] at hb;by_cases e3:y=i
     ·subst e3;rw[ax];exact fun h2=>nN x hx e2 e b h2 hb
     ·rw[af _ _ e3];exact h.apart x y hx hy kG b hb
 ·by_cases e:j=k
  ·subst e;rw[ax] at hb;exact hb.elim
  ·rw[af _ _ e] at hb;by_cases e2:j=i
   ·subst e2;rw[ax] at hb;rcases hG2 b hg with h1 | ⟨_,_,h1⟩
    ·rcases hf b hb with h2 | h2 | ⟨h2,h3⟩
     ·exact h.im j hj b h2 h1
     ·have:=h.YG b h1;omega
     ·exact h.im k h2 b h3 h1
    ·exact h1 hb
   ·rw[af _ _ e2] at hb;rcases hG2 b hg with h1 | ⟨h1,_⟩
    ·exact h.im j hj b hb h1
    ·have:=Ry j hj b hb;omega
 ·rcases hG2 g hg with h1 | ⟨_,h1,_⟩
  ·exact bN (h.YG g h1) hk.size
  ·exact h1
theorem lT.congr{T':Nat->Th}(h:lT w0 w T G)(he:∀i,i<40->T' i=T i):lT w0 w T' G :=
 ⟨fun i hi=>by rw[he i hi];exact h.at' i hi,fun i hi=>by rw[he i hi];exact h.lo i hi,fun i j hi hj=>by rw[he i hi,he j hj];exact h.apart i j hi hj,fun i hi=>by rw[he i hi];exact h.im i hi,h.YG⟩
theorem lT.turn(h:lT w0 w T G){i:Nat}(hi:i<40){t:Th}{S:Nat->Prop}(ht:t.at w' G')(hk:E.Kept S w w')(hS:∀b,S b->(T i).iF b)(hf:∀b,t.iF b->(T i).iF b\/w.heap.size<=b)(hw:w0.heap.size<=w.heap.size)(hG:∀g,G g->G' g)(hG2:∀g,G' g->G g\/(w.heap.size<=g/\g<w'.heap.size/\¬t.iF g)):lT w0 w' (put T i t) G' :=
 (h.move (k:=40) hi (by omega) ht hk hS (fun b hb=>On (hf b hb) fun e=>.inl e) hw hG hG2).congr fun j hj=>by rw[af (put T i t) _ (by omega)]
theorem lT.add(h:lT w0 w T G){k:Nat}{u:Th}(hu:u.at w G)(hf:∀b,u.iF b->w0.heap.size<=b/\¬G b/\∀j,j<40->j≠k->¬(T j).iF b):lT w0 w (put T k u) G:=by
 refine⟨fun j hj=>?_,fun j hj b hb=>?_,fun x y hx hy kG b hb=>?_,fun j hj b hb=>?_,h.YG⟩
 ·by_cases e:j=k
  ·subst e;rw[ax];exact hu
  ·rw[af _ _ e];exact h.at' j hj
 ·by_cases e:j=k
  ·subst e;rw[ax] at hb;exact (hf b hb).1
  ·rw[af _ _ e] at hb;exact h.lo j hj b hb
 ·by_cases e:x=k
  ·subst e;rw[ax] at hb;rw[af _ _ (Ne.symm kG)];exact (hf b hb).2.2 y hy (Ne.symm kG)
  ·rw[af _ _ e] at hb;by_cases e2:y=k
   ·subst e2;rw[ax];exact fun h2=>(hf b h2).2.2 x hx e hb
   ·rw[af _ _ e2];exact h.apart x y hx hy kG b hb
 ·by_cases e:j=k
  ·subst e;rw[ax] at hb;exact (hf b hb).2.1
  ·rw[af _ _ e] at hb;exact h.im j hj b hb
theorem lT.drop(h:lT w0 w T G)(k:Nat):lT w0 w (put T k .no) G:=h.add trivial fun _ hb=>hb.elim
theorem lT.still{G2:Nat->Prop}(h:lT w0 w T G)(hG:∀g,G g->G2 g)(hl:∀g,G2 g->g<w.heap.size)(hn:∀g,G2 g->¬G g->∀j,j<40->¬(T j).iF g):lT w0 w T G2:=by
 refine⟨fun i hi=>Th.kept (h.at' i hi) (E.Kept.refl (fun _=>False) w) (fun _ _ e=>e) (fun _ _ e=>e) hG,h.lo,h.apart,fun i hi b hb hg=>?_,hl⟩;by_cases e:G b
 ·exact h.im i hi b hb e
 ·exact hn b hg e i hi hb
theorem lT.lt(h:lT w0 w T G){i b:Nat}(hi:i<40)(hb:(T i).iF b):b<w.heap.size:=Th.lt (h.at' i hi) hb
theorem lT.fresh{we:World}(h:lT w0 we T G)(hw:w0.heap.size<=we.heap.size)(hb:Below we.heap.size we w)(k:Nat){u:Th}(hu:u.at w G)(hf:∀b,u.iF b->we.heap.size<=b):lT w0 w (put T k u) G :=
 (h.later hb).add hu fun b jb=>by
  have jb:=hf b jb;refine⟨bJ hw jb,fun hg=>?_,fun j hj _ hx=>?_⟩
  ·have:=h.YG b hg;omega
  ·have:=h.lt hj hx;omega
theorem k_{α:Type}(f:Nat->α)(i:Nat){x:α}(h:f i=x):put f i x=f:=funext fun j=>by
 by_cases e:j=i
 ·subst e;rw[ax,h]
 ·rw[af _ _ e]
theorem ee{α:Type}(f:Nat->α)(i:Nat)(x y:α):put (put f i x) i y=put f i y:=funext fun j=>by
 by_cases e:j=i
 ·subst e;rw[ax,ax]
 ·rw[af _ _ e,af _ _ e,af _ _ e]
theorem put_comm{α:Type}(f:Nat->α){i k:Nat}(x y:α)(h:i≠k):put (put f i x) k y=put (put f k y) i x:=funext fun j=>by
 by_cases e:j=k
 ·subst e;rw[ax,af _ _ (Ne.symm h),ax]
 ·rw[af _ _ e];by_cases e2:j=i
  ·subst e2;rw[ax,ax]
  ·rw[af _ _ e2,af _ _ e2,af _ _ e]
theorem kH{S:Nat->Prop}(h:Kept S w w'):E.Kept S w w':=⟨h.os,h.tape,h.output,h.size,h.block⟩
theorem kE{S:Nat->Prop}(h:E.Kept S w w'):E.Kept S w w':=⟨h.os,h.tape,h.output,h.size,h.block⟩
theorem toH{S:Nat->Prop}(h:E.Kept S w w'):Kept S w w':=⟨h.os,h.tape,h.output,h.size,h.block⟩
theorem toE{S:Nat->Prop}(h:E.Kept S w w'):E.Kept S w w':=⟨h.os,h.tape,h.output,h.size,h.block⟩
end Go.Proofs.Zq.Q
namespace Go.Proofs.Zq.Q
open Go.RowKit
structure Sx where
 g:Lg
 d:List Int
 ws:List Wr
 a:E.Ad
 n:Int
 L:List C.En
 s:Bool
 p:Int
 c:Nat
structure Sx.Ok (x:Sx):Prop where
 g:x.g.Ok
 a:x.a.Ok
 k:C.t_ x.n x.L (C.rW x.s x.p)
 p0:0<=x.p/\x.p<=4611686018427387904
 pf:x.s=false->x.p=0
def Sx.kY (x:Sx)(xs:List Int):Sx:={ x with a:=x.a.vC xs,c:=x.c+1 }
def Sx.sj (x:Sx):Sx:={ x with a:=x.a.rK,c:=x.c+1 }
def Sx.app (x:Sx)(t:Int):Sx:={ x with a:=x.a.jI t,c:=x.c+1 }
def Sx.Dp (x:Sx)(t:Int):Sx:={ x with a:=x.a.vu t,c:=x.c+1 }
def Sx.frd (x:Sx)(k:Int):Sx:={ x with a:=x.a.ku k,c:=x.c+1 }
def Sx.Rq (x:Sx)(b:Int):Int:=if mN x.g b=0 then x.g.fin else 0
def Sx.rU (x:Sx)(b:Int)(v:List Int):Sx:=if mN x.g b=0 then { x with g:=VR x.g b,ws:=x.ws++[⟨(oH x.g x.g.fin).toNat,R.encS (Rp x.g b v)⟩] } else x
def Sx.ug (x:Sx):Int:=if fK x.g=0 then x.g.fin else 0
def Sx.vA (x:Sx):Sx:=if fK x.g=0 then { x with g:=Xk x.g,ws:=x.ws++[⟨(oH x.g x.g.fin).toNat,R.encS (R_ x.g)⟩] } else x
def Sx.Ge (x:Sx):Sx:={ x with d:=settle (fun _=>true) x.ws x.d,ws:=[] }
def Sx.z_ (x:Sx)(t:Int):Sx:=if Out x.g t then x else { x with g:=mkG x.g t,ws:=x.ws++[⟨0,encS (vU x.g t)⟩] }
def Sx.WG (x:Sx):Sx:={ x with g:=frG x.g,d:=settle (fun _=>true) x.ws x.d,ws:=[] }
def Sx.put (x:Sx)(l:List C.Im)(q:Int):Sx:={ x with L:=C.CZ x.n x.L (C.rW x.s x.p) l q,s:=C.Fs x.n x.s x.p l q,p:=C.zn x.n x.s x.p l q }
def Sx.ji (x:Sx)(l:List C.Im)(q:Int):Int:=C.ji x.n (C.rW x.s x.p) l q
def Sx.drp (x:Sx)(l:List C.En):Sx:={ x with L:=C.lQ x.L l }
def Sx.zk (x:Sx)(b:Int):Int:=Eg x.g.c (x.g.sz:Nat) b
def Sx.CU (x:Sx)(b:Int)(v:List Int):Sx:={ x with ws:=Zj x.g.c (x.g.sz:Nat) x.ws b v }
theorem Sx.Ok.kY{x:Sx}(h:x.Ok)(xs:List Int):(x.kY xs).Ok:=⟨h.g,h.a.kY xs,h.k,h.p0,h.pf⟩
theorem Sx.Ok.sj{x:Sx}(h:x.Ok):x.sj.Ok:=⟨h.g,h.a.sj,h.k,h.p0,h.pf⟩
theorem Sx.Ok.app{x:Sx}(h:x.Ok)(t:Int):(x.app t).Ok:=⟨h.g,h.a.app t,h.k,h.p0,h.pf⟩
theorem Sx.Ok.rU{x:Sx}(h:x.Ok)(b:Int)(v:List Int):(x.rU b v).Ok:=by
 unfold Sx.rU;by_cases e:mN x.g b=0
 ·rw[aE e];exact⟨wP h.g e,h.a,h.k,h.p0,h.pf⟩
 ·rw[aD e];exact h
theorem Fx{n:Int}{s:Bool}{p:Int}{l:List C.Im}{q:Int}:C.rW (C.Fs n s p l q) (C.zn n s p l q)=C.LM n (C.rW s p) l q:=by
 unfold C.Fs C.zn C.LM;by_cases e:C.ji n (C.rW s p) l q=0
 ·rw[aE e,aE e,aE e];rfl
 ·rw[aD e,aD e,aD e]
theorem QS{n nx:Int}{l:List C.Im}{q:Int}(e:C.ji n nx l q=0):l.any (C.jC n)=false/\C.KM l=true/\nx<=q/\q<=4611686018427387904:=by
 unfold C.ji at e;by_cases h1:l.any (C.jC n)=true
 ·rw[aE h1] at e;exact absurd e (by decide)
 ·rw[aD h1] at e;by_cases h2:C.KM l=false
  ·rw[aE h2] at e;exact absurd e (by decide)
  ·rw[aD h2] at e;by_cases h3:q<nx\/4611686018427387904<q
   ·rw[aE h3] at e;exact absurd e (by decide)
   ·refine⟨?_,?_,?_,?_⟩
    ·cases h:l.any (C.jC n)
     ·rfl
     ·exact absurd h h1
    ·cases h:C.KM l
     ·exact absurd h h2
     ·rfl
    ·omega
    ·omega
theorem Sx.Ok.put{x:Sx}(h:x.Ok){l:List C.Im}(hw:C.pY l){q:Int}(hq:0<=q/\q<18446744073709551616):(x.put l q).Ok:=by
 refine⟨h.g,h.a,?_,?_,?_⟩
 ·show C.t_ x.n (C.CZ x.n x.L (C.rW x.s x.p) l q) (C.rW (C.Fs x.n x.s x.p l q) (C.zn x.n x.s x.p l q));rw[Fx];exact h.k.put hw hq
 ·show 0<=C.zn x.n x.s x.p l q/\C.zn x.n x.s x.p l q<=_;unfold C.zn;by_cases e:C.ji x.n (C.rW x.s x.p) l q=0
  ·rw[aE e];exact⟨hq.1,(QS e).2.2.2⟩
  ·rw[aD e];exact h.p0
 ·show C.Fs x.n x.s x.p l q=false->C.zn x.n x.s x.p l q=0;unfold C.Fs C.zn;by_cases e:C.ji x.n (C.rW x.s x.p) l q=0
  ·rw[aE e];intro h;cases h
  ·rw[aD e,aD e];exact h.pf
theorem Sx.Ok.drp{x:Sx}(h:x.Ok)(l:List C.En):(x.drp l).Ok:=⟨h.g,h.a,h.k.acC l,h.p0,h.pf⟩
def Th.sK (S:Nat->Prop)(L p:Nat)(d:List Int)(ws:List Wr)(g:Lg):Th:=⟨fun w _=>LD w S L p d ws g/\∀k,S k->k<w.heap.size,S,fun _ _ _ h hb=>h.2 _ hb,fun _ _ _ _ _ h hk hf _ _=>⟨h.1.kept (toH hk) (fun k a b=>hf k a b),fun k a=>bN (h.2 k a) hk.size⟩⟩
def Th.uf (S:Nat->Prop)(L p:Nat)(d:List Int)(ws:List Wr)(g:Lg)(b:Int):Th:=⟨fun w _=>RL w S L p d ws g b/\∀k,S k->k<w.heap.size,S,fun _ _ _ h hb=>h.2 _ hb,fun _ _ _ _ _ h hk hf _ _=>⟨h.1.kept (toH hk) (fun k a b=>hf k a b),fun k a=>bN (h.2 k a) hk.size⟩⟩
def Th.nT (F:E.Ft)(n:Nat)(a:E.Ad):Th:=⟨fun w G=>E.PL w F n a/\∀g,F.G g->G g,F.has,fun _ _ _ h hb=>h.1.lt hb,fun _ _ _ _ _ h hk hf hS xu=>⟨h.1.mO (toE hk) hf (fun g hg _=>hS g (h.2 g hg)),fun g hg=>xu g (h.2 g hg)⟩⟩
def Th.nC (R:Nat)(a:E.Ad):Th:=⟨fun w G=>(∃vW vI ws is,E.RL w G R vW vI a ws is),fun b=>b=R,fun _ _ b h hb=>by obtain ⟨vW,vI,ws,is,h⟩:=h;rw[hb];exact h.lt,fun w _ _ _ _ h hk hf hS xu=>by
 obtain ⟨vW,vI,ws,is,h⟩:=h;exact⟨vW,vI,ws,is,h.kept (hk.block R h.lt (hf R rfl)) (fun g hg hl=>hk.block g hl (hS g hg)) xu⟩⟩
def Th.Bp (Q:Nat)(n:Int)(v:Value)(L:List C.En)(nx:Int):Th:=⟨fun w _=>C.fC w Q n v L nx,fun b=>b=Q\/v.ownBlock=some b,
 fun _ _ b h hb=>hb.elim (fun e=>e ▸ h.lt) (fun e=>(h.row.lt b e).2),fun _ _ _ _ _ h hk hf _ _=>h.mO hk (hf _ (.inl rfl)) (fun g hg=>hf g (.inr hg))⟩
def Th.zl (Q:Nat)(n:Int)(v:Value)(L:List C.En)(s:Bool)(p:Int):Th:=⟨fun w _=>C.gG w Q n v L s p,fun b=>b=Q\/v.ownBlock=some b,
 fun _ _ b h hb=>hb.elim (fun e=>e ▸ h.lt) (fun e=>(h.row.lt b e).2),fun _ _ _ _ _ h hk hf _ _=>h.mO hk (hf _ (.inl rfl)) (fun g hg=>hf g (.inr hg))⟩
def Th.bC (B:Nat)(t:TypeId)(cs:Array Value):Th:=⟨fun w _=>w.heap[B]?=some (.cells cs t (0,0)),fun b=>b=B,fun _ _ b h hb=>by rw[hb];exact (au.1 h).1,fun _ _ _ _ _ h hk hf _ _=>(hk.block B (au.1 h).1 (hf B rfl)).trans h⟩
def Th.row (t:TypeId)(s:Nat)(v:Value)(n:Nat)(xs:List Value):Th:=⟨fun w _=>w.ownsRow 0 t s v n xs,fun b=>v.ownBlock=some b,fun _ _ b h hb=>(fQ h b hb).2,fun _ _ _ _ _ h hk hf _ _=>E.eB h hk hf⟩
def Th.oV (v:Value)(f:List Int):Th:=⟨fun w G=>E.ow w v f/\∀g,v.ownBlock=some g->G g,fun _=>False,fun _ _ _ _ h=>h.elim,fun _ _ _ _ _ h hk _ hS xu=>⟨E.eB h.1 hk fun g hg=>hS g (h.2 g hg),fun g hg=>xu g (h.2 g hg)⟩⟩
abbrev Cm:Type:=List C.Im × Int
def zG (u:Option Addr × Nat)(q:Cm):List Value:=[.slice u.1 q.1.length u.2,.int .u64 q.2]
def pV:List (Option Addr × Nat)->List Cm->List Value
 | u :: us,q :: qs=>zG u q++pV us qs
 | _,_=>[]
structure Gx (w:World) (G:Nat->Prop) (u:Option Addr × Nat) (q:Cm):Prop where
 im:C.uD w u.1 q.1.length q.1
 nR:q.1.length<=16
 g:∀a,u.1=some a->G a.block
 at':0<=q.2/\q.2<18446744073709551616
def Dw (w:World)(G:Nat->Prop):List (Option Addr × Nat)->List Cm->Prop
 | [],[]=>True
 | u :: us,q :: qs=>Gx w G u q/\Dw w G us qs
 | _,_=>False
theorem Gx.kept{w w':World}{G G' S:Nat->Prop}{u:Option Addr × Nat}{q:Cm}(h:Gx w G u q)(hk:E.Kept S w w')(hS:∀g,G g->¬S g)(xu:∀g,G g->G' g):Gx w' G' u q:=⟨h.im.mO hk fun a ha _=>hS _ (h.g a ha),h.nR,fun a ha=>xu _ (h.g a ha),h.at'⟩
theorem Dw.kept{w w':World}{G G' S:Nat->Prop}(hk:E.Kept S w w')(hS:∀g,G g->¬S g)(xu:∀g,G g->G' g):∀{us:List (Option Addr × Nat)} {qs:List Cm},Dw w G us qs->Dw w' G' us qs
 | [],[],_=>trivial
 | [],_ :: _,h=>h.elim
 | _ :: _,[],h=>h.elim
 | _ :: _,_ :: _,h=>⟨h.1.kept hk hS xu,h.2.kept hk hS xu⟩
theorem Dw.len{w:World}{G:Nat->Prop}:∀{us:List (Option Addr × Nat)} {qs:List Cm},Dw w G us qs->us.length=qs.length
 | [],[],_=>rfl
 | [],_ :: _,h=>h.elim
 | _ :: _,[],h=>h.elim
 | _ :: us,_ :: qs,h=>by rw[bz,bz,h.2.len]
structure XX (w:World) (G:Nat->Prop) (v:Value) (pd:List Cm):Prop where
 ex:∃us,w.ownsRow 0 153 2 v pd.length (pV us pd)/\Dw w G us pd
def Th.QY (v:Value)(pd:List Cm):Th:=⟨fun w G=>XX w G v pd,fun b=>v.ownBlock=some b,fun _ _ b h hb=>by obtain ⟨us,h,_⟩:=h.ex;exact (fQ h b hb).2,fun _ _ _ _ _ h hk hf hS xu=>by
 obtain ⟨us,h,hc⟩:=h.ex;exact⟨us,E.eB h hk hf,hc.kept hk hS xu⟩⟩
structure Ks where
 P:Nat
 dp:Nat
 lp:Nat
 ap:Nat
 kp:Nat
 dr:Nat
 lr:Nat
 ar:Nat
 kr:Nat
 c:fN
abbrev gl (K:Ks):List Value:=aN K.c++[E.qp K.dp,E.qp K.lp,E.qp K.ap,E.qp K.kp]
abbrev qV (K:Ks):List Value:=aN K.c++[E.qp K.dr,E.qp K.lr,E.qp K.ar,E.qp K.kr]
def jD (K:Ks)(v:Value):Array Value:=(aN K.c++(gl K++(qV K++[v]))).toArray
structure DF (w0 w:World) (K:Ks) (x y:Sx) (pd:List Cm) (T:Nat->Th) (G:Nat->Prop):Prop where
 jN:lT w0 w T G
 below:Below w0.heap.size w0 w
 t0:∃S,T 0=.sK S K.lp K.dp x.d x.ws x.g
 t1:∃F n,T 1=.nT F n x.a/\F.Q=K.ap/\n<=2*x.c
 t2:∃v,T 2=.Bp K.kp x.n v x.L (C.rW x.s x.p)
 t3:∃S b,T 3=.uf S K.lr K.dr y.d y.ws y.g b
 t4:T 4=.nC K.ar y.a
 t5:∃v,T 5=.zl K.kr y.n v y.L y.s y.p
 t6:∃v,T 6=.bC K.P 46 (jD K v)/\T 7=.QY v pd
 lU:x.Ok
 mP:y.Ok
 cx:x.g.c=K.c
 cy:y.g.c=K.c
def DS (w0 w:World)(K:Ks)(x y:Sx)(pd:List Cm)(X:Nat->Th):Prop:=∃T G,DF w0 w K x y pd T G/\∀i,8<=i->i<40->T i=X i
section
variable {w0 w w':World} {K:Ks} {x y:Sx} {pd:List Cm} {X:Nat->Th} {T:Nat->Th} {G:Nat->Prop}
theorem DF.later(h:DF w0 w K x y pd T G)(hb:Below w.heap.size w w'):DF w0 w' K x y pd T G:=⟨h.jN.later hb,ah h.below hb,h.t0,h.t1,h.t2,h.t3,h.t4,h.t5,h.t6,h.lU,h.mP,h.cx,h.cy⟩
theorem DS.later(h:DS w0 w K x y pd X)(hb:Below w.heap.size w w'):DS w0 w' K x y pd X:=by
 obtain ⟨T,G,h,hX⟩:=h;exact⟨T,G,h.later hb,hX⟩
theorem DS.below(h:DS w0 w K x y pd X):Below w0.heap.size w0 w:=by
 obtain ⟨T,G,h,hX⟩:=h;exact h.below
theorem DS.lU(h:DS w0 w K x y pd X):x.Ok:=by
 obtain ⟨T,G,h,hX⟩:=h;exact h.lU
theorem DS.mP(h:DS w0 w K x y pd X):y.Ok:=by
 obtain ⟨T,G,h,hX⟩:=h;exact h.mP
theorem DS.cx(h:DS w0 w K x y pd X):x.g.c=K.c:=by
 obtain ⟨T,G,h,hX⟩:=h;exact h.cx
theorem DS.cy(h:DS w0 w K x y pd X):y.g.c=K.c:=by
 obtain ⟨T,G,h,hX⟩:=h;exact h.cy
theorem DS.drop(h:DS w0 w K x y pd X){k:Nat}(hk:8<=k):DS w0 w K x y pd (put X k .no):=by
 obtain ⟨T,G,h,hX⟩:=h;refine⟨put T k .no,G,⟨h.jN.drop k,h.below,?_,?_,?_,?_,?_,?_,?_,h.lU,h.mP,h.cx,h.cy⟩,fun i h8 eC=>?_⟩
 ·rw[af _ _ (by omega)];exact h.t0
 ·rw[af _ _ (by omega)];exact h.t1
 ·rw[af _ _ (by omega)];exact h.t2
 ·rw[af _ _ (by omega)];exact h.t3
 ·rw[af _ _ (by omega)];exact h.t4
 ·rw[af _ _ (by omega)];exact h.t5
 ·rw[af _ _ (by omega),af _ _ (by omega)];exact h.t6
 ·by_cases e:i=k
  ·subst e;rw[ax,ax]
  ·rw[af _ _ e,af _ _ e,hX i h8 eC]
theorem DS.congr{X':Nat->Th}(h:DS w0 w K x y pd X)(he:∀i,8<=i->i<40->X' i=X i):DS w0 w K x y pd X':=by
 obtain ⟨T,G,h,hX⟩:=h;exact⟨T,G,h,fun i h8 eC=>(hX i h8 eC).trans (he i h8 eC).symm⟩
theorem DS.fresh{we:World}(h:DS w0 we K x y pd X)(hb:Below we.heap.size we w){k:Nat}(hk:8<=k){u:Th}(hu:∀G,u.at w G)(hf:∀b,u.iF b->we.heap.size<=b):DS w0 w K x y pd (put X k u):=by
 obtain ⟨T,G,h,hX⟩:=h;refine⟨put T k u,G,⟨h.jN.fresh h.below.size hb k (hu G) hf,ah h.below hb,?_,?_,?_,?_,?_,?_,?_,h.lU,h.mP,h.cx,h.cy⟩,fun i h8 eC=>?_⟩
 ·rw[af _ _ (by omega)];exact h.t0
 ·rw[af _ _ (by omega)];exact h.t1
 ·rw[af _ _ (by omega)];exact h.t2
 ·rw[af _ _ (by omega)];exact h.t3
 ·rw[af _ _ (by omega)];exact h.t4
 ·rw[af _ _ (by omega)];exact h.t5
 ·rw[af _ _ (by omega),af _ _ (by omega)];exact h.t6
 ·by_cases e:i=k
  ·subst e;rw[ax,ax]
  ·rw[af _ _ e,af _ _ e,hX i h8 eC]
theorem DS.aaZ(h:DS w0 w K x y pd X):∃v,w.heap[K.P]?=some (.cells (jD K v) 46 (0,0))/\∃G,XX w G v pd:=by
 obtain ⟨T,G,h,hX⟩:=h;obtain ⟨v,e1,e2⟩:=h.t6;have a:=h.jN.at' 6 (by omega);have b:=h.jN.at' 7 (by omega);rw[e1] at a;rw[e2] at b;exact⟨v,a,G,b⟩
end
section
variable {w0 w:World} {K:Ks} {x y:Sx} {pd:List Cm} {X:Nat->Th}
theorem DS.sK(h:DS w0 w K x y pd X):∃S,LD w S K.lp K.dp x.d x.ws x.g/\(∀k,S k->k<w.heap.size)/\∀w' S' d' CQ g',LD w' S' K.lp K.dp d' CQ g'->Kept S w w'->(∀k,S' k->S k\/w.heap.size<=k)->g'.c=x.g.c->DS w0 w' K { x with d:=d',ws:=CQ,g:=g' } y pd X:=by
 obtain ⟨T,G,h,hX⟩:=h;obtain ⟨S,e⟩:=h.t0;have a:=h.jN.at' 0 (by omega);have lo:=h.jN.lo 0 (by omega);rw[e] at a lo;refine⟨S,a.1,a.2,fun w' S' d' CQ g' hl hk hs hc=>⟨put T 0 (.sK (fun k=>S' k/\k<w'.heap.size) K.lp K.dp d' CQ g'),G,⟨h.jN.turn (S:=S) (by omega) ⟨hl.mono fun k h1 h2=>⟨h2,h1⟩,fun k h1=>h1.2⟩ (kH hk) (fun b hb=>by rw[e];exact hb) (fun b hb=>by rw[e];exact hs b hb.1) h.below.size (fun _ a=>a) (fun _ a=>.inl a),(kH hk).uR h.below (fun b h1 h2=>by have:=lo b h2;omega) (az _),⟨_,ax _ _ _⟩,by rw[af _ _ (by decide)];exact h.t1,by rw[af _ _ (by decide)];exact h.t2,by rw[af _ _ (by decide)];exact h.t3,by rw[af _ _ (by decide)];exact h.t4,by rw[af _ _ (by decide)];exact h.t5,by rw[af _ _ (by decide),af _ _ (by decide)];exact h.t6,⟨hl.ok,h.lU.a,h.lU.k,h.lU.p0,h.lU.pf⟩,h.mP,hc.trans h.cx,h.cy⟩,fun j h8 eC=>by rw[af _ _ (by omega)];exact hX j h8 eC⟩⟩
theorem DS.uf(h:DS w0 w K x y pd X):∃S b,RL w S K.lr K.dr y.d y.ws y.g b/\(∀k,S k->k<w.heap.size)/\∀w' S' d' CQ g' b',RL w' S' K.lr K.dr d' CQ g' b'->Kept S w w'->(∀k,S' k->S k\/w.heap.size<=k)->g'.c=y.g.c->DS w0 w' K x { y with d:=d',ws:=CQ,g:=g' } pd X:=by
 obtain ⟨T,G,h,hX⟩:=h;obtain ⟨S,b,e⟩:=h.t3;have a:=h.jN.at' 3 (by omega);have lo:=h.jN.lo 3 (by omega);rw[e] at a lo;refine⟨S,b,a.1,a.2,fun w' S' d' CQ g' b' hl hk hs hc=>⟨put T 3 (.uf (fun k=>S' k/\k<w'.heap.size) K.lr K.dr d' CQ g' b'),G,⟨h.jN.turn (S:=S) (by omega) ⟨hl.mono fun k h1 h2=>⟨h2,h1⟩,fun k h1=>h1.2⟩ (kH hk) (fun b hb=>by rw[e];exact hb) (fun b hb=>by rw[e];exact hs b hb.1) h.below.size (fun _ a=>a) (fun _ a=>.inl a),(kH hk).uR h.below (fun b h1 h2=>by have:=lo b h2;omega) (az _),by rw[af _ _ (by decide)];exact h.t0,by rw[af _ _ (by decide)];exact h.t1,by rw[af _ _ (by decide)];exact h.t2,⟨_,_,ax _ _ _⟩,by rw[af _ _ (by decide)];exact h.t4,by rw[af _ _ (by decide)];exact h.t5,by rw[af _ _ (by decide),af _ _ (by decide)];exact h.t6,h.lU,⟨hl.ok,h.mP.a,h.mP.k,h.mP.p0,h.mP.pf⟩,h.cx,hc.trans h.cy⟩,fun j h8 eC=>by rw[af _ _ (by omega)];exact hX j h8 eC⟩⟩
theorem DS.Bp(h:DS w0 w K x y pd X):∃v G,C.fC w K.kp x.n v x.L (C.rW x.s x.p)/\(∀i,8<=i->i<40->(X i).at w G)/\(∀b,b=K.kp\/v.ownBlock=some b->¬G b)/\(∀i,8<=i->i<40->∀b,(X i).iF b->¬(b=K.kp\/v.ownBlock=some b))/\∀w' v' L' s' p',C.pX w w' K.kp x.n v v' L' (C.rW s' p')->({ x with L:=L',s:=s',p:=p' }:Sx).Ok->DS w0 w' K { x with L:=L',s:=s',p:=p' } y pd X:=by
 obtain ⟨T,G,h,hX⟩:=h;obtain ⟨v,e⟩:=h.t2;have a:=h.jN.at' 2 (by omega);have lo:=h.jN.lo 2 (by omega);have im:=h.jN.im 2 (by omega);have ap:∀i,8<=i->i<40->∀b,(T i).iF b->¬(T 2).iF b:=fun i h8 eC=>h.jN.apart i 2 eC (by omega) (by omega);rw[e] at a lo im;refine⟨v,G,a,fun i h8 eC=>by rw[<-hX i h8 eC];exact h.jN.at' i eC,im,fun i h8 eC b hb=>by have:=ap i h8 eC b (by rw[hX i h8 eC];exact hb);rw[e] at this;exact this,fun w' v' L' s' p' hw ok=>⟨put T 2 (.Bp K.kp x.n v' L' (C.rW s' p')),G,⟨h.jN.turn (S:=fun k=>k=K.kp\/v.ownBlock=some k) (by omega) hw.at' hw.kept (fun b hb=>by rw[e];exact hb) (fun b hb=>by rw[e];exact hb.elim (fun c=>.inl (.inl c)) fun c=>(hw.new b c).elim (fun d=>.inl (.inr d)) .inr) h.below.size (fun _ a=>a) (fun _ a=>.inl a),hw.kept.uR h.below (fun b h1 h2=>by have:=lo b h2;omega) (az _),by rw[af _ _ (by decide)];exact h.t0,by rw[af _ _ (by decide)];exact h.t1,⟨_,ax _ _ _⟩,by rw[af _ _ (by decide)];exact h.t3,by rw[af _ _ (by decide)];exact h.t4,by rw[af _ _ (by decide)];exact h.t5,by rw[af _ _ (by decide),af _ _ (by decide)];exact h.t6,ok,h.mP,h.cx,h.cy⟩,fun j h8 eC=>by rw[af _ _ (by omega)];exact hX j h8 eC⟩⟩
theorem DS.zl(h:DS w0 w K x y pd X):∃v G,C.gG w K.kr y.n v y.L y.s y.p/\(∀i,8<=i->i<40->(X i).at w G)/\(∀b,b=K.kr\/v.ownBlock=some b->¬G b)/\(∀i,8<=i->i<40->∀b,(X i).iF b->¬(b=K.kr\/v.ownBlock=some b))/\∀w' v' L' s' p',C.jd w w' K.kr y.n v v' L' s' p'->({ y with L:=L',s:=s',p:=p' }:Sx).Ok->DS w0 w' K x { y with L:=L',s:=s',p:=p' } pd X:=by
 obtain ⟨T,G,h,hX⟩:=h;obtain ⟨v,e⟩:=h.t5;have a:=h.jN.at' 5 (by omega);have lo:=h.jN.lo 5 (by omega);have im:=h.jN.im 5 (by omega);have ap:∀i,8<=i->i<40->∀b,(T i).iF b->¬(T 5).iF b:=fun i h8 eC=>h.jN.apart i 5 eC (by omega) (by omega);rw[e] at a lo im;refine⟨v,G,a,fun i h8 eC=>by rw[<-hX i h8 eC];exact h.jN.at' i eC,im,fun i h8 eC b hb=>by have:=ap i h8 eC b (by rw[hX i h8 eC];exact hb);rw[e] at this;exact this,fun w' v' L' s' p' hw ok=>⟨put T 5 (.zl K.kr y.n v' L' s' p'),G,⟨h.jN.turn (S:=fun k=>k=K.kr\/v.ownBlock=some k) (by omega) hw.at' hw.kept (fun b hb=>by rw[e];exact hb) (fun b hb=>by rw[e];exact hb.elim (fun c=>.inl (.inl c)) fun c=>(hw.new b c).elim (fun d=>.inl (.inr d)) .inr) h.below.size (fun _ a=>a) (fun _ a=>.inl a),hw.kept.uR h.below (fun b h1 h2=>by have:=lo b h2;omega) (az _),by rw[af _ _ (by decide)];exact h.t0,by rw[af _ _ (by decide)];exact h.t1,by rw[af _ _ (by decide)];exact h.t2,by rw[af _ _ (by decide)];exact h.t3,by rw[af _ _ (by decide)];exact h.t4,⟨_,ax _ _ _⟩,by rw[af _ _ (by decide),af _ _ (by decide)];exact h.t6,h.lU,ok,h.cx,h.cy⟩,fun j h8 eC=>by rw[af _ _ (by omega)];exact hX j h8 eC⟩⟩
theorem DS.nT(h:DS w0 w K x y pd X):∃F n,E.PL w F n x.a/\F.Q=K.ap/\n<=2*x.c/\∀w' F' n' a',E.PL w' F' n' a'->F'.Q=K.ap->n'<=2*(x.c+1)->E.Kept F.has w w'->(∀b,F'.has b->F.has b\/w.heap.size<=b)->(∀g,F'.G g->F.G g\/(w.heap.size<=g/\g<w'.heap.size/\¬F'.has g))->DS w0 w' K { x with a:=a',c:=x.c+1 } y pd X:=by
 obtain ⟨T,G,h,hX⟩:=h;obtain ⟨F,n,e,hQ,hn⟩:=h.t1;have a:=h.jN.at' 1 (by omega);have lo:=h.jN.lo 1 (by omega);rw[e] at a lo;refine⟨F,n,a.1,hQ,hn,fun w' F' n' a' hl hQ' hn' hk hs hg=>⟨put T 1 (.nT F' n' a'),fun g=>G g\/F'.G g,⟨h.jN.turn (S:=F.has) (by omega) ⟨hl,fun g hg=>.inr hg⟩ (kE hk) (fun b hb=>by rw[e];exact hb) (fun b hb=>by rw[e];exact hs b hb) h.below.size (fun _ a=>.inl a) (fun g b=>b.elim .inl fun c=>(hg g c).elim (fun d=>.inl (a.2 g d)) .inr),(kE hk).uR h.below (fun b h1 h2=>by have:=lo b h2;omega) (az _),by rw[af _ _ (by decide)];exact h.t0,⟨_,_,ax _ _ _,hQ',hn'⟩,by rw[af _ _ (by decide)];exact h.t2,by rw[af _ _ (by decide)];exact h.t3,by rw[af _ _ (by decide)];exact h.t4,by rw[af _ _ (by decide)];exact h.t5,by rw[af _ _ (by decide),af _ _ (by decide)];exact h.t6,⟨h.lU.g,hl.ok,h.lU.k,h.lU.p0,h.lU.pf⟩,h.mP,h.cx,h.cy⟩,fun j h8 eC=>by rw[af _ _ (by omega)];exact hX j h8 eC⟩⟩
theorem DS.nC(h:DS w0 w K x y pd X):∃G vW vI ws is,E.RL w G K.ar vW vI y.a ws is/\¬G K.ar/\(∀w' a',E.Ds w w' G K.ar a'->a'.Ok->DS w0 w' K x { y with a:=a',c:=y.c+1 } pd X)/\∀w' a' v f j,E.Ds w w' G K.ar a'->a'.Ok->E.ow w' v f->(∀g,v.ownBlock=some g->E.Gp w w' G g)->8<=j->DS w0 w' K x { y with a:=a',c:=y.c+1 } pd (put X j (.oV v f)):=by
 obtain ⟨T,G,h,hX⟩:=h;have e:=h.t4;have a:=h.jN.at' 4 (by omega);have lo:=h.jN.lo 4 (by omega);have im:=h.jN.im 4 (by omega) K.ar;rw[e] at a lo im;obtain ⟨vW,vI,ws,is,a⟩:=a;have main:∀w' a',E.Ds w w' G K.ar a'->a'.Ok->DF w0 w' K x { y with a:=a',c:=y.c+1 } pd (put T 4 (.nC K.ar a')) (E.Gp w w' G):=fun w' a' hr ok=>⟨h.jN.turn (S:=(·=K.ar)) (by omega) hr.rl (kE hr.kept) (fun b hb=>by rw[e];exact hb) (fun b hb=>by rw[e];exact .inl hb) h.below.size (fun _ a=>.inl a) (fun g a'=>a'.elim .inl fun c=>.inr ⟨c.1,c.2,fun d=>by have:=a.lt;have:g=K.ar:=d;have:=c.1;omega⟩),(kE hr.kept).uR h.below (fun b h1 h2=>by have:=lo b h2;omega) (az _),by rw[af _ _ (by decide)];exact h.t0,by rw[af _ _ (by decide)];exact h.t1,by rw[af _ _ (by decide)];exact h.t2,by rw[af _ _ (by decide)];exact h.t3,ax _ _ _,by rw[af _ _ (by decide)];exact h.t5,by rw[af _ _ (by decide),af _ _ (by decide)];exact h.t6,h.lU,⟨h.mP.g,ok,h.mP.k,h.mP.p0,h.mP.pf⟩,h.cx,h.cy⟩
 refine⟨G,vW,vI,ws,is,a,im rfl,fun w' a' hr ok=>⟨_,_,main w' a' hr ok,fun j h8 eC=>by rw[af _ _ (by omega)];exact hX j h8 eC⟩,fun w' a' v f j hr ok hf hg hj=>?_⟩;have m:=main w' a' hr ok;refine⟨put (put T 4 (.nC K.ar a')) j (.oV v f),_,⟨m.jN.add ⟨hf,hg⟩ (fun _ e=>e.elim),m.below,?_,?_,?_,?_,?_,?_,?_,m.lU,m.mP,m.cx,m.cy⟩,fun i h8 eC=>?_⟩
 ·rw[af _ _ (by omega)];exact m.t0
 ·rw[af _ _ (by omega)];exact m.t1
 ·rw[af _ _ (by omega)];exact m.t2
 ·rw[af _ _ (by omega)];exact m.t3
 ·rw[af _ _ (by omega)];exact m.t4
 ·rw[af _ _ (by omega)];exact m.t5
 ·rw[af _ _ (show 6≠j by omega),af _ _ (show 7≠j by omega)];exact m.t6
 ·by_cases e:i=j
  ·subst e;rw[ax,ax]
  ·rw[af _ _ e,af _ _ e,af _ _ (by omega)];exact hX i h8 eC
end
open Go.Proofs.Tryz
section
variable {w0 w:World} {K:Ks} {x y:Sx} {pd:List Cm} {X:Nat->Th}
theorem DS.tab(h:DS w0 w K x y pd X)(ht:qX w0):qX w:=ht.later h.below
theorem ZO(ht:qX w0)(h:DS w0 w K x y pd X)(hk:x.ws.length<=100000)(b:Int)(v:List Int)(hv:v.length=32)(zw:Bytes v):Calls prog 39 #[E.qp K.lp,.int .i64 b,.agg (U8 v).toArray] w fun e w'=>e=.returned (.tuple #[.int .u64 (x.Rq b),.int .i64 (mN x.g b)])/\DS w0 w' K (x.rU b v) y pd X:=by
 obtain ⟨S,hl,-,back⟩:=h.sK;by_cases e:mN x.g b=0
 ·refine (VS hl hk (h.tab ht) b v hv zw e).mono ?_;rintro e' w' ⟨rfl,qi,kN⟩;rw[Sx.Rq,Sx.rU,aE e,aE e,e];exact⟨rfl,back w' _ _ _ _ qi kN (fun _ a=>a) rfl⟩
 ·refine (VT hl.log hl.ok b v e).mono ?_;rintro e' w' ⟨rfl,hb⟩;rw[Sx.Rq,Sx.rU,aD e,aD e];exact⟨rfl,h.later hb⟩
theorem Vc(ht:qX w0)(h:DS w0 w K x y pd X)(hk:x.ws.length<=100000):Calls prog 41 #[E.qp K.lp] w fun e w'=>e=.returned (.tuple #[.int .u64 x.ug,.int .i64 (fK x.g)])/\DS w0 w' K x.vA y pd X:=by
 obtain ⟨S,hl,-,back⟩:=h.sK;by_cases e:fK x.g=0
 ·refine (RX hl hk (h.tab ht) e).mono ?_;rintro e' w' ⟨rfl,qi,kN⟩;rw[Sx.ug,Sx.vA,aE e,aE e,e];exact⟨rfl,back w' _ _ _ _ qi kN (fun _ a=>a) rfl⟩
 ·refine (RY hl.log hl.ok e).mono ?_;rintro e' w' ⟨rfl,hb⟩;rw[Sx.ug,Sx.vA,aD e,aD e];exact⟨rfl,h.later hb⟩
theorem Oi(h:DS w0 w K x y pd X)(hk:x.ws.length<=100000):Calls prog 43 #[E.qp K.lp] w fun e w'=>e=.returned (.tuple #[.int .i64 x.ws.length,.int .i64 0])/\DS w0 w' K x.Ge y pd X:=by
 obtain ⟨S,hl,-,back⟩:=h.sK;refine (Dz hl hk).mono ?_;rintro e' w' ⟨rfl,qi,kN⟩;exact⟨rfl,back w' _ _ _ _ qi kN (fun _ a=>.inl a) rfl⟩
theorem L_(ht:qX w0)(h:DS w0 w K x y pd X)(hk:x.ws.length<=100000)(t:Int):Calls prog 102 #[E.qp K.lp,.int .u64 t] w fun e w'=>e=.returned (.int .i64 (if Out x.g t then 2 else 0))/\DS w0 w' K (x.z_ t) y pd X:=by
 obtain ⟨S,hl,-,back⟩:=h.sK;by_cases e:Out x.g t
 ·refine (aab hl.log t e).mono ?_;rintro e' w' ⟨rfl,rfl⟩;rw[Sx.z_,aE e,aE e];exact⟨rfl,h⟩
 ·refine (aaa hl hk (h.tab ht) t e).mono ?_;rintro e' w' ⟨rfl,qi,kN⟩;rw[Sx.z_,aD e,aD e];exact⟨rfl,back w' _ _ _ _ qi kN (fun _ a=>a) rfl⟩
theorem Va(h:DS w0 w K x y pd X)(hk:x.ws.length<=100000):Calls prog 104 #[E.qp K.lp] w fun e w'=>e=.returned (.tuple #[.int .i64 (x.g.mark-x.g.tail),.int .i64 0])/\DS w0 w' K x.WG y pd X:=by
 obtain ⟨S,hl,-,back⟩:=h.sK;refine (Gc hl hk).mono ?_;rintro e' w' ⟨rfl,qi,kN⟩;exact⟨rfl,back w' _ _ _ _ qi kN (fun _ a=>.inl a) rfl⟩
theorem xZ(h:DS w0 w K x y pd X):Calls prog 22 #[E.qp K.lp] w fun e w'=>e=.returned (.int .u64 x.g.tail)/\w=w':=by
 obtain ⟨S,hl,-,-⟩:=h.sK;exact IG hl.log
theorem agL(h:DS w0 w K x y pd X):Calls prog 14 #[E.qp K.lp] w fun e w'=>e=.returned (.int .u64 x.g.fin)/\w=w':=by
 obtain ⟨S,hl,-,-⟩:=h.sK;exact Oy hl.log
theorem wJ(h:DS w0 w K x y pd X):Calls prog 103 #[E.qp K.lp] w fun e w'=>e=.returned (.int .u64 x.g.mark)/\w=w':=by
 obtain ⟨S,hl,-,-⟩:=h.sK;exact Mj hl.log
theorem U'(ht:qX w0)(h:DS w0 w K x y pd X)(hk:x.ws.length<=100000)(b:Int)(v:List Int)(hv:v.length=32)(zw:Bytes v):Calls prog 100 #[E.qp K.dp,.agg (aN K.c).toArray,.int .i64 b,.agg (U8 v).toArray] w fun e w'=>e=.returned (.int .i64 (x.zk b))/\DS w0 w' K (x.CU b v) y pd X:=by
 obtain ⟨S,hl,-,back⟩:=h.sK;have hc:=h.cx;refine (Rv K.c b v hv zw hl.zF hk (h.tab ht)).mono ?_;rintro e' w' ⟨rfl,hd,kN⟩;obtain ⟨qi,wR⟩:=hl.wrote hd kN;rw[Sx.zk,Sx.CU,hc];exact⟨rfl,back w' _ _ _ _ qi wR (fun _ a=>a) rfl⟩
theorem Vb(h:DS w0 w K x y pd X)(hk:x.ws.length<=100000):Calls prog 98 #[E.qp K.dp] w fun e w'=>e=.returned (.tuple #[.int .i64 x.ws.length,.int .i64 0])/\DS w0 w' K x.Ge y pd X:=by
 obtain ⟨S,hl,-,back⟩:=h.sK;refine (EN hl.zF hk).mono ?_;rintro e' w' ⟨rfl,hd,kN⟩;obtain ⟨qi,wR⟩:=hl.tV hd kN;exact⟨rfl,back w' _ _ _ _ qi wR (fun _ a=>.inl a) rfl⟩
theorem ZI(h:DS w0 w K x y pd X)(hk:y.ws.length<=100000)(b:Int)(v:List Int)(hv:v.length=32)(zw:Bytes v):Calls prog 68 #[E.qp K.lr,.int .i64 b,.agg (U8 v).toArray] w fun e w'=>e=.returned (.tuple #[.int .u64 (y.Rq b),.int .i64 (mN y.g b)])/\DS w0 w' K x (y.rU b v) pd X:=by
 obtain ⟨S,bo,hl,-,back⟩:=h.uf;by_cases e:mN y.g b=0
 ·refine (QA hl hk b v hv zw e).mono ?_;rintro e' w' ⟨rfl,qi,kN⟩;rw[Sx.Rq,Sx.rU,aE e,aE e,e];exact⟨rfl,back w' _ _ _ _ _ qi kN (fun _ a=>a) rfl⟩
 ·refine (QB hl.log hl.ok hl.bk b v e).mono ?_;rintro e' w' ⟨rfl,hb⟩;rw[Sx.Rq,Sx.rU,aD e,aD e];exact⟨rfl,h.later hb⟩
theorem UC(h:DS w0 w K x y pd X)(hk:y.ws.length<=100000):Calls prog 70 #[E.qp K.lr] w fun e w'=>e=.returned (.tuple #[.int .u64 y.ug,.int .i64 (fK y.g)])/\DS w0 w' K x y.vA pd X:=by
 obtain ⟨S,bo,hl,-,back⟩:=h.uf;by_cases e:fK y.g=0
 ·refine (Lw hl hk e).mono ?_;rintro e' w' ⟨rfl,qi,kN⟩;rw[Sx.ug,Sx.vA,aE e,aE e,e];exact⟨rfl,back w' _ _ _ _ _ qi kN (fun _ a=>a) rfl⟩
 ·refine (Lx hl.log hl.ok e).mono ?_;rintro e' w' ⟨rfl,hb⟩;rw[Sx.ug,Sx.vA,aD e,aD e];exact⟨rfl,h.later hb⟩
theorem Oc(h:DS w0 w K x y pd X)(hk:y.ws.length<=100000):Calls prog 132 #[E.qp K.lr] w fun e w'=>e=.returned (.tuple #[.int .i64 y.ws.length,.int .i64 0])/\DS w0 w' K x y.Ge pd X:=by
 obtain ⟨S,bo,hl,-,back⟩:=h.uf;refine (Lh hl hk).mono ?_;rintro e' w' ⟨rfl,qi,kN⟩;exact⟨rfl,back w' _ _ _ _ _ qi kN (fun _ a=>.inl a) rfl⟩
theorem LI(h:DS w0 w K x y pd X)(hk:y.ws.length<=100000)(t:Int):Calls prog 141 #[E.qp K.lr,.int .u64 t] w fun e w'=>e=.returned (.int .i64 (if Out y.g t then 2 else 0))/\DS w0 w' K x (y.z_ t) pd X:=by
 obtain ⟨S,bo,hl,-,back⟩:=h.uf;by_cases e:Out y.g t
 ·refine (Ui hl.log t e).mono ?_;rintro e' w' ⟨rfl,rfl⟩;rw[Sx.z_,aE e,aE e];exact⟨rfl,h⟩
 ·refine (Uh hl hk t e).mono ?_;rintro e' w' ⟨rfl,qi,kN⟩;rw[Sx.z_,aD e,aD e];exact⟨rfl,back w' _ _ _ _ _ qi kN (fun _ a=>a) rfl⟩
theorem UA(h:DS w0 w K x y pd X)(hk:y.ws.length<=100000):Calls prog 142 #[E.qp K.lr] w fun e w'=>e=.returned (.tuple #[.int .i64 (y.g.mark-y.g.tail),.int .i64 0])/\DS w0 w' K x y.WG pd X:=by
 obtain ⟨S,bo,hl,-,back⟩:=h.uf;refine (Qy hl hk).mono ?_;rintro e' w' ⟨rfl,qi,kN⟩;exact⟨rfl,back w' _ _ _ _ _ qi kN (fun _ a=>.inl a) rfl⟩
theorem Uz(h:DS w0 w K x y pd X)(hk:y.ws.length<=100000)(b:Int)(v:List Int)(hv:v.length=32)(zw:Bytes v):Calls prog 213 #[E.qp K.dr,.agg (aN K.c).toArray,.int .i64 b,.agg (U8 v).toArray] w fun e w'=>e=.returned (.int .i64 (y.zk b))/\DS w0 w' K x (y.CU b v) pd X:=by
 obtain ⟨S,bo,hl,-,back⟩:=h.uf;have hc:=h.cy;refine (Qv K.c b v hv zw hl.zF hk).mono ?_;rintro e' w' ⟨rfl,hd,kN⟩;obtain ⟨qi,wR⟩:=hl.wrote hd kN;rw[Sx.zk,Sx.CU,hc];exact⟨rfl,back w' _ _ _ _ _ qi wR (fun _ a=>a) rfl⟩
theorem UB(h:DS w0 w K x y pd X)(hk:y.ws.length<=100000):Calls prog 140 #[E.qp K.dr] w fun e w'=>e=.returned (.int .i64 y.ws.length)/\DS w0 w' K x y.Ge pd X:=by
 obtain ⟨S,bo,hl,-,back⟩:=h.uf;refine (uK hl.zF hk).mono ?_;rintro e' w' ⟨rfl,hd,kN⟩;obtain ⟨qi,wR⟩:=hl.tV hd kN;exact⟨rfl,back w' _ _ _ _ _ qi wR (fun _ a=>.inl a) rfl⟩
theorem Ol(h:DS w0 w K x y pd X)(hc:x.c<4000)(hN:x.a.next<=1000){p:Option Addr}{m c:Nat}{xs:List Int}(hI:E.B.pZ w p m xs)(hm:m+80<=17592186044416):Calls prog 37 #[E.qp K.ap,.slice p m c] w fun e w'=>∃q d,e=.returned (.tuple #[.int .u64 (x.a.gP xs),.slice q (x.a.f_ xs).length d,.int .i64 (x.a.oo xs)])/\w'.ownsRow w.heap.size 3 1 (.slice q (x.a.f_ xs).length d) (x.a.f_ xs).length (o_ (x.a.f_ xs))/\DS w0 w' K (x.kY xs) y pd X:=by
 obtain ⟨F,n,hl,hQ,hn,back⟩:=h.nT;rw[<-hQ];refine (E.Su hl (by omega) hN hI hm).mono ?_;rintro e' w' ⟨q,d,v',fv,rfl,⟨s,ho,hs,hf,hg⟩,qi,hv,hk⟩;refine⟨q,d,rfl,eH ho hs,back w' _ _ _ qi hQ (by omega) hk (fun b hb=>?_) (fun g hb=>?_)⟩
 ·rcases hb with e | e | e | e | e | e | e | e
  ·exact .inl (.inl e)
  ·exact .inl (.inr (.inl e))
  ·exact .inl (.inr (.inr (.inl e)))
  ·rcases hv with hv | ⟨g,hv,hg⟩
   ·exact .inl (.inr (.inr (.inr (.inl (hv ▸ e)))))
   ·have e2:E.bC v'=some b:=e;rw[hv] at e2;cases e2;exact .inr hg
  ·exact .inl (.inr (.inr (.inr (.inr (.inl e)))))
  ·exact .inl (.inr (.inr (.inr (.inr (.inr (.inl e))))))
  ·exact .inl (.inr (.inr (.inr (.inr (.inr (.inr (.inl e)))))))
  ·exact .inl (.inr (.inr (.inr (.inr (.inr (.inr (.inr e)))))))
 ·rcases hb with hb | hb
  ·exact .inl hb
  ·have xq:=hb;rw[E.xe] at xq;obtain ⟨cur,hty⟩:=E.rz hf xq;exact .inr ⟨(hg g hb).1,(au.1 hty).1,qi.sO (E.oO hty)⟩
theorem aeC{F:E.Ft}{v:Value}(hv:E.bC v=E.bC F.v2){b:Nat}(hb:({ F with v2:=v }:E.Ft).has b):F.has b:=by
 rcases hb with e | e | e | e | e | e | e | e
 ·exact .inl e
 ·exact .inr (.inl e)
 ·exact .inr (.inr (.inl e))
 ·exact .inr (.inr (.inr (.inl e)))
 ·exact .inr (.inr (.inr (.inr (.inl (hv ▸ e)))))
 ·exact .inr (.inr (.inr (.inr (.inr (.inl e)))))
 ·exact .inr (.inr (.inr (.inr (.inr (.inr (.inl e))))))
 ·exact .inr (.inr (.inr (.inr (.inr (.inr (.inr e))))))
theorem Oj(h:DS w0 w K x y pd X)(hc:x.c<4000)(hN:x.a.next<=1000):Calls prog 38 #[E.qp K.ap] w fun e w'=>∃q d,e=.returned (.tuple #[.int .u64 x.a.nh,.slice q x.a.pH.length d,.int .i64 x.a.lY])/\DS w0 w' K x.sj y pd X:=by
 obtain ⟨F,n,hl,hQ,hn,back⟩:=h.nT;rw[<-hQ];refine (E.WZ hl (by omega) hN).mono ?_;rintro e' w' ⟨q,d,v1,v2,rfl,-,qi,OK,uT,hk⟩;refine⟨q,d,rfl,back w' _ _ _ qi hQ (by omega) hk (fun b hb=>?_) (fun g hb=>.inl hb)⟩;rcases hb with e | e | e | e | e | e | e | e
 ·exact .inl (.inl e)
 ·exact .inl (.inr (.inl e))
 ·exact .inl (.inr (.inr (.inl e)))
 ·exact .inl (.inr (.inr (.inr (.inl (OK ▸ e)))))
 ·rcases uT with hv | ⟨g,hv,hg⟩
  ·exact .inl (.inr (.inr (.inr (.inr (.inl (hv ▸ e))))))
  ·have e2:E.bC v2=some b:=e;rw[hv] at e2;cases e2;exact .inr hg
 ·exact .inl (.inr (.inr (.inr (.inr (.inr (.inl e))))))
 ·exact .inl (.inr (.inr (.inr (.inr (.inr (.inr (.inl e)))))))
 ·exact .inl (.inr (.inr (.inr (.inr (.inr (.inr (.inr e)))))))
theorem Vd(h:DS w0 w K x y pd X)(hc:x.c<4000){t:Int}(h0:0<=t)(h1:t<=1000):Calls prog 40 #[E.qp K.ap,.int .u64 t] w fun e w'=>e=.returned (.int .i64 (x.a.jO t))/\DS w0 w' K (x.app t) y pd X:=by
 obtain ⟨F,n,hl,hQ,hn,back⟩:=h.nT;rw[<-hQ];refine (E.qO hl (by omega) (E.qx h0 h1)).mono ?_;rintro e' w' ⟨rfl,qi,hk⟩;exact⟨rfl,back w' _ _ _ qi hQ (by omega) hk (fun b hb=>.inl hb) (fun g hb=>.inl hb)⟩
theorem adD(h:DS w0 w K x y pd X)(hc:x.c<4000)(hN:x.a.next<=1000){t:Int}(h0:0<=t)(h1:t<=1000):Calls prog 42 #[E.qp K.ap,.int .u64 t] w fun e w'=>e=.returned (.int .i64 (x.a.tq t))/\DS w0 w' K (x.Dp t) y pd X:=by
 obtain ⟨F,n,hl,hQ,hn,back⟩:=h.nT;rw[<-hQ];refine (E.aaX hl (by omega) hN (E.qx h0 h1)).mono ?_;rintro e' w' ⟨rfl,v',qi,hv,hk⟩;exact⟨rfl,back w' _ _ _ qi hQ (by omega) hk (fun b hb=>.inl (aeC hv hb)) (fun g hb=>.inl hb)⟩
theorem ZP(h:DS w0 w K x y pd X)(k:Int):Calls prog 105 #[E.qp K.ap,.int .i64 k] w fun e w'=>e=.returned (.int .i64 (x.a.Ck k))/\DS w0 w' K (x.frd k) y pd X:=by
 obtain ⟨F,n,hl,hQ,hn,back⟩:=h.nT;rw[<-hQ];refine (E.WD hl k).mono ?_;rintro e' w' ⟨rfl,qi,hk⟩;exact⟨rfl,back w' _ _ _ qi hQ (by omega) hk (fun b hb=>.inl hb) (fun g hb=>.inl hb)⟩
theorem Bq(h:DS w0 w K x y pd X):Calls prog 23 #[E.qp K.ap] w fun e w'=>e=.returned (.int .i64 x.a.used)/\w'=w:=by
 obtain ⟨F,n,hl,hQ,-,-⟩:=h.nT;rw[<-hQ];exact E.Fe hl
theorem LZ(h:DS w0 w K x y pd X):Calls prog 137 #[E.qp K.ap] w fun e w'=>e=.returned (.int .i64 x.a.Fp)/\w'=w:=by
 obtain ⟨F,n,hl,hQ,-,-⟩:=h.nT;rw[<-hQ];exact E.sI hl
theorem adB(h:DS w0 w K x y pd X)(hN:x.a.next<=1000):Calls prog 149 #[E.qp K.ap] w fun e w'=>e=.returned (.bool x.a.fits)/\Below w.heap.size w w':=by
 obtain ⟨F,n,hl,hQ,-,-⟩:=h.nT;rw[<-hQ];exact E.tX hl hN
theorem ZQ(h:DS w0 w K x y pd X)(hN:x.a.next<=1000):Calls prog 148 #[E.qp K.ap] w fun e w'=>∃q d,e=.returned (.tuple #[.int .u64 x.a.fT,.slice q x.a.fF.length d,.bool x.a.Af])/\Below w.heap.size w w':=by
 obtain ⟨F,n,hl,hQ,-,-⟩:=h.nT;rw[<-hQ];refine (E.Yp hl hN).mono ?_;rintro e' w' ⟨q,d,rfl,hm⟩;exact⟨q,d,rfl,hm.below⟩
theorem Oe(h:DS w0 w K x y pd X)(hN:y.a.next<=1000){p:Option Addr}{m c:Nat}{xs:List Int}(hI:E.B.pZ w p m xs)(hm:m+80<=17592186044416){j:Nat}(hj:8<=j):Calls prog 65 #[E.qp K.ar,.slice p m c] w fun e w'=>∃q d,e=.returned (.tuple #[.int .u64 (y.a.gP xs),.slice q (y.a.f_ xs).length d,.int .i64 (y.a.oo xs)])/\E.Kept (·=K.ar) w w'/\K.ar<w.heap.size/\DS w0 w' K x (y.kY xs) pd (put X j (.oV (.slice q (y.a.f_ xs).length d) (y.a.f_ xs))):=by
 obtain ⟨G,vW,vI,ws,is,hl,hR,-,back⟩:=h.nC;have ok:=h.mP.a;refine (E.QM hl hR ok hN hI hm).mono ?_;rintro e' w' ⟨q,d,rfl,hf,hg,hr⟩;refine⟨q,d,rfl,kE hr.kept,hl.lt,back w' _ _ _ j hr (ok.kY xs) hf (fun g hb=>?_) hj⟩;rw[<-E.xe] at hb;exact .inr ⟨hg g hb,by rw[E.xe] at hb;exact (fQ hf g hb).2⟩
theorem Od(h:DS w0 w K x y pd X)(hN:y.a.next<=1000):Calls prog 67 #[E.qp K.ar] w fun e w'=>∃q d,e=.returned (.tuple #[.int .u64 y.a.nh,.slice q y.a.pH.length d,.int .i64 y.a.lY])/\DS w0 w' K x y.sj pd X:=by
 obtain ⟨G,vW,vI,ws,is,hl,hR,back,-⟩:=h.nC;have ok:=h.mP.a;refine (E.QH hl hR ok hN).mono ?_;rintro e' w' ⟨q,d,rfl,-,-,hr⟩;exact⟨q,d,rfl,back w' _ hr ok.sj⟩
theorem UD(h:DS w0 w K x y pd X)(hN:y.a.next<=1000)(t:Int):Calls prog 69 #[E.qp K.ar,.int .u64 t] w fun e w'=>e=.returned (.int .i64 (y.a.jO t))/\DS w0 w' K x (y.app t) pd X:=by
 obtain ⟨G,vW,vI,ws,is,hl,hR,back,-⟩:=h.nC;have ok:=h.mP.a;refine (E.LB hl hR ok hN t).mono ?_;rintro e' w' ⟨rfl,hr⟩;exact⟨rfl,back w' _ hr (ok.app t)⟩
theorem ads(h:DS w0 w K x y pd X)(hN:y.a.next<=1000)(t:Int):Calls prog 71 #[E.qp K.ar,.int .u64 t] w fun e w'=>e=.returned (.int .i64 (y.a.tq t))/\DS w0 w' K x (y.Dp t) pd X:=by
 obtain ⟨G,vW,vI,ws,is,hl,hR,back,-⟩:=h.nC;have ok:=h.mP.a;refine (E.Ut hl hR ok hN t).mono ?_;rintro e' w' ⟨rfl,hr⟩;exact⟨rfl,back w' _ hr (ok.Dp t)⟩
theorem ZJ(h:DS w0 w K x y pd X)(k:Int):Calls prog 214 #[E.qp K.ar,.int .i64 k] w fun e w'=>e=.returned (.int .i64 (y.a.Ck k))/\DS w0 w' K x (y.frd k) pd X:=by
 obtain ⟨G,vW,vI,ws,is,hl,hR,back,-⟩:=h.nC;have ok:=h.mP.a;refine (E.QC hl hR ok k).mono ?_;rintro e' w' ⟨rfl,hr⟩;exact⟨rfl,back w' _ hr (ok.WG k)⟩
theorem adq(h:DS w0 w K x y pd X)(hN:y.a.next<=1000):Calls prog 127 #[E.qp K.ar] w fun e w'=>e=.returned (.bool y.a.fits)/\∃m,w'=w.drewN m:=by
 obtain ⟨G,vW,vI,ws,is,hl,-,-,-⟩:=h.nC;exact E.Bh hl h.mP.a hN
theorem LH(h:DS w0 w K x y pd X)(hN:y.a.next<=1000):Calls prog 138 #[E.qp K.ar] w fun e w'=>e=.returned (.int .i64 y.a.Fp)/\∃m,w'=w.drewN m:=by
 obtain ⟨G,vW,vI,ws,is,hl,-,-,-⟩:=h.nC;exact E.wu hl h.mP.a hN
theorem adA(h:DS w0 w K x y pd X):Calls prog 21 #[E.qp K.kp] w fun e w'=>e=.returned (.tuple #[.int .u64 x.p,.bool x.s])/\w'=w:=by
 obtain ⟨v,G,hl,-,-,-,-⟩:=h.Bp;have ok:=h.lU;refine (C.aag hl ok.k.nx0 ok.k.nx1).mono ?_;rintro e' w' ⟨rfl,rfl⟩;refine⟨?_,rfl⟩;have hp:=ok.p0;cases hs:x.s
 ·rw[ok.pf hs];rfl
 ·have e:C.rW true x.p=x.p+1:=rfl;have e1:C.VD (x.p+1)=x.p:=by unfold C.VD;rw[aD (by omega)];omega
  have e2:C.Rj (x.p+1)=true:=aP (by omega);rw[e,e1,e2]
theorem Ei(h:DS w0 w K x y pd X):Calls prog 12 #[E.qp K.kp] w fun e w'=>∃v,e=.returned v/\C.eU 54 w' w.heap.size v x.L/\Below w.heap.size w w':=by
 obtain ⟨v,G,hl,-,-,-,-⟩:=h.Bp;exact C.JB (.inr ⟨_,_,_,_,rfl,hl,h.lU.k.wf,h.lU.k.nR⟩)
