import Derived.Test.YtcdjepkhdjpjcaaGreatDoorU17
set_option maxHeartbeats 20000000
set_option maxRecDepth 100000
namespace Go.Proofs.Zq.E
open Go.Proofs.Tryz
open Go.RowKit
structure Tx (t e:TypeId) (size bytes:Nat):Prop where
 ut:prog.underlying t=some (.slice e)
 inf:∃i z,prog.info? e=some i/\i.zero=some z/\i.size=size/\i.bytes=bytes/\z.cells.size=size
 pos:0<size
 small:bytes<=100
section
variable {w w':World} {base:Nat} {t e:TypeId} {size bytes:Nat} {v:Value} {n:Nat} {xs:List Value}
theorem rG(h:w.grownBy w' v.ownBlock):Kept (fun b=>v.ownBlock=some b) w w':=⟨h.os,h.tape,h.output,h.size,fun b hb kG=>h.block b hb fun e=>kG e.symm⟩
theorem rz(h:w.ownsRow base e size v n xs){b:Nat}(hb:v.ownBlock=some b):∃cur,w.heap[b]?=some (.cells cur e (0,0)):=by
 rcases h.2 with ⟨rfl,_⟩ | ⟨g,cap,cur,rfl,_,hg,_⟩
 ·cases hb
 ·cases hb;exact⟨cur,hg⟩
theorem qF(h:w.ownsRow base e size v n xs)(hk:∀g,v.ownBlock=some g->w'.heap[g]?=w.heap[g]?):w'.ownsRow base e size v n xs:=by
 refine⟨h.1,?_⟩;rcases h.2 with h | ⟨g,cap,cur,rfl,e2,e3,r⟩
 ·exact .inl h
 ·exact .inr ⟨g,cap,cur,rfl,e2,(hk g rfl).trans e3,r⟩
theorem dD(h:w.ownsRow base e size v n xs)(hb:Below w.heap.size w w'):w'.ownsRow base e size v n xs:=qF h fun g hg=>hb.block g (h.lt g hg).2
theorem eB{S:Nat->Prop}(h:w.ownsRow base e size v n xs)(hk:Kept S w w')(hS:∀g,v.ownBlock=some g->¬S g):w'.ownsRow base e size v n xs:=qF h fun g hg=>hk.block g (h.lt g hg).2 (hS g hg)
theorem iW(h:w.ownsRow base e size v n xs):∃p c,v=.slice p n c/\n<=c/\(0<n->∃g,p=some ⟨g,0,none⟩):=by
 rcases h.2 with ⟨rfl,rfl⟩ | ⟨g,cap,cur,rfl,_,_,yB,_⟩
 ·exact⟨_,_,rfl,az _,fun h=>absurd h (gB 0)⟩
 ·exact⟨_,_,rfl,yB,fun _=>⟨g,rfl⟩⟩
theorem oN{g c:Nat}(h:w.ownsRow base e size (.slice (some ⟨g,0,none⟩) n c) n xs){j:Nat}{u:Value}(hj:xs[j]?=some u):w.cell? ⟨g,j,none⟩=some u:=by
 have:=h.cells (g:=g) rfl j u hj;rw[bW,aW] at this;exact this
theorem Iu{g c:Nat}(h:w.ownsRow base e size (.slice (some ⟨g,0,none⟩) n c) n xs)(o:Nat):w.frozen? ⟨g,o,none⟩=false:=by
 obtain ⟨cur,hc⟩:=rz (b:=g) h rfl;simp[World.frozen?,hc]
theorem zX(h:w.ownsRow base e size v n xs){g:Nat}(hg:v.ownBlock=some g)(j:Nat)(u:Value):(w.setCell ⟨g,j,none⟩ u).ownsRow base e size v n (xs.set j u):=by
 refine⟨by rw[List.length_set];exact h.1,?_⟩;rcases h.2 with ⟨rfl,_⟩ | ⟨g',cap,cur,rfl,hb,EK,yB,hm,hs,ht⟩
 ·cases hg
 ·obtain rfl:g'=g:=by simpa [Value.ownBlock] using hg
  refine .inr ⟨g',cap,cur.setIfInBounds j u,rfl,hb,?_,yB,hm,by simpa using hs,?_⟩
  ·rw[bM w g' j _ e (0,0) u EK];exact cK w g' _ _ e _ EK
  ·rw[<-ht];simp[List.take_set]
theorem tM(E:Tx t e size bytes)(h:w.ownsRow base e size v n xs)(ty:TypeId)(a:Addr)(m c:Nat)(news:List Value)(hl:news.length=m*size)(nF:∀j u,news[j]?=some u->w.cell? (a.add j)=some u)(h1:∀u∈news,u.oneCell'=true)(hn:n+m<=10000)(hb:base<=w.heap.size) :
  ∃v' w',(Builtin.append_ #[t,t] ty #[v,.slice (some a) m c]).run prog w=.ok v' w'/\w'.ownsRow base e size v' (n+m) (xs++news)/\Kept (fun b=>v.ownBlock=some b) w w'/\(v'.ownBlock=v.ownBlock\/v'.ownBlock=some w.heap.size):=by
 obtain ⟨i,z,hi,hz,hs,Ku,OJ⟩:=E.inf;have hml:10000<=maxLen:=by decide
 have hsm:=E.small;obtain ⟨v',w',hr,h2,h3,_,h5⟩:=run_append_own_at w base t ty e i z size bytes E.ut hi hz hs Ku OJ E.pos v n xs h a m c news hl nF h1 (by omega) (by have:=Nat.mul_le_mul hn hsm;omega) hb;exact⟨v',w',hr,h2,rG h3,h5⟩
theorem KH{ops:Array Oper}{rest:List Oper}{o:Oper}{A:Act}{Q:Exit->Act->World->Prop}(jt:o.guard=none)(s x:Operand)(E:Tx t e size bytes)
  (ho:o.op=.call { callee:=.builtin .append,args:=#[s,x],argTypes:=#[t,t] }) (hs:A.eval s=v) (h:w.ownsRow base e size v n xs)
  (a:Addr) (m c:Nat) (news:List Value) (hx:A.eval x=.slice (some a) m c) (hl:news.length=m*size) (nF:∀j u,news[j]?=some u->w.cell? (a.add j)=some u) (h1:∀u∈news,u.oneCell'=true) (hn:n+m<=10000) (hb:base<=w.heap.size)
  (hK:∀v' w',w'.ownsRow base e size v' (n+m) (xs++news)->Kept (fun b=>v.ownBlock=some b) w w'->(v'.ownBlock=v.ownBlock\/v'.ownBlock=some w.heap.size)->wpList prog ops Q rest (A.put o.dst v') w'):wpList prog ops Q (o :: rest) A w:=by
 refine iQ jt fun K hK'=>?_;obtain ⟨v',w',hr,h2,h3,h4⟩:=tM E h o.type a m c news hl nF h1 hn hb;unfold Oper.wp;simp[execOp,ho,resolve,invoke,builtin,hs,hx,hr,Result.andThen];exact hK' _ _ (hK v' w' h2 h3 h4)
theorem G_{ops:Array Oper}{o:Oper}{A:Act}{K:Act->World->Prop}{Q:Exit->Act->World->Prop}{F:Prop}(jt:o.guard=none)(s x:Operand)(E:Tx t e size bytes)
  (ho:o.op=.call { callee:=.builtin .append,args:=#[s,x],argTypes:=#[t,t] }) (hs:A.eval s=v) (h:w.ownsRow base e size v n xs)
  (a:Addr) (m c:Nat) (news:List Value) (hx:A.eval x=.slice (some a) m c) (hl:news.length=m*size) (nF:∀j u,news[j]?=some u->w.cell? (a.add j)=some u) (h1:∀u∈news,u.oneCell'=true) (hn:n+m<=10000) (hb:base<=w.heap.size)
  (hK:∀v' w',w'.ownsRow base e size v' (n+m) (xs++news)->Kept (fun b=>v.ownBlock=some b) w w'->(v'.ownBlock=v.ownBlock\/v'.ownBlock=some w.heap.size)->K (A.put o.dst v') w') :
  if Region.wanted o (yielded ops A.tmps)=true then Oper.wp prog o A w K Q else F:=by
 have hw:Region.wanted o (yielded ops A.tmps)=true:=by simp[Region.wanted,jt]
 rw[aE hw];obtain ⟨v',w',hr,h2,h3,h4⟩:=tM E h o.type a m c news hl nF h1 hn hb;unfold Oper.wp;simp[execOp,ho,resolve,invoke,builtin,hs,hx,hr,Result.andThen];exact hK v' w' h2 h3 h4
theorem Q_(w:World)(hb:base<=w.heap.size):(w.alloc (.cells #[] e)).ownsRow base e size (.slice (some ⟨w.heap.size,0,none⟩) 0 0) 0 []:=gN w #[] 0 hb (aI _) (by simp)
theorem Ek(h:w.ownsRow base e size v n xs){g:Nat}(hg:v.ownBlock=some g)(k l:Nat):∀j u,((xs.drop k).take l)[j]?=some u->w.cell? ((⟨g,k,none⟩:Addr).add j)=some u:=by
 intro j u hj;have hc:=h.cells hg (k+j) u (by rw[fG] at hj;split at hj <;> simp_all);rw[bW] at hc ⊢;rw[aW] at hc;exact hc
end
namespace L
open Go.Proofs.Tryz
def PG (t:Int)(L:List (Int × Int))(j:Nat):Int:=if pos t L<j then (pos t L:Int) else -1
theorem XB(t:Int)(L:List (Int × Int)):PG t L 0=-1:=aD (by omega)
theorem XE{t:Int}{L:List (Int × Int)}{j:Nat}(hj:j<L.length)(e:¬(L[j]).1=t):PG t L (j+1)=PG t L j:=by
 have kG:pos t L≠j:=fun e2=>by
  subst e2;exact e (Fv t hj)
 unfold PG;by_cases h:pos t L<j
 ·rw[aE (by omega),aE h]
 ·rw[aD (by omega),aD h]
theorem XD{t:Int}{L:List (Int × Int)}(h:look t L=none):PG t L L.length=-1:=aD (by rw[UK h];omega)
theorem XC{t n:Int}{L:List (Int × Int)}(h:look t L=some n):PG t L L.length=pos t L:=aE (UJ h).1
theorem KN{L:List (Int × Int)}{j:Nat}(hj:j<L.length):total (L.take (j+1))=total (L.take j)+(L[j]).2:=by
 rw[bw hj];exact tG _ _ _
theorem uo{L:List (Int × Int)}(h:si L)(j:Nat):0<=total (L.take j)/\total (L.take j)<=total L:=by
 have hf:si (L.take j):=⟨fun x hx=>h.ya x (eY hx),by rw[List.map_take];exact h.once.sublist (List.take_sublist _ _)⟩
 refine⟨kI hf,?_⟩;have hd:si (L.drop j):=⟨fun x hx=>h.ya x (fE hx),by rw[List.map_drop];exact h.once.sublist (List.drop_sublist _ _)⟩
 have e:∀A B:List (Int × Int),total (A++B)=total A+total B:=by
  intro A B
  induction A with
  | nil=>simp[total]
  | cons x xs ih=>simp only[ct,total,ih];omega
 have h2:=e (L.take j) (L.drop j);rw[eE] at h2;have:=kI hd;omega
end L
section
variable {w w':World}
structure FR (we w:World) (base:Nat) (e:TypeId) (size:Nat) (v:Value) (n:Nat) (xs:List Value):Prop where
 own:w.ownsRow base e size v n xs
 below:Below we.heap.size we w
 new:∀g,v.ownBlock=some g->we.heap.size<=g
theorem FR.empty{we w:World}{base:Nat}(e:TypeId)(size:Nat)(hb:Below we.heap.size we w)(hB:base<=we.heap.size):FR we (w.alloc (.cells #[] e)) base e size (.slice (some ⟨w.heap.size,0,none⟩) 0 0) 0 [] :=
 ⟨Q_ w (bJ hB hb.size),ah hb (ag w _),fun g hg=>by have:=hb.size;simp[Value.ownBlock] at hg;omega⟩
theorem FR.app{we w w':World}{base:Nat}{e:TypeId}{size:Nat}{v v':Value}{n n':Nat}{xs ys:List Value}(h:FR we w base e size v n xs)(ho:w'.ownsRow base e size v' n' ys)(hk:Kept (fun b=>v.ownBlock=some b) w w')(hv:v'.ownBlock=v.ownBlock\/v'.ownBlock=some w.heap.size):FR we w' base e size v' n' ys :=
 ⟨ho,hk.uR h.below (fun b hb e=>by have:=h.new b e;omega) (az _),fun g hg=>by
  rcases hv with e | e
  ·exact h.new g (e ▸ hg)
  ·rw[e] at hg;have:=h.below.size;simp at hg;omega⟩
theorem cB{base:Nat}{e:TypeId}{size:Nat}{v:Value}{n:Nat}{xs:List Value}(h:w.ownsRow base e size v n xs):∃p c,v=.slice p n c:=by
 obtain ⟨p,c,e1,_⟩:=iW h;exact⟨p,c,e1⟩
theorem Bv{xs:List Value}(h:∀u∈xs,u.oneCell'=true)(k l:Nat):∀u∈(xs.drop k).take l,u.oneCell'=true:=fun u hu=>h u (fE (eY hu))
theorem Bt{base:Nat}{e:TypeId}{size:Nat}{v:Value}{n:Nat}{xs:List Value}(h:w.ownsRow base e size v n xs){g:Nat}(hg:v.ownBlock=some g){ad:Addr}{k l:Nat}(ha:ad=⟨g,k,none⟩\/l=0):∀j u,((xs.drop k).take l)[j]?=some u->w.cell? (ad.add j)=some u:=by
 rcases ha with rfl | rfl
 ·exact Ek h hg k l
 ·intro j u hj;simp at hj
end
theorem ad2:(prog.info? 224).map (fun i=>(i.zero,i.size,i.bytes))=some (some (.agg #[.int .u64 0,.slice none 0 0,.int .i64 0,.bool false]),4,48):=by kernel_rfl
theorem MT:Tx 215 224 4 48:=by
 obtain ⟨i0,hi,h0,h1,h2⟩:=cj ad2;exact⟨underlying215,⟨i0,_,hi,h0,h1,h2,rfl⟩,by decide,by decide⟩
section
variable {w w':World} {base lW:Nat} {t e:TypeId} {size bytes:Nat} {v u:Value} {n m:Nat} {xs ys:List Value}
theorem pL(E:Tx t e size bytes)(h:w.ownsRow base e size v n xs)(ty:TypeId)(hu:w.ownsRow lW e size u m ys)(h1:∀x∈ys,x.oneCell'=true)(hn:n+m<=10000)(hb:base<=w.heap.size) :
  ∃v' w',(Builtin.append_ #[t,t] ty #[v,u]).run prog w=.ok v' w'/\w'.ownsRow base e size v' (n+m) (xs++ys)/\Kept (fun b=>v.ownBlock=some b) w w'/\(v'.ownBlock=v.ownBlock\/v'.ownBlock=some w.heap.size):=by
 rcases hu.2 with ⟨rfl,rfl⟩ | ⟨g,cap,cur,rfl,_⟩
 ·obtain ⟨i,z,hi,hz,hs,Ku,OJ⟩:=E.inf;have e0:ys=[]:=aZ (by have:=hu.1;omega);refine⟨v,w,run_append_owned_none (P:=prog) (w:=w) base t ty e i size E.ut hi v n xs h,by rw[e0];simpa using h,Kept.refl _ _,.inl rfl⟩
 ·exact tM E h ty ⟨g,0,none⟩ m cap ys hu.1 (fun j x hj=>hu.cells (g:=g) rfl j x hj) h1 hn hb
theorem oC{ops:Array Oper}{rest:List Oper}{o:Oper}{A:Act}{Q:Exit->Act->World->Prop}(jt:o.guard=none)(s x:Operand)(E:Tx t e size bytes)
  (ho:o.op=.call { callee:=.builtin .append,args:=#[s,x],argTypes:=#[t,t] }) (hs:A.eval s=v) (h:w.ownsRow base e size v n xs)
  (hx:A.eval x=u) (hu:w.ownsRow lW e size u m ys) (h1:∀x∈ys,x.oneCell'=true) (hn:n+m<=10000) (hb:base<=w.heap.size)
  (hK:∀v' w',w'.ownsRow base e size v' (n+m) (xs++ys)->Kept (fun b=>v.ownBlock=some b) w w'->(v'.ownBlock=v.ownBlock\/v'.ownBlock=some w.heap.size)->wpList prog ops Q rest (A.put o.dst v') w'):wpList prog ops Q (o :: rest) A w:=by
 refine iQ jt fun K hK'=>?_;obtain ⟨v',w',hr,h2,h3,h4⟩:=pL E h o.type hu h1 hn hb;unfold Oper.wp;simp[execOp,ho,resolve,invoke,builtin,hs,hx,hr,Result.andThen];exact hK' _ _ (hK v' w' h2 h3 h4)
theorem kJ{ops:Array Oper}{o:Oper}{A:Act}{K:Act->World->Prop}{Q:Exit->Act->World->Prop}{F:Prop}(jt:o.guard=none)(s x:Operand)(E:Tx t e size bytes)
  (ho:o.op=.call { callee:=.builtin .append,args:=#[s,x],argTypes:=#[t,t] }) (hs:A.eval s=v) (h:w.ownsRow base e size v n xs)
  (hx:A.eval x=u) (hu:w.ownsRow lW e size u m ys) (h1:∀x∈ys,x.oneCell'=true) (hn:n+m<=10000) (hb:base<=w.heap.size)
  (hK:∀v' w',w'.ownsRow base e size v' (n+m) (xs++ys)->Kept (fun b=>v.ownBlock=some b) w w'->(v'.ownBlock=v.ownBlock\/v'.ownBlock=some w.heap.size)->K (A.put o.dst v') w') :
  if Region.wanted o (yielded ops A.tmps)=true then Oper.wp prog o A w K Q else F:=by
 have hw:Region.wanted o (yielded ops A.tmps)=true:=by simp[Region.wanted,jt]
 rw[aE hw];obtain ⟨v',w',hr,h2,h3,h4⟩:=pL E h o.type hu h1 hn hb;unfold Oper.wp;simp[execOp,ho,resolve,invoke,builtin,hs,hx,hr,Result.andThen];exact hK v' w' h2 h3 h4
theorem xe(v:Value):bC v=v.ownBlock:=by
 cases v with
 | slice p n c=>cases p <;> rfl
 | _=>rfl
theorem zY{cs:List Value}(w:World)(hl:cs.length=1*size)(hb:base<=w.heap.size):(w.alloc (.cells cs.toArray e)).ownsRow base e size (.slice (some ⟨w.heap.size,0,none⟩) 1 1) 1 cs :=
 ⟨hl,.inr ⟨w.heap.size,1,cs.toArray,rfl,hb,aG w _,az _,by decide,by simpa using hl,by simp[hl.symm]⟩⟩
end
end Go.Proofs.Zq.E
namespace Go.Proofs.Zq.E
open Go.RowKit
structure qW where
 t:Int
 p:Option Addr
 m:Nat
 c:Nat
 l:Int
 b:Bool
abbrev qW.v (x:qW):Value:=.slice x.p x.m x.c
def qW.cs (x:qW):List Value:=[.int .u64 x.t,.slice x.p x.m x.c,.int .i64 x.l,.bool x.b]
def cV (ps:List qW):List Value:=ps.flatMap qW.cs
theorem uZ(ps qs:List qW):cV (ps++qs)=cV ps++cV qs:=List.flatMap_append
theorem ju(p:qW)(ps:List qW):cV (p :: ps)=p.cs++cV ps:=rfl
theorem Cf(p:qW):cV [p]=p.cs:=by simp[cV]
theorem oT(ps:List qW):(cV ps).length=ps.length*4:=by
 induction ps with
 | nil=>rfl
 | cons x xs ih=>rw[ju,aO,ih];simp only[qW.cs,bz,dH];omega
theorem oz:∀(ps:List qW) (k:Nat) (hk:k<ps.length) (j:Nat),j<4->(cV ps)[k*4+j]?=(ps[k]).cs[j]?
 | [],k,hk,_,_=>by simp at hk
 | x :: xs,0,_,j,hj=>by rw[ju,cg (by simp[qW.cs];omega)];simp
 | x :: xs,k+1,hk,j,hj=>by
  have h:=oz xs k (by simpa using hk) j hj;rw[ju,aT (by simp[qW.cs];omega)];have e:(k+1)*4+j-x.cs.length=k*4+j:=by simp only[qW.cs,bz,dH];omega
  rw[e,h];rfl
theorem zb(ps:List qW):∀k,(cV ps).take (k*4)=cV (ps.take k):=by
 induction ps with
 | nil=>intro k;simp[cV]
 | cons x xs ih =>
  intro k;cases k with
  | zero=>simp[cV]
  | succ k =>
   have e:(k+1)*4=k*4+4:=by omega
   rw[ju,ig,ju,e];simp[qW.cs,ih]
theorem Jo(ps:List qW):∀k,(cV ps).drop (k*4)=cV (ps.drop k):=by
 induction ps with
 | nil=>intro k;simp[cV]
 | cons x xs ih =>
  intro k;cases k with
  | zero=>simp
  | succ k =>
   have e:(k+1)*4=k*4+4:=by omega
   rw[ju,jh,e];simp[qW.cs,ih]
theorem Ce:∀(ps:List qW) (k:Nat) (hk:k<ps.length) (x:Int) (b:Bool),((cV ps).set (k*4+2) (.int .i64 x)).set (k*4+3) (.bool b)=cV (ps.set k { ps[k] with l:=x,b:=b })
 | [],k,hk,_,_=>by simp at hk
 | p :: qs,0,_,x,b=>by simp[cV,qW.cs]
 | p :: qs,k+1,hk,x,b=>by
  have ih:=Ce qs k (by simpa using hk) x b;have e:(k+1)*4+2=(k*4+2)+4:=by omega
  have e':(k+1)*4+3=(k*4+3)+4:=by omega
  rw[ju,e,e'];simp only[qW.cs,ct,bF,zC,lF,ju,<-ih]
theorem nP(ps:List qW):∀u∈cV ps,u.oneCell'=true:=by
 intro u hu;obtain ⟨p,_,hp⟩:=List.mem_flatMap.1 hu;simp only[qW.cs,bZ,dL,or_false] at hp;rcases hp with rfl | rfl | rfl | rfl <;> rfl
structure Mi (w:World) (G:Nat->Prop) (x:Int × List Int × Int) (y:qW):Prop where
 t:y.t=x.1
 f:ow w y.v x.2.1
 g:∀g,bC y.v=some g->G g
 l:y.l=x.2.2
 b:y.b=decide (x.2.2≠0/\x.2.2<(x.2.1.length:Int)+1)
def se (w:World)(G:Nat->Prop):List (Int × List Int × Int)->List qW->Prop
 | [],[]=>True
 | x :: xs,y :: ys=>Mi w G x y/\se w G xs ys
 | _,_=>False
section
variable {w w':World} {G:Nat->Prop}
theorem Mi.m{x:Int × List Int × Int}{y:qW}(h:Mi w G x y):y.m=x.2.1.length:=by
 obtain ⟨p,c,e,_⟩:=h.f.read;simp only[cE] at e;exact e.2.1
theorem se.len:∀{xs ys},se w G xs ys->ys.length=xs.length
 | [],[],_=>rfl
 | _ :: _,_ :: _,h=>by simp[se.len h.2]
 | [],_ :: _,h=>h.elim
 | _ :: _,[],h=>h.elim
theorem se.get:∀{xs ys},se w G xs ys->∀(k:Nat) (h1:k<xs.length) (h2:k<ys.length),Mi w G xs[k] ys[k]
 | _ :: _,_ :: _,h,0,_,_=>h.1
 | _ :: _,_ :: _,h,k+1,h1,h2=>se.get h.2 k (by simpa using h1) (by simpa using h2)
theorem se.app:∀{xs ys},se w G xs ys->∀{x y},Mi w G x y->se w G (xs++[x]) (ys++[y])
 | [],[],_,_,_,h=>⟨h,trivial⟩
 | _ :: _,_ :: _,h,_,_,h'=>⟨h.1,se.app h.2 h'⟩
 | [],_ :: _,h,_,_,_=>h.elim
 | _ :: _,[],h,_,_,_=>h.elim
theorem se.map{w':World}{G':Nat->Prop}(hf:∀x y,Mi w G x y->Mi w' G' x y):∀{xs ys},se w G xs ys->se w' G' xs ys
 | [],[],_=>trivial
 | _ :: _,_ :: _,h=>⟨hf _ _ h.1,se.map hf h.2⟩
 | [],_ :: _,h=>h.elim
 | _ :: _,[],h=>h.elim
theorem se.cut:∀{xs ys},se w G xs ys->∀k,se w G (xs.take k++xs.drop (k+1)) (ys.take k++ys.drop (k+1))
 | [],[],_,_=>by simp[se]
 | _ :: _,_ :: _,h,0=>by simpa using h.2
 | _ :: _,_ :: _,h,k+1=>⟨h.1,se.cut h.2 k⟩
 | [],_ :: _,h,_=>h.elim
 | _ :: _,[],h,_=>h.elim
theorem se.set:∀{xs ys},se w G xs ys->∀(k:Nat) {x y},Mi w G x y->se w G (xs.set k x) (ys.set k y)
 | [],[],_,_,_,_,_=>by simp[se]
 | _ :: _,_ :: _,h,0,_,_,h'=>⟨h',h.2⟩
 | _ :: _,_ :: _,h,k+1,_,_,h'=>⟨h.1,se.set h.2 k h'⟩
 | [],_ :: _,h,_,_,_,_=>h.elim
 | _ :: _,[],h,_,_,_,_=>h.elim
end
def wl (W:List (Int × List Int)):List (Int × List Int × Int):=W.map fun x=>(x.1,x.2,0)
theorem JM(t:Int):∀I:List (Int × List Int × Int),mD t I=I.take (L.pos t (dg I))++I.drop (L.pos t (dg I)+1)
 | []=>rfl
 | x :: xs=>by
  by_cases e:x.1=t
  ·simp[mD,L.pos,dg,e]
  ·have:=JM t xs;simp only[dg] at this;simp[mD,L.pos,dg,e,this]
theorem JI{t:Int}:∀{I:List (Int × List Int × Int)} {f:List Int} {n:Int},fi t I=some (f,n)->oX t I=I.set (L.pos t (dg I)) (t,f,n-1)
 | [],_,_,h=>by simp[fi] at h
 | x :: xs,f,n,h=>by
  by_cases e:x.1=t
  ·simp only[fi,aE e,aC] at h;simp[oX,L.pos,dg,e,h]
  ·simp only[fi,aD e] at h;have:=JI h;simp only[dg] at this;simp[oX,L.pos,dg,e,this]
theorem WU{t:Int}:∀{I:List (Int × List Int × Int)} {f:List Int} {n:Int},fi t I=some (f,n)->∃h:L.pos t (dg I)<I.length,I[L.pos t (dg I)]=(t,f,n)
 | [],_,_,h=>by simp[fi] at h
 | x :: xs,f,n,h=>by
  by_cases e:x.1=t
  ·simp only[fi,aE e,aC] at h;refine⟨by simp[L.pos,dg,e],?_⟩;simp[L.pos,dg,e];rw[<-e,<-h]
  ·simp only[fi,aD e] at h;obtain ⟨h1,h2⟩:=WU h;simp only[dg] at h1 h2;have ep:L.pos t (dg (x :: xs))=L.pos t (xs.map fun x=>(x.1,x.2.2))+1:=by simp[L.pos,dg,e]
   refine⟨by rw[ep];simpa using h1,?_⟩;simp only[ep,lF];exact h2
theorem yf(I:List (Int × List Int × Int)):(dg I).length=I.length:=by simp[dg]
abbrev cz (a:Ad)(vW vI:Value):Array Value:=#[.int .i64 a.bl,.int .i64 a.lc,.int .i64 a.mr,.int .i64 a.hi,.int .i64 a.cl,.int .u64 a.next,vW,vI,.int .i64 a.used]
structure RR (w:World) (G:Nat->Prop) (v:Value) (xs:List (Int × List Int × Int)) (ps:List qW):Prop where
 row:w.ownsRow 0 224 4 v ps.length (cV ps)
 mi:se w G xs ps
 g:∀g,v.ownBlock=some g->G g
structure RL (w:World) (G:Nat->Prop) (R:Nat) (vW vI:Value) (a:Ad) (ws is:List qW):Prop where
 st:w.heap[R]?=some (.cells (cz a vW vI) 217 (0,0))
 W:RR w G vW (wl a.W) ws
 I:RR w G vI a.I is
section
variable {w w':World} {G G':Nat->Prop} {R:Nat} {v vW vI:Value} {a:Ad} {ws is ps:List qW} {xs:List (Int × List Int × Int)}
theorem RL.wr(h:RL w G R vW vI a ws is):w.ownsRow 0 224 4 vW ws.length (cV ws):=h.W.row
theorem RL.ir(h:RL w G R vW vI a ws is):w.ownsRow 0 224 4 vI is.length (cV is):=h.I.row
theorem RL.wm(h:RL w G R vW vI a ws is):se w G (wl a.W) ws:=h.W.mi
theorem RL.im(h:RL w G R vW vI a ws is):se w G a.I is:=h.I.mi
theorem RL.lt(h:RL w G R vW vI a ws is):R<w.heap.size:=(au.1 h.st).1
theorem ow.keeps{v:Value}{f:List Int}(h:ow w v f)(hk:∀g,bC v=some g->w'.heap[g]?=w.heap[g]?):ow w' v f:=qF h fun g hg=>hk g (by rw[xe];exact hg)
theorem ow.lt{v:Value}{f:List Int}(h:ow w v f){g:Nat}(hg:bC v=some g):g<w.heap.size:=by rw[xe] at hg;exact (fQ h g hg).2
theorem Mi.kept{x:Int × List Int × Int}{y:qW}(m:Mi w G x y)(hG:∀g,G g->g<w.heap.size->w'.heap[g]?=w.heap[g]?)(xu:∀g,G g->G' g):Mi w' G' x y :=
 ⟨m.t,m.f.keeps fun g hg=>hG g (m.g g hg) (m.f.lt hg),fun g hg=>xu g (m.g g hg),m.l,m.b⟩
theorem RR.kept(h:RR w G v xs ps)(hG:∀g,G g->g<w.heap.size->w'.heap[g]?=w.heap[g]?)(xu:∀g,G g->G' g):RR w' G' v xs ps :=
 ⟨qF h.row fun g hg=>hG g (h.g g hg) (h.row.lt g hg).2,h.mi.map fun _ _ m=>m.kept hG xu,fun g hg=>xu g (h.g g hg)⟩
theorem RL.kept(h:RL w G R vW vI a ws is)(hR:w'.heap[R]?=w.heap[R]?)(hG:∀g,G g->g<w.heap.size->w'.heap[g]?=w.heap[g]?)(xu:∀g,G g->G' g):RL w' G' R vW vI a ws is:=⟨hR.trans h.st,h.W.kept hG xu,h.I.kept hG xu⟩
theorem RL.later(h:RL w G R vW vI a ws is)(hb:Below w.heap.size w w'):RL w' G R vW vI a ws is:=h.kept (hb.block R h.lt) (fun g _ hg=>hb.block g hg) (fun _ hg=>hg)
theorem RL.drawn(h:RL w G R vW vI a ws is)(m:Nat):RL (w.drewN m) G R vW vI a ws is:=h.later (av m)
theorem RL.c(h:RL w G R vW vI a ws is)(o:Nat):w.cell? ⟨R,o,none⟩=(cz a vW vI)[o]?:=aq _ R o _ 217 (0,0) h.st
theorem RL.free(h:RL w G R vW vI a ws is)(o:Nat):w.frozen? ⟨R,o,none⟩=false:=by simp[World.frozen?,h.st]
def Gp (w w':World)(G:Nat->Prop)(g:Nat):Prop:=G g\/(w.heap.size<=g/\g<w'.heap.size)
theorem se.turn(h:se w G xs ps)(hR:¬G R)(hk:Kept (·=R) w w'):se w' (Gp w w' G) xs ps:=h.map fun _ _ m=>m.kept (fun g hg hl=>hk.block g hl fun e=>hR (e ▸ hg)) fun _ hg=>.inl hg
theorem RR.turn(h:RR w G v xs ps)(hR:¬G R)(hk:Kept (·=R) w w'):RR w' (Gp w w' G) v xs ps:=h.kept (fun g hg hl=>hk.block g hl fun e=>hR (e ▸ hg)) fun _ hg=>.inl hg
theorem RR.fresh(ho:w'.ownsRow 0 224 4 v ps.length (cV ps))(hm:se w' (Gp w w' G) xs ps)(hv:∀g,v.ownBlock=some g->w.heap.size<=g):RR w' (Gp w w' G) v xs ps:=⟨ho,hm,fun g hg=>.inr ⟨hv g hg,(ho.lt g hg).2⟩⟩
structure Ds (w w':World) (G:Nat->Prop) (R:Nat) (a':Ad):Prop where
 rl:∃vW vI ws is,RL w' (Gp w w' G) R vW vI a' ws is
 kept:Kept (·=R) w w'
theorem Ds.same(h:RL w G R vW vI a ws is)(hb:Below w.heap.size w w'):Ds w w' G R a:=⟨⟨vW,vI,ws,is,h.kept (hb.block R h.lt) (fun g _ hg=>hb.block g hg) (fun _ hg=>.inl hg)⟩,Kept.bP _ hb⟩
theorem qK{g c n:Nat}{ps:List qW}(h:w.ownsRow 0 224 4 (.slice (some ⟨g,0,none⟩) n c) n (cV ps)){k:Nat}(hk:k<ps.length):w.cell? ⟨g,k*4,none⟩=some (.int .u64 ps[k].t)/\w.cell? ⟨g,k*4+1,none⟩=some ps[k].v/\w.cell? ⟨g,k*4+2,none⟩=some (.int .i64 ps[k].l)/\w.cell? ⟨g,k*4+3,none⟩=some (.bool ps[k].b):=by
 have h0:=oz ps k hk 0 (by omega);have h1:=oz ps k hk 1 (by omega);have h2:=oz ps k hk 2 (by omega);have h3:=oz ps k hk 3 (by omega);exact⟨oN h h0,oN h h1,oN h h2,oN h h3⟩
theorem RL.xA(h:RL w G R vW vI a ws is):ws.length=a.W.length:=by rw[h.wm.len];simp[wl]
theorem RL.sS(h:RL w G R vW vI a ws is):is.length=a.I.length:=h.im.len
theorem RL.left(h:RL w G R vW vI a ws is){k:Nat}(hk:k<is.length):∃kN:k<(dg a.I).length,(dg a.I)[k]=(is[k].t,is[k].l):=by
 have h1:k<a.I.length:=by rw[<-h.sS];exact hk
 have hm:=h.im.get k h1 hk;exact⟨by rw[yf];exact h1,by simp only[dg,List.getElem_map];rw[<-hm.t,<-hm.l]⟩
end
open Go.Proofs.Tryz
section
variable {w w':World} {F:Ft} {n:Nat} {a:Ad}
theorem PL.ae9{w2 w3 w4 w5:World}{f:List Int}{q:Option Addr}{d:Nat}{v':Value}{M:Int->Option Value}(h:PL w F n a)(N:Ne F)(jb:Below w.heap.size w w2)(uY:ow w2 (.slice q f.length d) f)(hM:tZ w2 F.mb n M/\(∀t v,M t=some v->∃p n c,v=.slice p n c)/\∀x∈a.fl,∃v,M x.1=some v/\ow w2 v x.2/\∀g,bC v=some g->F.G g)
  (jM:w3=w2.setCell ⟨F.Q,5,none⟩ (.int .u64 (a.next+1))) (hQ:mS 211 w4 F.q1 v' (wt a.W++[a.next]) a.next) (RA:Kept (fun b=>b=F.q1\/bC F.v1=some b) w3 w4) (hv:bC v'=bC F.v1\/∃g,bC v'=some g/\w.heap.size<=g)
  (hm5:tZ w5 F.mb (n+1) (fun u=>if u=a.next then some (.slice q f.length d) else M u)) (OV:Kept (·=F.mb) w4 w5) (ok:({ a with next:=a.next+1,W:=a.W++[(a.next,f)] }:Ad).Ok) :
  PL w5 { F with v1:=v',G:=fun b=>F.G b\/bC (.slice q f.length d)=some b } (n+1) { a with next:=a.next+1,W:=a.W++[(a.next,f)] }/\Kept F.has w w5/\ow w5 (.slice q f.length d) f:=by
 have h2:=h.later jb;have tU:Kept (·=F.Q) w2 w3:=by rw[jM];exact Kept.setCell F.Q 5 _
 have eP:∀b,F.has b->b<w.heap.size:=fun b hb=>h.lt hb;have Ry:∀g,w.heap.size<=g->¬F.has g:=fun g hg hb=>by have:=eP g hb;omega
 have uU:w3.heap[F.Q]?=some (.cells (fH F { a with next:=a.next+1,W:=a.W++[(a.next,f)] }) 115 (0,0)):=by
  rw[jM,L.jL 5 _ h2.st];rfl
 have alc:∀b,bC v'=some b->bC F.v1=some b\/w.heap.size<=b:=fun b hb=>by
  rcases hv with e | ⟨g,e,hg⟩
  ·rw[e] at hb;exact .inl hb
  ·rw[e] at hb;cases hb;exact .inr hg
 have ag9:∀b,bC v'=some b->b≠F.q2/\b≠F.mb/\b≠F.lb/\b≠F.lm/\b≠F.Q/\¬bC F.v2=some b:=fun b hb=>by
  rcases alc b hb with e | e
  ·have:=N.v1 b e;exact⟨this.2.2.1,this.2.2.2.1,this.2.2.2.2.1,this.2.2.2.2.2,this.1,N.v12 b e⟩
  ·have:=Ry b e;simp only[Ft.has,not_or] at this;exact⟨this.2.2.1,this.2.2.2.2.2.1,this.2.2.2.2.2.2.1,this.2.2.2.2.2.2.2,this.1,this.2.2.2.2.1⟩
 have Rk:Kept F.has w2 w5:=((tU.wider (T:=F.has) (fun x _ e=>.inl e)).trans RA (fun x _ e=>by rcases e with e | e;exact .inr (.inl e);exact .inr (.inr (.inr (.inl e))))).trans OV (fun x _ e=>.inr (.inr (.inr (.inr (.inr (.inl e))))));have s3:=tU.size;have s4:=RA.size;refine⟨⟨?_,?_,?_,?_,?_,ok,h.Of,fun g hg=>(ag9 g hg).2.2.2.2.2,h.mm⟩,(Kept.bP _ jb).trans Rk (fun _ _ e=>e),uY.mO Rk (fun g _ hg=>h2.sO hg)⟩
 ·exact (OV.block _ (by have:=h2.lt (.inl rfl);omega) N.Qm).trans ((RA.block _ (by have:=h2.lt (.inl rfl);omega) (by rintro (e | e);exact N.Qq1 e;exact (N.v1 _ e).1 rfl)).trans uU)
 ·show mS _ _ _ _ (wt (a.W++[(a.next,f)])) (a.next+1-1);have e1:wt (a.W++[(a.next,f)])=wt a.W++[a.next]:=by simp[wt]
  have e2:a.next+1-1=a.next:=by omega
  rw[e1,e2];exact hQ.mO OV N.q1m (fun g hg=>(ag9 g hg).2.1)
 ·exact ((h2.l2.mO tU (Ne.symm N.Qq2) (fun g hg=>(N.v2 g hg).1)).mO RA (by rintro (e | e);exact N.Of e.symm;exact (N.v1 _ e).2.2.1 rfl) (fun g hg=>by rintro (e | e);exact (N.v2 g hg).2.1 e;exact N.v12 g e hg)).mO OV N.q2m (fun g hg=>(N.v2 g hg).2.2.2.1)
 ·refine⟨_,hm5,fun t v hv=>?_,fun x hx=>?_⟩
  ·by_cases e:t=a.next
   ·rw[aE e] at hv;cases hv;exact⟨_,_,_,rfl⟩
   ·rw[aD e] at hv;exact hM.2.1 t v hv
  ·have Ah:x∈a.fl\/x=(a.next,f):=by
    simp only[Ad.fl,bH,bg] at hx ⊢;rcases hx with (hx | hx) | hx
    ·exact .inl (.inl hx)
    ·exact .inr hx
    ·exact .inl (.inr hx)
   rcases Ah with Ah | rfl
   ·have kG:x.1≠a.next:=by
     simp only[Ad.fl,bH] at Ah;rcases Ah with Ah | Ah
     ·have:=h.ok.Ny x Ah;omega
     ·obtain ⟨y,hy,rfl⟩:=cF.1 Ah;have:=h.ok.VW y hy;have:=h.ok.Dk;show y.1≠a.next;omega
    obtain ⟨v,hv,hf,hG⟩:=hM.2.2 x Ah;exact⟨v,by rw[aD kG];exact hv,hf.mO Rk (fun g _ hg=>h2.sO hg),fun g hg=>.inl (hG g hg)⟩
   ·exact⟨_,aE rfl,uY.mO Rk (fun g _ hg=>h2.sO hg),fun g hg=>.inr hg⟩
 ·refine ((h2.rm.kept (tU.block _ h2.rm.lt (Ne.symm N.Ql)) (tU.block _ h2.rm.mp.lt (Ne.symm N.Qn))).kept (RA.block _ (by have:=h2.rm.lt;omega) (by rintro (e | e);exact N.q1l e.symm;exact (N.v1 _ e).2.2.2.2.1 rfl)) (RA.block _ (by have:=h2.rm.mp.lt;omega) (by rintro (e | e);exact N.q1n e.symm;exact (N.v1 _ e).2.2.2.2.2 rfl))).kept (OV.block _ (by have:=h2.rm.lt;omega) (Ne.symm N.ml)) (OV.block _ (by have:=h2.rm.mp.lt;omega) (Ne.symm N.mn)) |>.mono (di _)
theorem St(h:PL w F n a)(hn:n<10000)(hN:a.next<=1000){p:Option Addr}{m c:Nat}{xs f:List Int}(hI:B.pZ w p m xs)(hm:m+80<=17592186044416)(hf:B.gA xs a.bl a.mr=(f,0))(MD:f.length<=16)(ok:({ a with next:=a.next+1,W:=a.W++[(a.next,f)] }:Ad).Ok) :
  Calls prog 37 #[qp F.Q,.slice p m c] w fun e w'=>∃q d v' fv,e=.returned (.tuple #[.int .u64 a.next,.slice q f.length d,.int .i64 0])/\(∃s,w'.ownsRow s 3 1 (.slice q f.length d) f.length (o_ f)/\w.heap.size<=s/\ow w' fv f/\∀g,bC fv=some g->w.heap.size<=g/\g<s)/\PL w' { F with v1:=v',G:=fun b=>F.G b\/bC fv=some b } (n+1) { a with next:=a.next+1,W:=a.W++[(a.next,f)] }/\(bC v'=bC F.v1\/∃g,bC v'=some g/\w.heap.size<=g)/\Kept F.has w w':=by
 have HI:Hid (B.pZ w.drew p m xs):=⟨hI.len,hI.cells⟩
 have HF:=zH hf;have c0:w.drew.cell? ⟨F.Q,0,none⟩=some (.int .i64 a.bl):=h.c 0;have c2:w.drew.cell? ⟨F.Q,2,none⟩=some (.int .i64 a.mr):=h.c 2;have H:=zH h;have N:=zH h.ne;have HO:=zH ok;have hx0:1<=a.next:=by have:=h.ok.Dk;have:=h.ok.vg;omega
 have hwl:(wt a.W).length<=1000:=by have:=h.ok.xA;simp only[wt,dI];omega
 have hw:IntKind.u64.wrap (a.next+1)=a.next+1:=by rw[eD];omega
 clear hI hf h ok;go_enter func37,ntmps37;go_wp2_with fail
 go_region_with (go_at_call 85;refine (B.Gd p m c xs a.bl a.mr f 0 HF.out w.drew (by omega) HI.out).mono ?_;rintro e w2 ⟨q,d,rfl,sZ⟩;have HB:Hid (B.Made w.drew w2 q f.length d f):=sZ;clear sZ)
 all_goals (
  have jb:Hid (Below w.heap.size w w2):=ah (h_ w) HB.out.below;have hP2:=zH (H.out.later jb.out);have uY:=zH (ow.Ou HB.out);have c5:w2.cell? ⟨F.Q,5,none⟩=some (.int .u64 a.next):=hP2.out.c 5;have f5:w2.frozen? ⟨F.Q,5,none⟩=false:=hP2.out.free 5;have uU:Hid ((w2.setCell ⟨F.Q,5,none⟩ (.int .u64 (a.next+1))).heap[F.Q]?=some (.cells (fH F { a with next:=a.next+1,W:=a.W++[(a.next,f)] }) 115 (0,0))):=by
   show _=_;rw[L.jL 5 _ hP2.out.st];rfl
  have hQ3:Hid (mS 211 (w2.setCell ⟨F.Q,5,none⟩ (.int .u64 (a.next+1))) F.q1 F.v1 (wt a.W) (a.next-1)):=hP2.out.l1.mO (Kept.setCell F.Q 5 _) (Ne.symm N.out.Qq1) (fun g hg=>(N.out.v1 g hg).1);have d6:(w2.setCell ⟨F.Q,5,none⟩ (.int .u64 (a.next+1))).cell? ⟨F.Q,6,none⟩=some (qp F.q1):=aq _ F.Q 6 _ 115 (0,0) uU.out;go_wp2_with fail;clear c5 f5 d6;obtain ⟨w3,jM⟩:=zE (w2.setCell ⟨F.Q,5,none⟩ (.int .u64 (a.next+1)));have Tp:=zH jM.symm;rw[jM] at uU hQ3 ⊢;clear jM;refine (Ij hQ3.out a.next (by omega) (by omega)).mono ?_;rintro e w4 ⟨rfl,v',h1,h2,h3⟩;have HP4:=Av h1 h2 h3;clear h1 h2 h3;obtain ⟨M,Wj,hm2,hm3⟩:=hP2.out.fm;have HM:=Av Wj hm2 hm3;have tU:Hid (Kept (·=F.Q) w2 w3):=by rw[Tp.out];exact Kept.setCell F.Q 5 _
  have Jt:Hid (F.Q<w3.heap.size):=(au.1 uU.out).1;have hm4:tZ w4 F.mb n M:=(Wj.kept (tU.out.block _ Wj.lt (Ne.symm N.out.Qm))).kept (HP4.out.2.1.block _ (by have:=tU.out.size;have:=Wj.lt;omega) (by rintro (e | e);exact N.out.q1m e.symm;exact (N.out.v1 _ e).2.2.2.1 rfl));have d8:w4.cell? ⟨F.Q,8,none⟩=some (.map (some F.mb)):=(dN (w:=w3) (a:=⟨F.Q,8,none⟩) (HP4.out.2.1.block _ Jt.out (by rintro (e | e);exact N.out.Qq1 e;exact (N.out.v1 _ e).1 rfl))).trans (aq _ F.Q 8 _ 115 (0,0) uU.out);obtain ⟨w5,dM,hm5,OV⟩:=hm4.zV hn (qx (by omega) hN) (.slice q f.length d);have H5:=rf hm5 OV;clear Wj hm2 hm3 hm4 hm5 OV;have HV:Hid (bC v'=bC F.v1\/∃g,bC v'=some g/\w.heap.size<=g):=by
   rcases HP4.out.2.2 with e | ⟨g,e,hg⟩
   ·exact .inl e
   ·exact .inr ⟨g,e,by have:=jb.out.size;have:=tU.out.size;omega⟩
  have Kz:Hid (PL w5 { F with v1:=v',G:=fun b=>F.G b\/bC (.slice q f.length d)=some b } (n+1) { a with next:=a.next+1,W:=a.W++[(a.next,f)] }/\Kept F.has w w5/\ow w5 (.slice q f.length d) f):=by
   exact H.out.ae9 N.out jb.out uY.out HM.out Tp.out HP4.out.1 HP4.out.2.1 HV.out H5.out.1 H5.out.2 HO.out
  clear uU hQ3 Jt HP4 HM H5 Tp tU hP2 uY;go_wp2_with fail;refine (yJ Kz.out.2.2 (by omega)).mono ?_;rintro e w6 ⟨q',d',rfl,hm6⟩;have H6:=zH hm6;clear hm6;go_wp2;go_ret3;have s5:=Kz.out.2.1.size;refine⟨q',d',v',.slice q f.length d,rfl,⟨w5.heap.size,H6.out.own,s5,Kz.out.2.2.later H6.out.below,fun g hg=>⟨gU HB.out.own hg,Kz.out.2.2.lt hg⟩⟩,Kz.out.1.later H6.out.below,HV.out,Kz.out.2.1.trans (Kept.bP (fun _=>False) H6.out.below) (fun _ _ e=>e.elim)⟩)
theorem Su(h:PL w F n a)(hn:n<10000)(hN:a.next<=1000){p:Option Addr}{m c:Nat}{xs:List Int}(hI:B.pZ w p m xs)(hm:m+80<=17592186044416) :
  Calls prog 37 #[qp F.Q,.slice p m c] w fun e w'=>∃q d v' fv,e=.returned (.tuple #[.int .u64 (a.gP xs),.slice q (a.f_ xs).length d,.int .i64 (a.oo xs)])/\(∃s,w'.ownsRow s 3 1 (.slice q (a.f_ xs).length d) (a.f_ xs).length (o_ (a.f_ xs))/\w.heap.size<=s/\ow w' fv (a.f_ xs)/\∀g,bC fv=some g->w.heap.size<=g/\g<s)/\PL w' { F with v1:=v',G:=fun b=>F.G b\/bC fv=some b } (n+1) (a.vC xs)/\(bC v'=bC F.v1\/∃g,bC v'=some g/\w.heap.size<=g)/\Kept F.has w w':=by
 by_cases e:a.oo xs=0
 ·have e1:a.vC xs={ a with next:=a.next+1,W:=a.W++[(a.next,a.f_ xs)] }:=by simp only[Ad.vC,aE e]
  have e2:a.gP xs=a.next:=by simp only[Ad.gP,aE e]
  have BX:=h.ok.kY xs;rw[e1] at BX;rw[e1,e2,e];exact St h hn hN hI hm (Prod.ext rfl e) (WI _ _ _) BX
 ·have e1:a.vC xs=a:=by simp only[Ad.vC,aD e]
  have e2:a.gP xs=0:=by simp only[Ad.gP,aD e]
  have e3:a.f_ xs=[]:=(B.Cl xs a.bl a.mr).2 e;rw[e1,e2,e3];refine (Ss h hI hm (f:=a.f_ xs) (E:=a.oo xs) rfl e).mono ?_;rintro e' w' ⟨rfl,hb⟩;refine⟨none,0,F.v1,gR,rfl,⟨w'.heap.size,cq _ _ _ _,hb.size,ow.nil _,fun g hg=>(by cases hg)⟩,?_,.inl rfl,Kept.bP _ hb⟩;have h2:=(h.later hb).mono (di n);obtain ⟨m',h3,h4,h5⟩:=h2.fm;exact⟨h2.st,h2.l1,h2.l2,⟨m',h3,h4,fun x hx=>by obtain ⟨v,a1,a2,a3⟩:=h5 x hx;exact⟨v,a1,a2,fun g hg=>.inl (a3 g hg)⟩⟩,h2.rm,h2.ok,h2.Of,h2.v12,h2.mm⟩
theorem PL.ZE{G:Nat->Prop}(h:PL w F n a)(he:a.fl=[]):PL w { F with G:=G } n a:=by
 obtain ⟨m',h3,h4,h5⟩:=h.fm;exact⟨h.st,h.l1,h.l2,⟨m',h3,h4,fun x hx=>by rw[he] at hx;cases hx⟩,h.rm,h.ok,h.Of,h.v12,h.mm⟩
end
section
variable {w w':World} {F:Ft} {n:Nat} {a:Ad}
theorem WZ(h:PL w F n a)(hn:n<10000)(hN:a.next<=1000) :
  Calls prog 38 #[qp F.Q] w fun e w'=>∃q d Nz Fc,e=.returned (.tuple #[.int .u64 a.nh,.slice q a.pH.length d,.int .i64 a.lY])/\w'.ownsRow w.heap.size 3 1 (.slice q a.pH.length d) a.pH.length (o_ a.pH)/\PL w' { F with v1:=Nz,v2:=Fc } (n+1) a.rK/\bC Nz=bC F.v1/\(bC Fc=bC F.v2\/∃g,bC Fc=some g/\w.heap.size<=g)/\Kept F.has w w':=by
 cases hW:a.W with
 | nil =>
  have e1:a.lY=110:=by simp[Ad.lY,hW]
  have e2:a.nh=0/\a.pH=[]/\a.rK=a:=by simp[Ad.nh,Ad.pH,Ad.rK,e1]
  rw[e1,e2.1,e2.2.1,e2.2.2];refine (WY h hN (by simp[Ad.Af,hW])).mono ?_;rintro e w' ⟨rfl,hb⟩;exact⟨none,0,F.v1,F.v2,rfl,cq _ _ _ _,(h.later hb).mono (di n),rfl,.inl rfl,Kept.bP _ hb⟩
 | cons x r =>
  cases hf:a.fits with
  | false =>
   have e1:a.lY=120:=by simp[Ad.lY,hW,hf]
   have e2:a.nh=0/\a.pH=[]/\a.rK=a:=by simp[Ad.nh,Ad.pH,Ad.rK,e1]
   rw[e1,e2.1,e2.2.1,e2.2.2];refine (MQ h hn hN hW hf).mono ?_;rintro e w' ⟨rfl,hp,hk⟩;exact⟨none,0,F.v1,F.v2,rfl,cq _ _ _ _,hp,rfl,.inl rfl,hk⟩
  | true =>
   have e1:a.lY=0:=by simp[Ad.lY,hW,hf]
   have e2:a.nh=x.1/\a.pH=x.2/\a.rK={ a with W:=r,I:=a.I++[(x.1,x.2,(x.2.length:Int)+1)],got:=x.1 }:=by simp[Ad.nh,Ad.pH,Ad.rK,e1,Ad.fT,Ad.fF,hW]
   have BX:=h.ok.sj;rw[e2.2.2] at BX;rw[e1,e2.1,e2.2.1,e2.2.2];exact WX h hn hN hW hf BX
end
section
variable {w w':World} {G:Nat->Prop} {R:Nat} {vW vI:Value} {a:Ad} {ws is:List qW}
theorem Ad.Ok.zo{a:Ad}(h:a.Ok):2<=a.lc/\a.lc<=64/\0<=a.used/\0<=a.Fp/\a.used+a.Fp<=a.lc/\1<=a.next:=⟨h.may.2.2.1,h.may.2.2.2.1,h.sy,h.agA,h.room,by have:=h.vg;have:=h.Dk;omega⟩
theorem wu(h:RL w G R vW vI a ws is)(ok:a.Ok)(hN:a.next<=1000):Calls prog 138 #[qp R] w fun e w'=>e=.returned (.int .i64 a.Fp)/\∃m,w'=w.drewN m:=by
 have H:=zH h;obtain ⟨p,c,rfl,hc,hp⟩:=iW h.ir;have hlen:is.length<=1000:=by have:=h.sS;have:=ok.sS;omega
 clear h;go_enter func138,ntmps138;go_wp2_with fail
 go_loopw [3,4] (fun n i wr=>∃k:Nat,k<=is.length/\n=.int .i64 (L.total ((dg a.I).take k))/\i=.int .i64 k/\Hid (∃m,wr=w.drewN m)) (fun _ i _=>is.length-(intOf i).toNat)
 case atStart=>exact⟨0,aI _,rfl,rfl,⟨0,rfl⟩⟩
 case round =>
  obtain ⟨k,hk,rfl,rfl,HM⟩:=hrel;have R1:Hid (RL wr G R vW (.slice p is.length c) a ws is):=by obtain ⟨m,rfl⟩:=HM.out;exact H.out.drawn m
  have c7:wr.cell? ⟨R,7,none⟩=some (.slice p is.length c):=R1.out.c 7;by_cases eP:k<is.length
  ·obtain ⟨g,rfl⟩:=hp (by omega);obtain ⟨hj',el⟩:=H.out.left eP;obtain ⟨_,_,x2,_⟩:=qK R1.out.ir eP;have i1:(k:Int)<(is.length:Int):=by omega
   have n1:=L.uo ok.fine k;have AT:Hid (L.total ((dg a.I).take (k+1))=L.total ((dg a.I).take k)+is[k].l):=by have:=L.KN hj';rw[el] at this;exact this
   have n1':=L.uo ok.fine (k+1);rw[AT.out] at n1';have n3:=ok.zo;have n4:L.total (dg a.I)=a.Fp:=rfl;generalize is[k].l=rm at *;generalize hta:L.total ((dg a.I).take k)=ta at *;rw[n4] at n1 n1';clear hta el n4;obtain ⟨n11,n12⟩:=n1;obtain ⟨n21,n22⟩:=n1';obtain ⟨n31,n32,n33,n34,n35,_⟩:=n3;generalize a.Fp=rs at *;go_wp2_with fail;go_roundw
   case rel=>exact⟨k+1,by omega,by rw[AT.out],by go_num,HM.out⟩
   case measure=>simp[intOf];omega
  ·obtain rfl:k=is.length:=by omega
   have e:L.total ((dg a.I).take is.length)=a.Fp:=by rw[H.out.sS,<-yf,List.take_length];rfl
   rw[e];go_wp2;go_ret;exact⟨rfl,HM.out⟩
theorem Ul(h:RL w G R vW vI a ws is)(ok:a.Ok)(hN:a.next<=1000)(t:Int):Calls prog 130 #[qp R,.int .u64 t] w fun e w'=>e=.returned (.int .i64 (L.PG t (dg a.I) (dg a.I).length))/\w'=w:=by
 have H:=zH h;obtain ⟨p,c,rfl,hc,hp⟩:=iW h.ir;have c7:w.cell? ⟨R,7,none⟩=some (.slice p is.length c):=h.c 7;have hlen:is.length<=1000:=by have:=h.sS;have:=ok.sS;omega
 have LL:Hid ((dg a.I).length=is.length):=by show _=_;rw[yf,h.sS]
 clear h;go_enter func130,ntmps130;go_wp2_with fail
 go_loopw [5] (fun i wr=>∃k:Nat,k<=is.length/\i=.int .i64 k/\wr=w/\Hid (L.PG t (dg a.I) k=-1)) (fun i _=>is.length-(intOf i).toNat)
 case atStart=>exact⟨0,aI _,rfl,rfl,L.XB t (dg a.I)⟩
 case round =>
  obtain ⟨k,hk,rfl,rfl,hA⟩:=hrel;by_cases eP:k<is.length
  ·obtain ⟨g,rfl⟩:=hp (by omega);obtain ⟨hj',el⟩:=H.out.left eP;obtain ⟨x0,_,_,_⟩:=qK H.out.ir eP;have i1:(k:Int)<(is.length:Int):=by omega
   have E1:Hid (is[k].t=t->L.PG t (dg a.I) (dg a.I).length=k):=fun e=>by
    have h2:=L.UM ok.fine hj' (t:=t) (by rw[el];exact e);unfold L.PG;rw[h2,aE hj']
   have E2:Hid (¬is[k].t=t->L.PG t (dg a.I) (k+1)=-1):=fun e=>(L.XE hj' (by rw[el];exact e)).trans hA.out;clear el hj';generalize is[k].t=xt at *;cases hz:(xt == t)
   ·have hx:¬xt=t:=by simpa using hz
    have HE:=zH (E2.out hx);clear E1 E2;go_wp2_with fail;go_roundw
    case rel=>exact⟨k+1,by omega,by go_num,by trivial,HE⟩
    case measure=>simp[intOf];omega
   ·have hx:xt=t:=by simpa using hz
    have HE:=zH (E1.out hx);clear E1 E2;go_wp2;go_ret;exact⟨by rw[HE.out];rfl,by trivial⟩
  ·obtain rfl:k=is.length:=by omega
   have HE:Hid (L.PG t (dg a.I) (dg a.I).length=-1):=by rw[LL.out];exact hA.out
   go_wp2;go_ret;exact⟨by rw[HE.out];rfl,by trivial⟩
theorem PE(t:Int)(hf:fi t a.I=none):L.PG t (dg a.I) (dg a.I).length=-1:=L.XD (by rw[gZ,hf];rfl)
theorem JY{t:Int}{f:List Int}{n:Int}(hf:fi t a.I=some (f,n)):L.PG t (dg a.I) (dg a.I).length=(L.pos t (dg a.I):Int):=L.XC (n:=n) (by rw[gZ,hf];rfl)
theorem RL.PI(h:RL w G R vW vI a ws is){t:Int}{f:List Int}{n:Int}(hf:fi t a.I=some (f,n)):∃hp:L.pos t (dg a.I)<is.length,Mi w G (t,f,n) is[L.pos t (dg a.I)]:=by
 obtain ⟨h1,h2⟩:=WU hf;have hp:L.pos t (dg a.I)<is.length:=by rw[h.sS];exact h1
 have:=h.im.get _ h1 hp;rw[h2] at this;exact⟨hp,this⟩
theorem RL.head(h:RL w G R vW vI a ws is){x:Int × List Int}{r:List (Int × List Int)}(hW:a.W=x :: r):∃y ys g c,ws=y :: ys/\vW=.slice (some ⟨g,0,none⟩) ws.length c/\ws.length<=c/\w.cell? ⟨g,0,none⟩=some (.int .u64 x.1)/\w.cell? ⟨g,1,none⟩=some y.v/\w.cell? ⟨g,2,none⟩=some (.int .i64 0)/\w.cell? ⟨g,3,none⟩=some (.bool false)/\y.m=x.2.length/\Mi w G (x.1,x.2,0) y/\se w G (wl r) ys/\y=⟨x.1,y.p,x.2.length,y.c,0,false⟩:=by
 have hm:=h.wm;rw[hW] at hm;cases hw:ws with
 | nil=>rw[hw] at hm;exact hm.elim
 | cons y ys =>
  rw[hw] at hm;have hy:Mi w G (x.1,x.2,0) y:=hm.1;obtain ⟨p,c,e,hc,hp⟩:=iW h.wr;obtain ⟨g,rfl⟩:=hp (by rw[hw];simp);have hr:=h.wr;rw[e] at hr;have hk:0<ws.length:=by rw[hw];simp
  obtain ⟨x0,x1,x2,x3⟩:=qK hr hk;have e0:ws[0]=y:=by simp[hw]
  rw[e0] at x0 x1 x2 x3;refine⟨y,ys,g,c,rfl,by rw[<-hw];exact e,by rw[<-hw];exact hc,?_,by simpa using x1,?_,?_,hy.m,hy,hm.2,?_⟩
  ·have:=hy.t;rw[this] at x0;simpa using x0
  ·have:=hy.l;rw[this] at x2;simpa using x2
  ·have:=hy.b;rw[this] at x3;simpa using x3
  ·have h1:=hy.t;have h2:=hy.l;have h3:=hy.b;have h4:=hy.m;cases y;simp only at h1 h2 h3 h4;subst h1 h2 h4;simp[h3]
theorem RL.Vl(h:RL w G R vW vI a ws is)(hW:a.W=[]):ws=[]/\∃p c,vW=.slice p 0 c:=by
 have hl:=h.xA;rw[hW] at hl;have e:ws=[]:=aZ hl;obtain ⟨p,c,e2,_⟩:=iW h.wr;exact⟨e,p,c,by rw[e2,e];rfl⟩
theorem Um(h:RL w G R vW vI a ws is)(hW:a.W=[]):Calls prog 127 #[qp R] w fun e w'=>e=.returned (.bool false)/\∃m,w'=w.drewN m:=by
 obtain ⟨_,p,c,rfl⟩:=h.Vl hW;have c6:w.cell? ⟨R,6,none⟩=some (.slice p 0 c):=h.c 6;clear h;go_enter func127,ntmps127;go_wp2_with fail;go_quiet (fail);go_wp2;go_ret;exact⟨rfl,_,rfl⟩
theorem QE(h:RL w G R vW vI a ws is)(ok:a.Ok)(hN:a.next<=1000){x:Int × List Int}{r:List (Int × List Int)}(hW:a.W=x :: r):Calls prog 127 #[qp R] w fun e w'=>e=.returned (.bool a.fits)/\∃m,w'=w.drewN m:=by
 obtain ⟨y,ys,g,c,-,ev,yB,x0,x1,x2,x3,em,hm,-,-⟩:=h.head hW;have H:=zH h;have c6:w.cell? ⟨R,6,none⟩=some vW:=h.c 6;rw[ev] at c6;have c8:w.cell? ⟨R,8,none⟩=some (.int .i64 a.used):=h.c 8;have c1:w.cell? ⟨R,1,none⟩=some (.int .i64 a.lc):=h.c 1;obtain ⟨n1,n2,n3,n4,n5,n6⟩:=ok.zo;have hl:=ok.vQ x (by rw[hW];exact bS ..);have hmr:=ok.may.2.2.2.2.2.1;have hwl:ws.length<=1000:=by have:=h.xA;have:=ok.xA;omega
 have yu:0<ws.length:=by have:=h.xA;rw[hW] at this;rw[this];simp
 have HF:Hid (a.fits=decide (a.used+a.Fp+(x.2.length:Int)+1<=a.lc)):=by show _=_;simp[Ad.fits,hW]
 have y1:w.cell? ⟨g,1,none⟩=some (.slice y.p x.2.length y.c):=by rw[<-em];exact x1
 have i1:(0:Int)<(ws.length:Int):=by omega
 obtain ⟨l1,l2⟩:=hl;have l3:x.2.length<=16:=by omega
 clear h hm x0 x1 x2 x3 em hW hmr ev l2;generalize x.2.length=fl at *;generalize ws.length=wn at *;go_enter func127,ntmps127;go_wp2_with fail;go_quiet ((go_at_call 138;exact Calls.quiet_of (wu (H.out.drawn _) ok hN)));go_wp2;go_ret;refine⟨?_,_,rfl⟩;rw[HF.out];try rfl
theorem Bh(h:RL w G R vW vI a ws is)(ok:a.Ok)(hN:a.next<=1000):Calls prog 127 #[qp R] w fun e w'=>e=.returned (.bool a.fits)/\∃m,w'=w.drewN m:=by
 cases hW:a.W with
 | nil =>
  have e:a.fits=false:=by simp[Ad.fits,hW]
  rw[e];exact Um h hW
 | cons x r=>exact QE h ok hN hW
