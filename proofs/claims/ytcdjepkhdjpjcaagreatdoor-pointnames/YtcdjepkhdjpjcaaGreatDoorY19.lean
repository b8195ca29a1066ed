import Derived.Test.YtcdjepkhdjpjcaaGreatDoorY18
set_option maxHeartbeats 20000000
set_option maxRecDepth 100000
namespace Go.Proofs.YtcdjepkhdjpjcaaGreatDoor.E
open Go.Proofs.Tryz
open Go.RowKit
structure ElT (t e:TypeId) (size bytes:Nat):Prop where
 ut:prog.underlying t=some (.slice e)
 inf:∃i z,prog.info? e=some i∧i.zero=some z∧i.size=size∧i.bytes=bytes∧z.cells.size=size
 pos:0<size
 small:bytes≤100
section
variable {w w':World} {base:Nat} {t e:TypeId} {size bytes:Nat} {v:Value} {n:Nat} {xs:List Value}
theorem kept_grown (h:w.grownBy w' v.ownBlock):Kept (fun b=>v.ownBlock=some b) w w':=⟨h.os,h.tape,h.output,h.size,fun b hb hne=>h.block b hb fun e=>hne e.symm⟩
theorem own_typ (h:w.ownsRow base e size v n xs){b:Nat}(hb:v.ownBlock=some b):∃cur,w.heap[b]?=some (.cells cur e (0,0)):=by
 rcases h.2 with ⟨rfl,_⟩ | ⟨g,cap,cur,rfl,_,hg,_⟩
 ·cases hb
 ·cases hb;exact⟨cur,hg⟩
theorem own_keeps (h:w.ownsRow base e size v n xs)(hk:∀g,v.ownBlock=some g→w'.heap[g]?=w.heap[g]?):w'.ownsRow base e size v n xs:=by
 refine⟨h.1,?_⟩
 rcases h.2 with h | ⟨g,cap,cur,rfl,e2,e3,r⟩
 ·exact .inl h
 ·exact .inr ⟨g,cap,cur,rfl,e2,(hk g rfl).trans e3,r⟩
theorem own_later (h:w.ownsRow base e size v n xs)(hb:Below w.heap.size w w'):w'.ownsRow base e size v n xs:=own_keeps h fun g hg=>hb.block g (h.lt g hg).2
theorem own_far {S:Nat→Prop}(h:w.ownsRow base e size v n xs)(hk:Kept S w w')(hS:∀g,v.ownBlock=some g→¬S g):w'.ownsRow base e size v n xs:=own_keeps h fun g hg=>hk.block g (h.lt g hg).2 (hS g hg)
theorem own_form (h:w.ownsRow base e size v n xs):∃p c,v=.slice p n c∧n≤c∧(0<n→∃g,p=some ⟨g,0,none⟩):=by
 rcases h.2 with ⟨rfl,rfl⟩ | ⟨g,cap,cur,rfl,_,_,hcap,_⟩
 ·exact⟨_,_,rfl,Nat.le_refl _,fun h=>absurd h (Nat.lt_irrefl 0)⟩
 ·exact⟨_,_,rfl,hcap,fun _=>⟨g,rfl⟩⟩
theorem own_cell {g c:Nat}(h:w.ownsRow base e size (.slice (some ⟨g,0,none⟩) n c) n xs){j:Nat}{u:Value}(hj:xs[j]?=some u):w.cell? ⟨g,j,none⟩=some u:=by
 have:=h.cells (g:=g) rfl j u hj
 rw[Go.WideShapes.add_plain,Nat.zero_add] at this
 exact this
theorem own_free {g c:Nat}(h:w.ownsRow base e size (.slice (some ⟨g,0,none⟩) n c) n xs)(o:Nat):w.frozen? ⟨g,o,none⟩=false:=by
 obtain ⟨cur,hc⟩:=own_typ (b:=g) h rfl
 simp[World.frozen?,hc]
theorem own_set (h:w.ownsRow base e size v n xs){g:Nat}(hg:v.ownBlock=some g)(j:Nat)(u:Value):(w.setCell ⟨g,j,none⟩ u).ownsRow base e size v n (xs.set j u):=by
 refine⟨by rw[List.length_set];exact h.1,?_⟩
 rcases h.2 with ⟨rfl,_⟩ | ⟨g',cap,cur,rfl,hb,hg',hcap,hm,hs,ht⟩
 ·cases hg
 ·obtain rfl:g'=g:=by simpa [Value.ownBlock] using hg
  refine .inr ⟨g',cap,cur.setIfInBounds j u,rfl,hb,?_,hcap,hm,by simpa using hs,?_⟩
  ·rw[setCell_eq_setRow w g' j _ e (0,0) u hg']
   exact setRow_heap w g' _ _ e _ hg'
  ·rw[← ht]
   simp[List.take_set]
theorem run_own (E:ElT t e size bytes)(h:w.ownsRow base e size v n xs)(ty:TypeId)(a:Addr)(m c:Nat)(news:List Value)(hl:news.length=m*size)(hnews:∀j u,news[j]?=some u→w.cell? (a.add j)=some u)(h1:∀u∈news,u.oneCell'=true)(hn:n+m≤10000)(hb:base≤w.heap.size) :
  ∃v' w',(Builtin.append_ #[t,t] ty #[v,.slice (some a) m c]).run prog w=.ok v' w'∧w'.ownsRow base e size v' (n+m) (xs++news)∧Kept (fun b=>v.ownBlock=some b) w w'∧(v'.ownBlock=v.ownBlock∨v'.ownBlock=some w.heap.size):=by
 obtain ⟨i,z,hi,hz,hs,hby,hzs⟩:=E.inf
 have hml:10000≤maxLen:=by decide
 have hsm:=E.small
 obtain ⟨v',w',hr,h2,h3,_,h5⟩:=run_append_own_at w base t ty e i z size bytes E.ut hi hz hs hby hzs E.pos v n xs h a m c news hl hnews h1 (by omega) (by have:=Nat.mul_le_mul hn hsm;omega) hb
 exact⟨v',w',hr,h2,kept_grown h3,h5⟩
theorem wpList_own {ops:Array Oper}{rest:List Oper}{o:Oper}{A:Act}{Q:Exit→Act→World→Prop}(hgd:o.guard=none)(s x:Operand)(E:ElT t e size bytes)
  (ho:o.op=.call { callee:=.builtin .append,args:=#[s,x],argTypes:=#[t,t] }) (hs:A.eval s=v) (h:w.ownsRow base e size v n xs)
  (a:Addr) (m c:Nat) (news:List Value) (hx:A.eval x=.slice (some a) m c) (hl:news.length=m*size) (hnews:∀j u,news[j]?=some u→w.cell? (a.add j)=some u) (h1:∀u∈news,u.oneCell'=true) (hn:n+m≤10000) (hb:base≤w.heap.size)
  (hK:∀v' w',w'.ownsRow base e size v' (n+m) (xs++news)→Kept (fun b=>v.ownBlock=some b) w w'→(v'.ownBlock=v.ownBlock∨v'.ownBlock=some w.heap.size)→wpList prog ops Q rest (A.put o.dst v') w'):wpList prog ops Q (o :: rest) A w:=by
 refine wpList_plain hgd fun K hK'=>?_
 obtain ⟨v',w',hr,h2,h3,h4⟩:=run_own E h o.type a m c news hl hnews h1 hn hb
 unfold Oper.wp
 simp[execOp,ho,resolve,invoke,builtin,hs,hx,hr,Result.andThen]
 exact hK' _ _ (hK v' w' h2 h3 h4)
theorem step_own {ops:Array Oper}{o:Oper}{A:Act}{K:Act→World→Prop}{Q:Exit→Act→World→Prop}{F:Prop}(hgd:o.guard=none)(s x:Operand)(E:ElT t e size bytes)
  (ho:o.op=.call { callee:=.builtin .append,args:=#[s,x],argTypes:=#[t,t] }) (hs:A.eval s=v) (h:w.ownsRow base e size v n xs)
  (a:Addr) (m c:Nat) (news:List Value) (hx:A.eval x=.slice (some a) m c) (hl:news.length=m*size) (hnews:∀j u,news[j]?=some u→w.cell? (a.add j)=some u) (h1:∀u∈news,u.oneCell'=true) (hn:n+m≤10000) (hb:base≤w.heap.size)
  (hK:∀v' w',w'.ownsRow base e size v' (n+m) (xs++news)→Kept (fun b=>v.ownBlock=some b) w w'→(v'.ownBlock=v.ownBlock∨v'.ownBlock=some w.heap.size)→K (A.put o.dst v') w') :
  if Region.wanted o (yielded ops A.tmps)=true then Oper.wp prog o A w K Q else F:=by
 have hw:Region.wanted o (yielded ops A.tmps)=true:=by simp[Region.wanted,hgd]
 rw[if_pos hw]
 obtain ⟨v',w',hr,h2,h3,h4⟩:=run_own E h o.type a m c news hl hnews h1 hn hb
 unfold Oper.wp
 simp[execOp,ho,resolve,invoke,builtin,hs,hx,hr,Result.andThen]
 exact hK v' w' h2 h3 h4
theorem own_empty (w:World)(hb:base≤w.heap.size):(w.alloc (.cells #[] e)).ownsRow base e size (.slice (some ⟨w.heap.size,0,none⟩) 0 0) 0 []:=World.ownsRow_made w #[] 0 hb (Nat.zero_le _) (by simp)
theorem own_piece (h:w.ownsRow base e size v n xs){g:Nat}(hg:v.ownBlock=some g)(k l:Nat):∀j u,((xs.drop k).take l)[j]?=some u→w.cell? ((⟨g,k,none⟩:Addr).add j)=some u:=by
 intro j u hj
 have hc:=h.cells hg (k+j) u (by rw[List.getElem?_take] at hj;split at hj <;> simp_all)
 rw[Go.WideShapes.add_plain] at hc ⊢
 rw[Nat.zero_add] at hc
 exact hc
end
namespace L
open Go.Proofs.Tryz
def atv (t:Int)(L:List (Int × Int))(j:Nat):Int:=if pos t L<j then (pos t L:Int) else -1
theorem atv_zero (t:Int)(L:List (Int × Int)):atv t L 0=-1:=if_neg (by omega)
theorem atv_miss {t:Int}{L:List (Int × Int)}{j:Nat}(hj:j<L.length)(e:¬(L[j]).1=t):atv t L (j+1)=atv t L j:=by
 have hne:pos t L≠j:=fun e2=>by
  subst e2
  exact e (pos_fst t hj)
 unfold atv
 by_cases h:pos t L<j
 ·rw[if_pos (by omega),if_pos h]
 ·rw[if_neg (by omega),if_neg h]
theorem atv_none {t:Int}{L:List (Int × Int)}(h:look t L=none):atv t L L.length=-1:=if_neg (by rw[pos_none h];omega)
theorem atv_some {t n:Int}{L:List (Int × Int)}(h:look t L=some n):atv t L L.length=pos t L:=if_pos (pos_some h).1
theorem total_take {L:List (Int × Int)}{j:Nat}(hj:j<L.length):total (L.take (j+1))=total (L.take j)+(L[j]).2:=by
 rw[List.take_succ_eq_append_getElem hj]
 exact total_app _ _ _
theorem total_take_le {L:List (Int × Int)}(h:Fine L)(j:Nat):0≤total (L.take j)∧total (L.take j)≤total L:=by
 have hf:Fine (L.take j):=⟨fun x hx=>h.nonneg x (List.mem_of_mem_take hx),by rw[List.map_take];exact h.once.sublist (List.take_sublist _ _)⟩
 refine⟨total_nonneg hf,?_⟩
 have hd:Fine (L.drop j):=⟨fun x hx=>h.nonneg x (List.mem_of_mem_drop hx),by rw[List.map_drop];exact h.once.sublist (List.drop_sublist _ _)⟩
 have e:∀A B:List (Int × Int),total (A++B)=total A+total B:=by
  intro A B
  induction A with
  | nil=>simp[total]
  | cons x xs ih=>simp only[List.cons_append,total,ih];omega
 have h2:=e (L.take j) (L.drop j)
 rw[List.take_append_drop] at h2
 have:=total_nonneg hd
 omega
end L
section
variable {w w':World}
structure FR (we w:World) (base:Nat) (e:TypeId) (size:Nat) (v:Value) (n:Nat) (xs:List Value):Prop where
 own:w.ownsRow base e size v n xs
 below:Below we.heap.size we w
 new:∀g,v.ownBlock=some g→we.heap.size≤g
theorem FR.empty {we w:World}{base:Nat}(e:TypeId)(size:Nat)(hb:Below we.heap.size we w)(hB:base≤we.heap.size):FR we (w.alloc (.cells #[] e)) base e size (.slice (some ⟨w.heap.size,0,none⟩) 0 0) 0 [] :=
 ⟨own_empty w (Nat.le_trans hB hb.size),below_then hb (below_alloc w _),fun g hg=>by have:=hb.size;simp[Value.ownBlock] at hg;omega⟩
theorem FR.app {we w w':World}{base:Nat}{e:TypeId}{size:Nat}{v v':Value}{n n':Nat}{xs ys:List Value}(h:FR we w base e size v n xs)(ho:w'.ownsRow base e size v' n' ys)(hk:Kept (fun b=>v.ownBlock=some b) w w')(hv:v'.ownBlock=v.ownBlock∨v'.ownBlock=some w.heap.size):FR we w' base e size v' n' ys :=
 ⟨ho,hk.into h.below (fun b hb e=>by have:=h.new b e;omega) (Nat.le_refl _),fun g hg=>by
  rcases hv with e | e
  ·exact h.new g (e ▸ hg)
  ·rw[e] at hg;have:=h.below.size;simp at hg;omega⟩
theorem own_shape {base:Nat}{e:TypeId}{size:Nat}{v:Value}{n:Nat}{xs:List Value}(h:w.ownsRow base e size v n xs):∃p c,v=.slice p n c:=by
 obtain ⟨p,c,e1,_⟩:=own_form h
 exact⟨p,c,e1⟩
theorem ones_piece {xs:List Value}(h:∀u∈xs,u.oneCell'=true)(k l:Nat):∀u∈(xs.drop k).take l,u.oneCell'=true:=fun u hu=>h u (List.mem_of_mem_drop (List.mem_of_mem_take hu))
theorem own_piece2 {base:Nat}{e:TypeId}{size:Nat}{v:Value}{n:Nat}{xs:List Value}(h:w.ownsRow base e size v n xs){g:Nat}(hg:v.ownBlock=some g){ad:Addr}{k l:Nat}(ha:ad=⟨g,k,none⟩∨l=0):∀j u,((xs.drop k).take l)[j]?=some u→w.cell? (ad.add j)=some u:=by
 rcases ha with rfl | rfl
 ·exact own_piece h hg k l
 ·intro j u hj
  simp at hj
end
theorem info84:(prog.info? 224).map (fun i=>(i.zero,i.size,i.bytes))=some (some (.agg #[.int .u64 0,.slice none 0 0,.int .i64 0,.bool false]),4,48):=by kernel_rfl
theorem elW:ElT 215 224 4 48:=by
 obtain ⟨i0,hi,h0,h1,h2⟩:=info_parts info84
 exact⟨underlying215,⟨i0,_,hi,h0,h1,h2,rfl⟩,by decide,by decide⟩
section
variable {w w':World} {base base':Nat} {t e:TypeId} {size bytes:Nat} {v u:Value} {n m:Nat} {xs ys:List Value}
theorem run_own_any (E:ElT t e size bytes)(h:w.ownsRow base e size v n xs)(ty:TypeId)(hu:w.ownsRow base' e size u m ys)(h1:∀x∈ys,x.oneCell'=true)(hn:n+m≤10000)(hb:base≤w.heap.size) :
  ∃v' w',(Builtin.append_ #[t,t] ty #[v,u]).run prog w=.ok v' w'∧w'.ownsRow base e size v' (n+m) (xs++ys)∧Kept (fun b=>v.ownBlock=some b) w w'∧(v'.ownBlock=v.ownBlock∨v'.ownBlock=some w.heap.size):=by
 rcases hu.2 with ⟨rfl,rfl⟩ | ⟨g,cap,cur,rfl,_⟩
 ·obtain ⟨i,z,hi,hz,hs,hby,hzs⟩:=E.inf
  have e0:ys=[]:=List.eq_nil_of_length_eq_zero (by have:=hu.1;omega)
  refine⟨v,w,run_append_owned_none (P:=prog) (w:=w) base t ty e i size E.ut hi v n xs h,by rw[e0];simpa using h,Kept.refl _ _,.inl rfl⟩
 ·exact run_own E h ty ⟨g,0,none⟩ m cap ys hu.1 (fun j x hj=>hu.cells (g:=g) rfl j x hj) h1 hn hb
theorem wpList_own_any {ops:Array Oper}{rest:List Oper}{o:Oper}{A:Act}{Q:Exit→Act→World→Prop}(hgd:o.guard=none)(s x:Operand)(E:ElT t e size bytes)
  (ho:o.op=.call { callee:=.builtin .append,args:=#[s,x],argTypes:=#[t,t] }) (hs:A.eval s=v) (h:w.ownsRow base e size v n xs)
  (hx:A.eval x=u) (hu:w.ownsRow base' e size u m ys) (h1:∀x∈ys,x.oneCell'=true) (hn:n+m≤10000) (hb:base≤w.heap.size)
  (hK:∀v' w',w'.ownsRow base e size v' (n+m) (xs++ys)→Kept (fun b=>v.ownBlock=some b) w w'→(v'.ownBlock=v.ownBlock∨v'.ownBlock=some w.heap.size)→wpList prog ops Q rest (A.put o.dst v') w'):wpList prog ops Q (o :: rest) A w:=by
 refine wpList_plain hgd fun K hK'=>?_
 obtain ⟨v',w',hr,h2,h3,h4⟩:=run_own_any E h o.type hu h1 hn hb
 unfold Oper.wp
 simp[execOp,ho,resolve,invoke,builtin,hs,hx,hr,Result.andThen]
 exact hK' _ _ (hK v' w' h2 h3 h4)
theorem step_own_any {ops:Array Oper}{o:Oper}{A:Act}{K:Act→World→Prop}{Q:Exit→Act→World→Prop}{F:Prop}(hgd:o.guard=none)(s x:Operand)(E:ElT t e size bytes)
  (ho:o.op=.call { callee:=.builtin .append,args:=#[s,x],argTypes:=#[t,t] }) (hs:A.eval s=v) (h:w.ownsRow base e size v n xs)
  (hx:A.eval x=u) (hu:w.ownsRow base' e size u m ys) (h1:∀x∈ys,x.oneCell'=true) (hn:n+m≤10000) (hb:base≤w.heap.size)
  (hK:∀v' w',w'.ownsRow base e size v' (n+m) (xs++ys)→Kept (fun b=>v.ownBlock=some b) w w'→(v'.ownBlock=v.ownBlock∨v'.ownBlock=some w.heap.size)→K (A.put o.dst v') w') :
  if Region.wanted o (yielded ops A.tmps)=true then Oper.wp prog o A w K Q else F:=by
 have hw:Region.wanted o (yielded ops A.tmps)=true:=by simp[Region.wanted,hgd]
 rw[if_pos hw]
 obtain ⟨v',w',hr,h2,h3,h4⟩:=run_own_any E h o.type hu h1 hn hb
 unfold Oper.wp
 simp[execOp,ho,resolve,invoke,builtin,hs,hx,hr,Result.andThen]
 exact hK v' w' h2 h3 h4
theorem blk_own (v:Value):blk v=v.ownBlock:=by
 cases v with
 | slice p n c=>cases p <;> rfl
 | _=>rfl
theorem own_one {cs:List Value}(w:World)(hl:cs.length=1*size)(hb:base≤w.heap.size):(w.alloc (.cells cs.toArray e)).ownsRow base e size (.slice (some ⟨w.heap.size,0,none⟩) 1 1) 1 cs :=
 ⟨hl,.inr ⟨w.heap.size,1,cs.toArray,rfl,hb,heap_alloc_new w _,Nat.le_refl _,by decide,by simpa using hl,by simp[hl.symm]⟩⟩
end
end Go.Proofs.YtcdjepkhdjpjcaaGreatDoor.E
namespace Go.Proofs.YtcdjepkhdjpjcaaGreatDoor.E
open Go.RowKit
structure Who where
 t:Int
 p:Option Addr
 m:Nat
 c:Nat
 l:Int
 b:Bool
abbrev Who.v (x:Who):Value:=.slice x.p x.m x.c
def Who.cs (x:Who):List Value:=[.int .u64 x.t,.slice x.p x.m x.c,.int .i64 x.l,.bool x.b]
def hcells (ps:List Who):List Value:=ps.flatMap Who.cs
theorem hcells_app (ps qs:List Who):hcells (ps++qs)=hcells ps++hcells qs:=List.flatMap_append
theorem hcells_cons (p:Who)(ps:List Who):hcells (p :: ps)=p.cs++hcells ps:=rfl
theorem hcells_one (p:Who):hcells [p]=p.cs:=by simp[hcells]
theorem hcells_len (ps:List Who):(hcells ps).length=ps.length*4:=by
 induction ps with
 | nil=>rfl
 | cons x xs ih=>rw[hcells_cons,List.length_append,ih];simp only[Who.cs,List.length_cons,List.length_nil];omega
theorem hcells_at:∀(ps:List Who) (k:Nat) (hk:k<ps.length) (j:Nat),j<4→(hcells ps)[k*4+j]?=(ps[k]).cs[j]?
 | [],k,hk,_,_=>by simp at hk
 | x :: xs,0,_,j,hj=>by rw[hcells_cons,List.getElem?_append_left (by simp[Who.cs];omega)];simp
 | x :: xs,k+1,hk,j,hj=>by
  have h:=hcells_at xs k (by simpa using hk) j hj
  rw[hcells_cons,List.getElem?_append_right (by simp[Who.cs];omega)]
  have e:(k+1)*4+j-x.cs.length=k*4+j:=by simp only[Who.cs,List.length_cons,List.length_nil];omega
  rw[e,h]
  rfl
theorem hcells_take (ps:List Who):∀k,(hcells ps).take (k*4)=hcells (ps.take k):=by
 induction ps with
 | nil=>intro k;simp[hcells]
 | cons x xs ih =>
  intro k
  cases k with
  | zero=>simp[hcells]
  | succ k =>
   have e:(k+1)*4=k*4+4:=by omega
   rw[hcells_cons,List.take_succ_cons,hcells_cons,e]
   simp[Who.cs,ih]
theorem hcells_drop (ps:List Who):∀k,(hcells ps).drop (k*4)=hcells (ps.drop k):=by
 induction ps with
 | nil=>intro k;simp[hcells]
 | cons x xs ih =>
  intro k
  cases k with
  | zero=>simp
  | succ k =>
   have e:(k+1)*4=k*4+4:=by omega
   rw[hcells_cons,List.drop_succ_cons,e]
   simp[Who.cs,ih]
theorem hcells_set:∀(ps:List Who) (k:Nat) (hk:k<ps.length) (x:Int) (b:Bool),((hcells ps).set (k*4+2) (.int .i64 x)).set (k*4+3) (.bool b)=hcells (ps.set k { ps[k] with l:=x,b:=b })
 | [],k,hk,_,_=>by simp at hk
 | p :: qs,0,_,x,b=>by simp[hcells,Who.cs]
 | p :: qs,k+1,hk,x,b=>by
  have ih:=hcells_set qs k (by simpa using hk) x b
  have e:(k+1)*4+2=(k*4+2)+4:=by omega
  have e':(k+1)*4+3=(k*4+3)+4:=by omega
  rw[hcells_cons,e,e']
  simp only[Who.cs,List.cons_append,List.nil_append,zC,List.getElem_cons_succ,hcells_cons,← ih]
theorem ones_h (ps:List Who):∀u∈hcells ps,u.oneCell'=true:=by
 intro u hu
 obtain ⟨p,_,hp⟩:=List.mem_flatMap.1 hu
 simp only[Who.cs,List.mem_cons,List.not_mem_nil,or_false] at hp
 rcases hp with rfl | rfl | rfl | rfl <;> rfl
structure Mi (w:World) (G:Nat→Prop) (x:Int × List Int × Int) (y:Who):Prop where
 t:y.t=x.1
 f:Frm w y.v x.2.1
 g:∀g,blk y.v=some g→G g
 l:y.l=x.2.2
 b:y.b=decide (x.2.2≠0∧x.2.2<(x.2.1.length:Int)+1)
def Mis (w:World)(G:Nat→Prop):List (Int × List Int × Int)→List Who→Prop
 | [],[]=>True
 | x :: xs,y :: ys=>Mi w G x y∧Mis w G xs ys
 | _,_=>False
section
variable {w w':World} {G:Nat→Prop}
theorem Mi.m {x:Int × List Int × Int}{y:Who}(h:Mi w G x y):y.m=x.2.1.length:=by
 obtain ⟨p,c,e,_⟩:=h.f.read
 simp only[Value.slice.injEq] at e
 exact e.2.1
theorem Mis.len:∀{xs ys},Mis w G xs ys→ys.length=xs.length
 | [],[],_=>rfl
 | _ :: _,_ :: _,h=>by simp[Mis.len h.2]
 | [],_ :: _,h=>h.elim
 | _ :: _,[],h=>h.elim
theorem Mis.get:∀{xs ys},Mis w G xs ys→∀(k:Nat) (h1:k<xs.length) (h2:k<ys.length),Mi w G xs[k] ys[k]
 | _ :: _,_ :: _,h,0,_,_=>h.1
 | _ :: _,_ :: _,h,k+1,h1,h2=>Mis.get h.2 k (by simpa using h1) (by simpa using h2)
theorem Mis.app:∀{xs ys},Mis w G xs ys→∀{x y},Mi w G x y→Mis w G (xs++[x]) (ys++[y])
 | [],[],_,_,_,h=>⟨h,trivial⟩
 | _ :: _,_ :: _,h,_,_,h'=>⟨h.1,Mis.app h.2 h'⟩
 | [],_ :: _,h,_,_,_=>h.elim
 | _ :: _,[],h,_,_,_=>h.elim
theorem Mis.map {w':World}{G':Nat→Prop}(hf:∀x y,Mi w G x y→Mi w' G' x y):∀{xs ys},Mis w G xs ys→Mis w' G' xs ys
 | [],[],_=>trivial
 | _ :: _,_ :: _,h=>⟨hf _ _ h.1,Mis.map hf h.2⟩
 | [],_ :: _,h=>h.elim
 | _ :: _,[],h=>h.elim
theorem Mis.cut:∀{xs ys},Mis w G xs ys→∀k,Mis w G (xs.take k++xs.drop (k+1)) (ys.take k++ys.drop (k+1))
 | [],[],_,_=>by simp[Mis]
 | _ :: _,_ :: _,h,0=>by simpa using h.2
 | _ :: _,_ :: _,h,k+1=>⟨h.1,Mis.cut h.2 k⟩
 | [],_ :: _,h,_=>h.elim
 | _ :: _,[],h,_=>h.elim
theorem Mis.set:∀{xs ys},Mis w G xs ys→∀(k:Nat) {x y},Mi w G x y→Mis w G (xs.set k x) (ys.set k y)
 | [],[],_,_,_,_,_=>by simp[Mis]
 | _ :: _,_ :: _,h,0,_,_,h'=>⟨h',h.2⟩
 | _ :: _,_ :: _,h,k+1,_,_,h'=>⟨h.1,Mis.set h.2 k h'⟩
 | [],_ :: _,h,_,_,_,_=>h.elim
 | _ :: _,[],h,_,_,_,_=>h.elim
end
def wl (W:List (Int × List Int)):List (Int × List Int × Int):=W.map fun x=>(x.1,x.2,0)
theorem cutI_pos (t:Int):∀I:List (Int × List Int × Int),cutI t I=I.take (L.pos t (lefts I))++I.drop (L.pos t (lefts I)+1)
 | []=>rfl
 | x :: xs=>by
  by_cases e:x.1=t
  ·simp[cutI,L.pos,lefts,e]
  ·have:=cutI_pos t xs
   simp only[lefts] at this
   simp[cutI,L.pos,lefts,e,this]
theorem decI_pos {t:Int}:∀{I:List (Int × List Int × Int)} {f:List Int} {n:Int},fi t I=some (f,n)→decI t I=I.set (L.pos t (lefts I)) (t,f,n-1)
 | [],_,_,h=>by simp[fi] at h
 | x :: xs,f,n,h=>by
  by_cases e:x.1=t
  ·simp only[fi,if_pos e,Option.some.injEq] at h
   simp[decI,L.pos,lefts,e,h]
  ·simp only[fi,if_neg e] at h
   have:=decI_pos h
   simp only[lefts] at this
   simp[decI,L.pos,lefts,e,this]
theorem fi_pos {t:Int}:∀{I:List (Int × List Int × Int)} {f:List Int} {n:Int},fi t I=some (f,n)→∃h:L.pos t (lefts I)<I.length,I[L.pos t (lefts I)]=(t,f,n)
 | [],_,_,h=>by simp[fi] at h
 | x :: xs,f,n,h=>by
  by_cases e:x.1=t
  ·simp only[fi,if_pos e,Option.some.injEq] at h
   refine⟨by simp[L.pos,lefts,e],?_⟩
   simp[L.pos,lefts,e]
   rw[← e,← h]
  ·simp only[fi,if_neg e] at h
   obtain ⟨h1,h2⟩:=fi_pos h
   simp only[lefts] at h1 h2
   have ep:L.pos t (lefts (x :: xs))=L.pos t (xs.map fun x=>(x.1,x.2.2))+1:=by simp[L.pos,lefts,e]
   refine⟨by rw[ep];simpa using h1,?_⟩
   simp only[ep,List.getElem_cons_succ]
   exact h2
theorem lefts_len (I:List (Int × List Int × Int)):(lefts I).length=I.length:=by simp[lefts]
abbrev rcells (a:Ad)(vW vI:Value):Array Value:=#[.int .i64 a.bl,.int .i64 a.lc,.int .i64 a.mr,.int .i64 a.hi,.int .i64 a.cl,.int .u64 a.next,vW,vI,.int .i64 a.used]
structure RR (w:World) (G:Nat→Prop) (v:Value) (xs:List (Int × List Int × Int)) (ps:List Who):Prop where
 row:w.ownsRow 0 224 4 v ps.length (hcells ps)
 mi:Mis w G xs ps
 g:∀g,v.ownBlock=some g→G g
structure RL (w:World) (G:Nat→Prop) (R:Nat) (vW vI:Value) (a:Ad) (ws is:List Who):Prop where
 st:w.heap[R]?=some (.cells (rcells a vW vI) 217 (0,0))
 W:RR w G vW (wl a.W) ws
 I:RR w G vI a.I is
section
variable {w w':World} {G G':Nat→Prop} {R:Nat} {v vW vI:Value} {a:Ad} {ws is ps:List Who} {xs:List (Int × List Int × Int)}
theorem RL.wr (h:RL w G R vW vI a ws is):w.ownsRow 0 224 4 vW ws.length (hcells ws):=h.W.row
theorem RL.ir (h:RL w G R vW vI a ws is):w.ownsRow 0 224 4 vI is.length (hcells is):=h.I.row
theorem RL.wm (h:RL w G R vW vI a ws is):Mis w G (wl a.W) ws:=h.W.mi
theorem RL.im (h:RL w G R vW vI a ws is):Mis w G a.I is:=h.I.mi
theorem RL.lt (h:RL w G R vW vI a ws is):R<w.heap.size:=(Array.getElem?_eq_some_iff.1 h.st).1
theorem Frm.keeps {v:Value}{f:List Int}(h:Frm w v f)(hk:∀g,blk v=some g→w'.heap[g]?=w.heap[g]?):Frm w' v f:=own_keeps h fun g hg=>hk g (by rw[blk_own];exact hg)
theorem Frm.lt {v:Value}{f:List Int}(h:Frm w v f){g:Nat}(hg:blk v=some g):g<w.heap.size:=by rw[blk_own] at hg;exact (World.ownsRow.lt h g hg).2
theorem Mi.kept {x:Int × List Int × Int}{y:Who}(m:Mi w G x y)(hG:∀g,G g→g<w.heap.size→w'.heap[g]?=w.heap[g]?)(hGG:∀g,G g→G' g):Mi w' G' x y :=
 ⟨m.t,m.f.keeps fun g hg=>hG g (m.g g hg) (m.f.lt hg),fun g hg=>hGG g (m.g g hg),m.l,m.b⟩
theorem RR.kept (h:RR w G v xs ps)(hG:∀g,G g→g<w.heap.size→w'.heap[g]?=w.heap[g]?)(hGG:∀g,G g→G' g):RR w' G' v xs ps :=
 ⟨own_keeps h.row fun g hg=>hG g (h.g g hg) (h.row.lt g hg).2,h.mi.map fun _ _ m=>m.kept hG hGG,fun g hg=>hGG g (h.g g hg)⟩
theorem RL.kept (h:RL w G R vW vI a ws is)(hR:w'.heap[R]?=w.heap[R]?)(hG:∀g,G g→g<w.heap.size→w'.heap[g]?=w.heap[g]?)(hGG:∀g,G g→G' g):RL w' G' R vW vI a ws is:=⟨hR.trans h.st,h.W.kept hG hGG,h.I.kept hG hGG⟩
theorem RL.later (h:RL w G R vW vI a ws is)(hb:Below w.heap.size w w'):RL w' G R vW vI a ws is:=h.kept (hb.block R h.lt) (fun g _ hg=>hb.block g hg) (fun _ hg=>hg)
theorem RL.drawn (h:RL w G R vW vI a ws is)(m:Nat):RL (w.drewN m) G R vW vI a ws is:=h.later (below_drawn m)
theorem RL.c (h:RL w G R vW vI a ws is)(o:Nat):w.cell? ⟨R,o,none⟩=(rcells a vW vI)[o]?:=cell_of_row _ R o _ 217 (0,0) h.st
theorem RL.free (h:RL w G R vW vI a ws is)(o:Nat):w.frozen? ⟨R,o,none⟩=false:=by simp[World.frozen?,h.st]
def Gp (w w':World)(G:Nat→Prop)(g:Nat):Prop:=G g∨(w.heap.size≤g∧g<w'.heap.size)
theorem Mis.turn (h:Mis w G xs ps)(hR:¬G R)(hk:Kept (·=R) w w'):Mis w' (Gp w w' G) xs ps:=h.map fun _ _ m=>m.kept (fun g hg hl=>hk.block g hl fun e=>hR (e ▸ hg)) fun _ hg=>.inl hg
theorem RR.turn (h:RR w G v xs ps)(hR:¬G R)(hk:Kept (·=R) w w'):RR w' (Gp w w' G) v xs ps:=h.kept (fun g hg hl=>hk.block g hl fun e=>hR (e ▸ hg)) fun _ hg=>.inl hg
theorem RR.fresh (ho:w'.ownsRow 0 224 4 v ps.length (hcells ps))(hm:Mis w' (Gp w w' G) xs ps)(hv:∀g,v.ownBlock=some g→w.heap.size≤g):RR w' (Gp w w' G) v xs ps:=⟨ho,hm,fun g hg=>.inr ⟨hv g hg,(ho.lt g hg).2⟩⟩
structure RAf (w w':World) (G:Nat→Prop) (R:Nat) (a':Ad):Prop where
 rl:∃vW vI ws is,RL w' (Gp w w' G) R vW vI a' ws is
 kept:Kept (·=R) w w'
theorem RAf.same (h:RL w G R vW vI a ws is)(hb:Below w.heap.size w w'):RAf w w' G R a:=⟨⟨vW,vI,ws,is,h.kept (hb.block R h.lt) (fun g _ hg=>hb.block g hg) (fun _ hg=>.inl hg)⟩,Kept.of_below _ hb⟩
theorem hrow_cell {g c n:Nat}{ps:List Who}(h:w.ownsRow 0 224 4 (.slice (some ⟨g,0,none⟩) n c) n (hcells ps)){k:Nat}(hk:k<ps.length):w.cell? ⟨g,k*4,none⟩=some (.int .u64 ps[k].t)∧w.cell? ⟨g,k*4+1,none⟩=some ps[k].v∧w.cell? ⟨g,k*4+2,none⟩=some (.int .i64 ps[k].l)∧w.cell? ⟨g,k*4+3,none⟩=some (.bool ps[k].b):=by
 have h0:=hcells_at ps k hk 0 (by omega)
 have h1:=hcells_at ps k hk 1 (by omega)
 have h2:=hcells_at ps k hk 2 (by omega)
 have h3:=hcells_at ps k hk 3 (by omega)
 exact⟨own_cell h h0,own_cell h h1,own_cell h h2,own_cell h h3⟩
theorem RL.wlen (h:RL w G R vW vI a ws is):ws.length=a.W.length:=by rw[h.wm.len];simp[wl]
theorem RL.ilen (h:RL w G R vW vI a ws is):is.length=a.I.length:=h.im.len
theorem RL.left (h:RL w G R vW vI a ws is){k:Nat}(hk:k<is.length):∃hk':k<(lefts a.I).length,(lefts a.I)[k]=(is[k].t,is[k].l):=by
 have h1:k<a.I.length:=by rw[← h.ilen];exact hk
 have hm:=h.im.get k h1 hk
 exact⟨by rw[lefts_len];exact h1,by simp only[lefts,List.getElem_map];rw[← hm.t,← hm.l]⟩
end
open Go.Proofs.Tryz
section
variable {w w':World} {F:Ft} {n:Nat} {a:Ad}
theorem PL.begun2 {w2 w3 w4 w5:World}{f:List Int}{q:Option Addr}{d:Nat}{v':Value}{M:Int→Option Value}(h:PL w F n a)(N:Ne F)(hb2:Below w.heap.size w w2)(hfr:Frm w2 (.slice q f.length d) f)(hM:VMp w2 F.mb n M∧(∀t v,M t=some v→∃p n c,v=.slice p n c)∧∀x∈a.fl,∃v,M x.1=some v∧Frm w2 v x.2∧∀g,blk v=some g→F.G g)
  (hw3:w3=w2.setCell ⟨F.Q,5,none⟩ (.int .u64 (a.next+1))) (hQ:QAt 211 w4 F.q1 v' (wt a.W++[a.next]) a.next) (hk4:Kept (fun b=>b=F.q1∨blk F.v1=some b) w3 w4) (hv:blk v'=blk F.v1∨∃g,blk v'=some g∧w.heap.size≤g)
  (hm5:VMp w5 F.mb (n+1) (fun u=>if u=a.next then some (.slice q f.length d) else M u)) (hk5:Kept (·=F.mb) w4 w5) (ok:({ a with next:=a.next+1,W:=a.W++[(a.next,f)] }:Ad).Ok) :
  PL w5 { F with v1:=v',G:=fun b=>F.G b∨blk (.slice q f.length d)=some b } (n+1) { a with next:=a.next+1,W:=a.W++[(a.next,f)] }∧Kept F.has w w5∧Frm w5 (.slice q f.length d) f:=by
 have h2:=h.later hb2
 have hk3:Kept (·=F.Q) w2 w3:=by rw[hw3];exact Kept.setCell F.Q 5 _
 have hlt:∀b,F.has b→b<w.heap.size:=fun b hb=>h.lt hb
 have hnew:∀g,w.heap.size≤g→¬F.has g:=fun g hg hb=>by have:=hlt g hb;omega
 have hst3:w3.heap[F.Q]?=some (.cells (lcells F { a with next:=a.next+1,W:=a.W++[(a.next,f)] }) 115 (0,0)):=by
  rw[hw3,L.st_set 5 _ h2.st];rfl
 have hv1n:∀b,blk v'=some b→blk F.v1=some b∨w.heap.size≤b:=fun b hb=>by
  rcases hv with e | ⟨g,e,hg⟩
  ·rw[e] at hb;exact .inl hb
  ·rw[e] at hb;cases hb;exact .inr hg
 have hv1x:∀b,blk v'=some b→b≠F.q2∧b≠F.mb∧b≠F.lb∧b≠F.lm∧b≠F.Q∧¬blk F.v2=some b:=fun b hb=>by
  rcases hv1n b hb with e | e
  ·have:=N.v1 b e;exact⟨this.2.2.1,this.2.2.2.1,this.2.2.2.2.1,this.2.2.2.2.2,this.1,N.v12 b e⟩
  ·have:=hnew b e;simp only[Ft.has,not_or] at this;exact⟨this.2.2.1,this.2.2.2.2.2.1,this.2.2.2.2.2.2.1,this.2.2.2.2.2.2.2,this.1,this.2.2.2.2.1⟩
 have kAll:Kept F.has w2 w5:=((hk3.wider (T:=F.has) (fun x _ e=>.inl e)).trans hk4 (fun x _ e=>by rcases e with e | e;exact .inr (.inl e);exact .inr (.inr (.inr (.inl e))))).trans hk5 (fun x _ e=>.inr (.inr (.inr (.inr (.inr (.inl e))))))
 have s3:=hk3.size
 have s4:=hk4.size
 refine⟨⟨?_,?_,?_,?_,?_,ok,h.q12,fun g hg=>(hv1x g hg).2.2.2.2.2,h.mm⟩,(Kept.of_below _ hb2).trans kAll (fun _ _ e=>e),hfr.far kAll (fun g _ hg=>h2.noInts hg)⟩
 ·exact (hk5.block _ (by have:=h2.lt (.inl rfl);omega) N.Qm).trans ((hk4.block _ (by have:=h2.lt (.inl rfl);omega) (by rintro (e | e);exact N.Qq1 e;exact (N.v1 _ e).1 rfl)).trans hst3)
 ·show QAt _ _ _ _ (wt (a.W++[(a.next,f)])) (a.next+1-1)
  have e1:wt (a.W++[(a.next,f)])=wt a.W++[a.next]:=by simp[wt]
  have e2:a.next+1-1=a.next:=by omega
  rw[e1,e2]
  exact hQ.far hk5 N.q1m (fun g hg=>(hv1x g hg).2.1)
 ·exact ((h2.l2.far hk3 (Ne.symm N.Qq2) (fun g hg=>(N.v2 g hg).1)).far hk4 (by rintro (e | e);exact N.q12 e.symm;exact (N.v1 _ e).2.2.1 rfl) (fun g hg=>by rintro (e | e);exact (N.v2 g hg).2.1 e;exact N.v12 g e hg)).far hk5 N.q2m (fun g hg=>(N.v2 g hg).2.2.2.1)
 ·refine⟨_,hm5,fun t v hv=>?_,fun x hx=>?_⟩
  ·by_cases e:t=a.next
   ·rw[if_pos e] at hv;cases hv;exact⟨_,_,_,rfl⟩
   ·rw[if_neg e] at hv;exact hM.2.1 t v hv
  ·have hx':x∈a.fl∨x=(a.next,f):=by
    simp only[Ad.fl,List.mem_append,List.mem_singleton] at hx ⊢
    rcases hx with (hx | hx) | hx
    ·exact .inl (.inl hx)
    ·exact .inr hx
    ·exact .inl (.inr hx)
   rcases hx' with hx' | rfl
   ·have hne:x.1≠a.next:=by
     simp only[Ad.fl,List.mem_append] at hx'
     rcases hx' with hx' | hx'
     ·have:=h.ok.win x hx';omega
     ·obtain ⟨y,hy,rfl⟩:=List.mem_map.1 hx'
      have:=h.ok.iin y hy
      have:=h.ok.gotN
      show y.1≠a.next
      omega
    obtain ⟨v,hv,hf,hG⟩:=hM.2.2 x hx'
    exact⟨v,by rw[if_neg hne];exact hv,hf.far kAll (fun g _ hg=>h2.noInts hg),fun g hg=>.inl (hG g hg)⟩
   ·exact⟨_,if_pos rfl,hfr.far kAll (fun g _ hg=>h2.noInts hg),fun g hg=>.inr hg⟩
 ·refine ((h2.rm.kept (hk3.block _ h2.rm.lt (Ne.symm N.Ql)) (hk3.block _ h2.rm.mp.lt (Ne.symm N.Qn))).kept (hk4.block _ (by have:=h2.rm.lt;omega) (by rintro (e | e);exact N.q1l e.symm;exact (N.v1 _ e).2.2.2.2.1 rfl)) (hk4.block _ (by have:=h2.rm.mp.lt;omega) (by rintro (e | e);exact N.q1n e.symm;exact (N.v1 _ e).2.2.2.2.2 rfl))).kept (hk5.block _ (by have:=h2.rm.lt;omega) (Ne.symm N.ml)) (hk5.block _ (by have:=h2.rm.mp.lt;omega) (Ne.symm N.mn)) |>.mono (Nat.le_succ _)
theorem begin2_ok (h:PL w F n a)(hn:n<10000)(hN:a.next≤1000){p:Option Addr}{m c:Nat}{xs f:List Int}(hI:B.IIn w p m xs)(hm:m+80≤17592186044416)(hf:B.formS xs a.bl a.mr=(f,0))(hfl:f.length≤16)(ok:({ a with next:=a.next+1,W:=a.W++[(a.next,f)] }:Ad).Ok) :
  Calls prog 37 #[qp F.Q,.slice p m c] w fun e w'=>∃q d v' fv,e=.returned (.tuple #[.int .u64 a.next,.slice q f.length d,.int .i64 0])∧(∃s,w'.ownsRow s 3 1 (.slice q f.length d) f.length (B.I64 f)∧w.heap.size≤s∧Frm w' fv f∧∀g,blk fv=some g→w.heap.size≤g∧g<s)∧PL w' { F with v1:=v',G:=fun b=>F.G b∨blk fv=some b } (n+1) { a with next:=a.next+1,W:=a.W++[(a.next,f)] }∧(blk v'=blk F.v1∨∃g,blk v'=some g∧w.heap.size≤g)∧Kept F.has w w':=by
 have HI:Hid (B.IIn w.drew p m xs):=⟨hI.len,hI.cells⟩
 have HF:Hid (B.formS xs a.bl a.mr=(f,0)):=hf
 have c0:w.drew.cell? ⟨F.Q,0,none⟩=some (.int .i64 a.bl):=h.c 0
 have c2:w.drew.cell? ⟨F.Q,2,none⟩=some (.int .i64 a.mr):=h.c 2
 have H:Hid (PL w F n a):=h
 have N:Hid (Ne F):=h.ne
 have HO:Hid (({ a with next:=a.next+1,W:=a.W++[(a.next,f)] }:Ad).Ok):=ok
 have hx0:1≤a.next:=by have:=h.ok.gotN;have:=h.ok.got0;omega
 have hwl:(wt a.W).length≤1000:=by have:=h.ok.wlen;simp only[wt,List.length_map];omega
 have hw:IntKind.u64.wrap (a.next+1)=a.next+1:=by rw[IntKind.wrap_u64];omega
 clear hI hf h ok
 go_enter func37,ntmps37
 go_wp2_with fail
 go_region_with (go_at_call 85;refine (B.form_is p m c xs a.bl a.mr f 0 HF.out w.drew (by omega) HI.out).mono ?_;rintro e w2 ⟨q,d,rfl,hmade⟩;have HB:Hid (B.Made w.drew w2 q f.length d f):=hmade;clear hmade)
 all_goals (
  have hb2:Hid (Below w.heap.size w w2):=below_then (below_drew w) HB.out.below
  have hP2:Hid (PL w2 F n a):=H.out.later hb2.out
  have hfr:Hid (Frm w2 (.slice q f.length d) f):=Frm.of_made HB.out
  have c5:w2.cell? ⟨F.Q,5,none⟩=some (.int .u64 a.next):=hP2.out.c 5
  have f5:w2.frozen? ⟨F.Q,5,none⟩=false:=hP2.out.free 5
  have hst3:Hid ((w2.setCell ⟨F.Q,5,none⟩ (.int .u64 (a.next+1))).heap[F.Q]?=some (.cells (lcells F { a with next:=a.next+1,W:=a.W++[(a.next,f)] }) 115 (0,0))):=by
   show _=_
   rw[L.st_set 5 _ hP2.out.st];rfl
  have hQ3:Hid (QAt 211 (w2.setCell ⟨F.Q,5,none⟩ (.int .u64 (a.next+1))) F.q1 F.v1 (wt a.W) (a.next-1)):=hP2.out.l1.far (Kept.setCell F.Q 5 _) (Ne.symm N.out.Qq1) (fun g hg=>(N.out.v1 g hg).1)
  have d6:(w2.setCell ⟨F.Q,5,none⟩ (.int .u64 (a.next+1))).cell? ⟨F.Q,6,none⟩=some (qp F.q1):=cell_of_row _ F.Q 6 _ 115 (0,0) hst3.out
  go_wp2_with fail
  clear c5 f5 d6
  obtain ⟨w3,hw3⟩:∃x,w2.setCell ⟨F.Q,5,none⟩ (.int .u64 (a.next+1))=x:=⟨_,rfl⟩
  have HW3:Hid (w3=w2.setCell ⟨F.Q,5,none⟩ (.int .u64 (a.next+1))):=hw3.symm
  rw[hw3] at hst3 hQ3 ⊢
  clear hw3
  refine (put_high hQ3.out a.next (by omega) (by omega)).mono ?_
  rintro e w4 ⟨rfl,v',h1,h2,h3⟩
  have HP4:Hid (QAt 211 w4 F.q1 v' (wt a.W++[a.next]) a.next∧Kept (fun b=>b=F.q1∨blk F.v1=some b) w3 w4∧(blk v'=blk F.v1∨∃g,blk v'=some g∧w3.heap.size≤g)):=⟨h1,h2,h3⟩
  clear h1 h2 h3
  obtain ⟨M,hm1,hm2,hm3⟩:=hP2.out.fm
  have HM:Hid (VMp w2 F.mb n M∧(∀t v,M t=some v→∃p n c,v=.slice p n c)∧∀x∈a.fl,∃v,M x.1=some v∧Frm w2 v x.2∧∀g,blk v=some g→F.G g):=⟨hm1,hm2,hm3⟩
  have hk3:Hid (Kept (·=F.Q) w2 w3):=by rw[HW3.out];exact Kept.setCell F.Q 5 _
  have hQlt:Hid (F.Q<w3.heap.size):=(Array.getElem?_eq_some_iff.1 hst3.out).1
  have hm4:VMp w4 F.mb n M:=(hm1.kept (hk3.out.block _ hm1.lt (Ne.symm N.out.Qm))).kept (HP4.out.2.1.block _ (by have:=hk3.out.size;have:=hm1.lt;omega) (by rintro (e | e);exact N.out.q1m e.symm;exact (N.out.v1 _ e).2.2.2.1 rfl))
  have d8:w4.cell? ⟨F.Q,8,none⟩=some (.map (some F.mb)):=(World.cell?_of_block (w:=w3) (a:=⟨F.Q,8,none⟩) (HP4.out.2.1.block _ hQlt.out (by rintro (e | e);exact N.out.Qq1 e;exact (N.out.v1 _ e).1 rfl))).trans (cell_of_row _ F.Q 8 _ 115 (0,0) hst3.out)
  obtain ⟨w5,hrun,hm5,hk5⟩:=hm4.run_put hn (u64_small (by omega) hN) (.slice q f.length d)
  have H5:Hid (VMp w5 F.mb (n+1) (fun u=>if u=a.next then some (.slice q f.length d) else M u)∧Kept (·=F.mb) w4 w5):=⟨hm5,hk5⟩
  clear hm1 hm2 hm3 hm4 hm5 hk5
  have HV:Hid (blk v'=blk F.v1∨∃g,blk v'=some g∧w.heap.size≤g):=by
   rcases HP4.out.2.2 with e | ⟨g,e,hg⟩
   ·exact .inl e
   ·exact .inr ⟨g,e,by have:=hb2.out.size;have:=hk3.out.size;omega⟩
  have HPL:Hid (PL w5 { F with v1:=v',G:=fun b=>F.G b∨blk (.slice q f.length d)=some b } (n+1) { a with next:=a.next+1,W:=a.W++[(a.next,f)] }∧Kept F.has w w5∧Frm w5 (.slice q f.length d) f):=by
   exact H.out.begun2 N.out hb2.out hfr.out HM.out HW3.out HP4.out.1 HP4.out.2.1 HV.out H5.out.1 H5.out.2 HO.out
  clear hst3 hQ3 hQlt HP4 HM H5 HW3 hk3 hP2 hfr
  go_wp2_with fail
  refine (cloneI_at HPL.out.2.2 (by omega)).mono ?_
  rintro e w6 ⟨q',d',rfl,hm6⟩
  have H6:Hid (B.Made w5 w6 q' f.length d' f):=hm6
  clear hm6
  go_wp2
  go_ret3
  have s5:=HPL.out.2.1.size
  refine⟨q',d',v',.slice q f.length d,rfl,⟨w5.heap.size,H6.out.own,s5,HPL.out.2.2.later H6.out.below,fun g hg=>⟨own_blk HB.out.own hg,HPL.out.2.2.lt hg⟩⟩,HPL.out.1.later H6.out.below,HV.out,HPL.out.2.1.trans (Kept.of_below (fun _=>False) H6.out.below) (fun _ _ e=>e.elim)⟩)
theorem begin2_at (h:PL w F n a)(hn:n<10000)(hN:a.next≤1000){p:Option Addr}{m c:Nat}{xs:List Int}(hI:B.IIn w p m xs)(hm:m+80≤17592186044416) :
  Calls prog 37 #[qp F.Q,.slice p m c] w fun e w'=>∃q d v' fv,e=.returned (.tuple #[.int .u64 (a.begT xs),.slice q (a.begF xs).length d,.int .i64 (a.begE xs)])∧(∃s,w'.ownsRow s 3 1 (.slice q (a.begF xs).length d) (a.begF xs).length (B.I64 (a.begF xs))∧w.heap.size≤s∧Frm w' fv (a.begF xs)∧∀g,blk fv=some g→w.heap.size≤g∧g<s)∧PL w' { F with v1:=v',G:=fun b=>F.G b∨blk fv=some b } (n+1) (a.begS xs)∧(blk v'=blk F.v1∨∃g,blk v'=some g∧w.heap.size≤g)∧Kept F.has w w':=by
 by_cases e:a.begE xs=0
 ·have e1:a.begS xs={ a with next:=a.next+1,W:=a.W++[(a.next,a.begF xs)] }:=by simp only[Ad.begS,if_pos e]
  have e2:a.begT xs=a.next:=by simp only[Ad.begT,if_pos e]
  have hok:=h.ok.beg xs
  rw[e1] at hok
  rw[e1,e2,e]
  exact begin2_ok h hn hN hI hm (Prod.ext rfl e) (form_len _ _ _) hok
 ·have e1:a.begS xs=a:=by simp only[Ad.begS,if_neg e]
  have e2:a.begT xs=0:=by simp only[Ad.begT,if_neg e]
  have e3:a.begF xs=[]:=(B.formS_errs xs a.bl a.mr).2 e
  rw[e1,e2,e3]
  refine (begin_bad h hI hm (f:=a.begF xs) (E:=a.begE xs) rfl e).mono ?_
  rintro e' w' ⟨rfl,hb⟩
  refine⟨none,0,F.v1,nils,rfl,⟨w'.heap.size,World.ownsRow_nil _ _ _ _,hb.size,Frm.nil _,fun g hg=>(by cases hg)⟩,?_,.inl rfl,Kept.of_below _ hb⟩
  have h2:=(h.later hb).mono (Nat.le_succ n)
  obtain ⟨m',h3,h4,h5⟩:=h2.fm
  exact⟨h2.st,h2.l1,h2.l2,⟨m',h3,h4,fun x hx=>by obtain ⟨v,a1,a2,a3⟩:=h5 x hx;exact⟨v,a1,a2,fun g hg=>.inl (a3 g hg)⟩⟩,h2.rm,h2.ok,h2.q12,h2.v12,h2.mm⟩
theorem PL.regrind {G:Nat→Prop}(h:PL w F n a)(he:a.fl=[]):PL w { F with G:=G } n a:=by
 obtain ⟨m',h3,h4,h5⟩:=h.fm
 exact⟨h.st,h.l1,h.l2,⟨m',h3,h4,fun x hx=>by rw[he] at hx;cases hx⟩,h.rm,h.ok,h.q12,h.v12,h.mm⟩
end
section
variable {w w':World} {F:Ft} {n:Nat} {a:Ad}
theorem enter_at (h:PL w F n a)(hn:n<10000)(hN:a.next≤1000) :
  Calls prog 38 #[qp F.Q] w fun e w'=>∃q d v1' v2',e=.returned (.tuple #[.int .u64 a.entT,.slice q a.entF.length d,.int .i64 a.entE])∧w'.ownsRow w.heap.size 3 1 (.slice q a.entF.length d) a.entF.length (B.I64 a.entF)∧PL w' { F with v1:=v1',v2:=v2' } (n+1) a.entS∧blk v1'=blk F.v1∧(blk v2'=blk F.v2∨∃g,blk v2'=some g∧w.heap.size≤g)∧Kept F.has w w':=by
 cases hW:a.W with
 | nil =>
  have e1:a.entE=110:=by simp[Ad.entE,hW]
  have e2:a.entT=0∧a.entF=[]∧a.entS=a:=by simp[Ad.entT,Ad.entF,Ad.entS,e1]
  rw[e1,e2.1,e2.2.1,e2.2.2]
  refine (enter_no h hN (by simp[Ad.isW,hW])).mono ?_
  rintro e w' ⟨rfl,hb⟩
  exact⟨none,0,F.v1,F.v2,rfl,World.ownsRow_nil _ _ _ _,(h.later hb).mono (Nat.le_succ n),rfl,.inl rfl,Kept.of_below _ hb⟩
 | cons x r =>
  cases hf:a.fits with
  | false =>
   have e1:a.entE=120:=by simp[Ad.entE,hW,hf]
   have e2:a.entT=0∧a.entF=[]∧a.entS=a:=by simp[Ad.entT,Ad.entF,Ad.entS,e1]
   rw[e1,e2.1,e2.2.1,e2.2.2]
   refine (enter_room h hn hN hW hf).mono ?_
   rintro e w' ⟨rfl,hp,hk⟩
   exact⟨none,0,F.v1,F.v2,rfl,World.ownsRow_nil _ _ _ _,hp,rfl,.inl rfl,hk⟩
  | true =>
   have e1:a.entE=0:=by simp[Ad.entE,hW,hf]
   have e2:a.entT=x.1∧a.entF=x.2∧a.entS={ a with W:=r,I:=a.I++[(x.1,x.2,(x.2.length:Int)+1)],got:=x.1 }:=by simp[Ad.entT,Ad.entF,Ad.entS,e1,Ad.fT,Ad.fF,hW]
   have hok:=h.ok.ent
   rw[e2.2.2] at hok
   rw[e1,e2.1,e2.2.1,e2.2.2]
   exact enter_ok h hn hN hW hf hok
end
section
variable {w w':World} {G:Nat→Prop} {R:Nat} {vW vI:Value} {a:Ad} {ws is:List Who}
theorem Ad.Ok.nums {a:Ad}(h:a.Ok):2≤a.lc∧a.lc≤64∧0≤a.used∧0≤a.rsv∧a.used+a.rsv≤a.lc∧1≤a.next:=⟨h.may.2.2.1,h.may.2.2.2.1,h.used0,h.rsv0,h.room,by have:=h.got0;have:=h.gotN;omega⟩
theorem rreserved_at (h:RL w G R vW vI a ws is)(ok:a.Ok)(hN:a.next≤1000):Calls prog 138 #[qp R] w fun e w'=>e=.returned (.int .i64 a.rsv)∧∃m,w'=w.drewN m:=by
 have H:Hid (RL w G R vW vI a ws is):=h
 obtain ⟨p,c,rfl,hc,hp⟩:=own_form h.ir
 have hlen:is.length≤1000:=by have:=h.ilen;have:=ok.ilen;omega
 clear h
 go_enter func138,ntmps138
 go_wp2_with fail
 go_loopw [3,4] (fun n i wr=>∃k:Nat,k≤is.length∧n=.int .i64 (L.total ((lefts a.I).take k))∧i=.int .i64 k∧Hid (∃m,wr=w.drewN m)) (fun _ i _=>is.length-(intOf i).toNat)
 case atStart=>exact⟨0,Nat.zero_le _,rfl,rfl,⟨0,rfl⟩⟩
 case round =>
  obtain ⟨k,hk,rfl,rfl,HM⟩:=hrel
  have R1:Hid (RL wr G R vW (.slice p is.length c) a ws is):=by obtain ⟨m,rfl⟩:=HM.out;exact H.out.drawn m
  have c7:wr.cell? ⟨R,7,none⟩=some (.slice p is.length c):=R1.out.c 7
  by_cases hlt:k<is.length
  ·obtain ⟨g,rfl⟩:=hp (by omega)
   obtain ⟨hj',el⟩:=H.out.left hlt
   obtain ⟨_,_,x2,_⟩:=hrow_cell R1.out.ir hlt
   have i1:(k:Int)<(is.length:Int):=by omega
   have n1:=L.total_take_le ok.fine k
   have AT:Hid (L.total ((lefts a.I).take (k+1))=L.total ((lefts a.I).take k)+is[k].l):=by have:=L.total_take hj';rw[el] at this;exact this
   have n1':=L.total_take_le ok.fine (k+1)
   rw[AT.out] at n1'
   have n3:=ok.nums
   have n4:L.total (lefts a.I)=a.rsv:=rfl
   generalize is[k].l=rm at *
   generalize hta:L.total ((lefts a.I).take k)=ta at *
   rw[n4] at n1 n1'
   clear hta el n4
   obtain ⟨n11,n12⟩:=n1
   obtain ⟨n21,n22⟩:=n1'
   obtain ⟨n31,n32,n33,n34,n35,_⟩:=n3
   generalize a.rsv=rs at *
   go_wp2_with fail
   go_roundw
   case rel=>exact⟨k+1,by omega,by rw[AT.out],by go_num,HM.out⟩
   case measure=>simp[intOf];omega
  ·obtain rfl:k=is.length:=by omega
   have e:L.total ((lefts a.I).take is.length)=a.rsv:=by rw[H.out.ilen,← lefts_len,List.take_length];rfl
   rw[e]
   go_wp2
   go_ret
   exact⟨rfl,HM.out⟩
theorem rin_at (h:RL w G R vW vI a ws is)(ok:a.Ok)(hN:a.next≤1000)(t:Int):Calls prog 130 #[qp R,.int .u64 t] w fun e w'=>e=.returned (.int .i64 (L.atv t (lefts a.I) (lefts a.I).length))∧w'=w:=by
 have H:Hid (RL w G R vW vI a ws is):=h
 obtain ⟨p,c,rfl,hc,hp⟩:=own_form h.ir
 have c7:w.cell? ⟨R,7,none⟩=some (.slice p is.length c):=h.c 7
 have hlen:is.length≤1000:=by have:=h.ilen;have:=ok.ilen;omega
 have LL:Hid ((lefts a.I).length=is.length):=by show _=_;rw[lefts_len,h.ilen]
 clear h
 go_enter func130,ntmps130
 go_wp2_with fail
 go_loopw [5] (fun i wr=>∃k:Nat,k≤is.length∧i=.int .i64 k∧wr=w∧Hid (L.atv t (lefts a.I) k=-1)) (fun i _=>is.length-(intOf i).toNat)
 case atStart=>exact⟨0,Nat.zero_le _,rfl,rfl,L.atv_zero t (lefts a.I)⟩
 case round =>
  obtain ⟨k,hk,rfl,rfl,hA⟩:=hrel
  by_cases hlt:k<is.length
  ·obtain ⟨g,rfl⟩:=hp (by omega)
   obtain ⟨hj',el⟩:=H.out.left hlt
   obtain ⟨x0,_,_,_⟩:=hrow_cell H.out.ir hlt
   have i1:(k:Int)<(is.length:Int):=by omega
   have E1:Hid (is[k].t=t→L.atv t (lefts a.I) (lefts a.I).length=k):=fun e=>by
    have h2:=L.pos_is ok.fine hj' (t:=t) (by rw[el];exact e)
    unfold L.atv
    rw[h2,if_pos hj']
   have E2:Hid (¬is[k].t=t→L.atv t (lefts a.I) (k+1)=-1):=fun e=>(L.atv_miss hj' (by rw[el];exact e)).trans hA.out
   clear el hj'
   generalize is[k].t=xt at *
   cases hz:(xt == t)
   ·have hx:¬xt=t:=by simpa using hz
    have HE:Hid (L.atv t (lefts a.I) (k+1)=-1):=E2.out hx
    clear E1 E2
    go_wp2_with fail
    go_roundw
    case rel=>exact⟨k+1,by omega,by go_num,by trivial,HE⟩
    case measure=>simp[intOf];omega
   ·have hx:xt=t:=by simpa using hz
    have HE:Hid (L.atv t (lefts a.I) (lefts a.I).length=k):=E1.out hx
    clear E1 E2
    go_wp2
    go_ret
    exact⟨by rw[HE.out];rfl,by trivial⟩
  ·obtain rfl:k=is.length:=by omega
   have HE:Hid (L.atv t (lefts a.I) (lefts a.I).length=-1):=by rw[LL.out];exact hA.out
   go_wp2
   go_ret
   exact⟨by rw[HE.out];rfl,by trivial⟩
theorem atv_noI (t:Int)(hf:fi t a.I=none):L.atv t (lefts a.I) (lefts a.I).length=-1:=L.atv_none (by rw[look_lefts,hf];rfl)
theorem atv_yesI {t:Int}{f:List Int}{n:Int}(hf:fi t a.I=some (f,n)):L.atv t (lefts a.I) (lefts a.I).length=(L.pos t (lefts a.I):Int):=L.atv_some (n:=n) (by rw[look_lefts,hf];rfl)
theorem RL.at_some (h:RL w G R vW vI a ws is){t:Int}{f:List Int}{n:Int}(hf:fi t a.I=some (f,n)):∃hp:L.pos t (lefts a.I)<is.length,Mi w G (t,f,n) is[L.pos t (lefts a.I)]:=by
 obtain ⟨h1,h2⟩:=fi_pos hf
 have hp:L.pos t (lefts a.I)<is.length:=by rw[h.ilen];exact h1
 have:=h.im.get _ h1 hp
 rw[h2] at this
 exact⟨hp,this⟩
theorem RL.head (h:RL w G R vW vI a ws is){x:Int × List Int}{r:List (Int × List Int)}(hW:a.W=x :: r):∃y ys g c,ws=y :: ys∧vW=.slice (some ⟨g,0,none⟩) ws.length c∧ws.length≤c∧w.cell? ⟨g,0,none⟩=some (.int .u64 x.1)∧w.cell? ⟨g,1,none⟩=some y.v∧w.cell? ⟨g,2,none⟩=some (.int .i64 0)∧w.cell? ⟨g,3,none⟩=some (.bool false)∧y.m=x.2.length∧Mi w G (x.1,x.2,0) y∧Mis w G (wl r) ys∧y=⟨x.1,y.p,x.2.length,y.c,0,false⟩:=by
 have hm:=h.wm
 rw[hW] at hm
 cases hw:ws with
 | nil=>rw[hw] at hm;exact hm.elim
 | cons y ys =>
  rw[hw] at hm
  have hy:Mi w G (x.1,x.2,0) y:=hm.1
  obtain ⟨p,c,e,hc,hp⟩:=own_form h.wr
  obtain ⟨g,rfl⟩:=hp (by rw[hw];simp)
  have hr:=h.wr
  rw[e] at hr
  have hk:0<ws.length:=by rw[hw];simp
  obtain ⟨x0,x1,x2,x3⟩:=hrow_cell hr hk
  have e0:ws[0]=y:=by simp[hw]
  rw[e0] at x0 x1 x2 x3
  refine⟨y,ys,g,c,rfl,by rw[← hw];exact e,by rw[← hw];exact hc,?_,by simpa using x1,?_,?_,hy.m,hy,hm.2,?_⟩
  ·have:=hy.t;rw[this] at x0;simpa using x0
  ·have:=hy.l;rw[this] at x2;simpa using x2
  ·have:=hy.b;rw[this] at x3;simpa using x3
  ·have h1:=hy.t;have h2:=hy.l;have h3:=hy.b;have h4:=hy.m
   cases y
   simp only at h1 h2 h3 h4
   subst h1 h2 h4
   simp[h3]
theorem RL.nohead (h:RL w G R vW vI a ws is)(hW:a.W=[]):ws=[]∧∃p c,vW=.slice p 0 c:=by
 have hl:=h.wlen
 rw[hW] at hl
 have e:ws=[]:=List.eq_nil_of_length_eq_zero hl
 obtain ⟨p,c,e2,_⟩:=own_form h.wr
 exact⟨e,p,c,by rw[e2,e];rfl⟩
theorem rfits_no (h:RL w G R vW vI a ws is)(hW:a.W=[]):Calls prog 127 #[qp R] w fun e w'=>e=.returned (.bool false)∧∃m,w'=w.drewN m:=by
 obtain ⟨_,p,c,rfl⟩:=h.nohead hW
 have c6:w.cell? ⟨R,6,none⟩=some (.slice p 0 c):=h.c 6
 clear h
 go_enter func127,ntmps127
 go_wp2_with fail
 go_quiet (fail)
 go_wp2
 go_ret
 exact⟨rfl,_,rfl⟩
theorem rfits_yes (h:RL w G R vW vI a ws is)(ok:a.Ok)(hN:a.next≤1000){x:Int × List Int}{r:List (Int × List Int)}(hW:a.W=x :: r):Calls prog 127 #[qp R] w fun e w'=>e=.returned (.bool a.fits)∧∃m,w'=w.drewN m:=by
 obtain ⟨y,ys,g,c,-,ev,hcap,x0,x1,x2,x3,em,hm,-,-⟩:=h.head hW
 have H:Hid (RL w G R vW vI a ws is):=h
 have c6:w.cell? ⟨R,6,none⟩=some vW:=h.c 6
 rw[ev] at c6
 have c8:w.cell? ⟨R,8,none⟩=some (.int .i64 a.used):=h.c 8
 have c1:w.cell? ⟨R,1,none⟩=some (.int .i64 a.lc):=h.c 1
 obtain ⟨n1,n2,n3,n4,n5,n6⟩:=ok.nums
 have hl:=ok.wform x (by rw[hW];exact List.mem_cons_self ..)
 have hmr:=ok.may.2.2.2.2.2.1
 have hwl:ws.length≤1000:=by have:=h.wlen;have:=ok.wlen;omega
 have hpos:0<ws.length:=by have:=h.wlen;rw[hW] at this;rw[this];simp
 have HF:Hid (a.fits=decide (a.used+a.rsv+(x.2.length:Int)+1≤a.lc)):=by show _=_;simp[Ad.fits,hW]
 have y1:w.cell? ⟨g,1,none⟩=some (.slice y.p x.2.length y.c):=by rw[← em];exact x1
 have i1:(0:Int)<(ws.length:Int):=by omega
 obtain ⟨l1,l2⟩:=hl
 have l3:x.2.length≤16:=by omega
 clear h hm x0 x1 x2 x3 em hW hmr ev l2
 generalize x.2.length=fl at *
 generalize ws.length=wn at *
 go_enter func127,ntmps127
 go_wp2_with fail
 go_quiet ((go_at_call 138;exact Calls.quiet_of (rreserved_at (H.out.drawn _) ok hN)))
 go_wp2
 go_ret
 refine⟨?_,_,rfl⟩
 rw[HF.out]
 try rfl
theorem rfits_at (h:RL w G R vW vI a ws is)(ok:a.Ok)(hN:a.next≤1000):Calls prog 127 #[qp R] w fun e w'=>e=.returned (.bool a.fits)∧∃m,w'=w.drewN m:=by
 cases hW:a.W with
 | nil =>
  have e:a.fits=false:=by simp[Ad.fits,hW]
  rw[e]
  exact rfits_no h hW
 | cons x r=>exact rfits_yes h ok hN hW
end
end Go.Proofs.YtcdjepkhdjpjcaaGreatDoor.E
