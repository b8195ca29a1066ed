import Derived.Test.YtcdjepkhdjpjcaaGreatDoorY15
set_option maxHeartbeats 20000000
set_option maxRecDepth 100000
namespace Go.Proofs.YtcdjepkhdjpjcaaGreatDoor.E
open Go.Proofs.Tryz
open Go.RowKit
open Go.Maps (Keyed)
def vElem (v:Value):Option (DataW Value × List MemPlace):=some (.held v,[])
abbrev nils:Value:=.slice none 0 0
theorem zeroF (w:World):(zeroValue 59).run prog w=.ok nils w:=by kernel_rfl
def VMp (w:World)(b n:Nat)(m:Int→Option Value):Prop:=∃D:DataW Value,w.ownsMap prog 52 vElem b n D∧∀t,L.U64 t→Maps.has D (.int .u64 t)=(m t).isSome∧D.atKey (.int .u64 t) (.held nils)=.held ((m t).getD nils)
theorem VMp.typ {w:World}{b n:Nat}{m:Int→Option Value}(h:VMp w b n m):∃es clock,w.heap[b]?=some (.map es clock):=by
 obtain ⟨D,⟨es,clock,hb,_⟩,_⟩:=h
 exact⟨es,clock,hb⟩
theorem VMp.lt {w:World}{b n:Nat}{m:Int→Option Value}(h:VMp w b n m):b<w.heap.size:=by
 obtain ⟨es,clock,hb⟩:=h.typ
 exact (Array.getElem?_eq_some_iff.1 hb).1
theorem VMp.kept {w w':World}{b n:Nat}{m:Int→Option Value}(h:VMp w b n m)(hk:w'.heap[b]?=w.heap[b]?):VMp w' b n m:=by
 obtain ⟨D,⟨es,clock,hb,r⟩,hD⟩:=h
 exact⟨D,⟨es,clock,hk.trans hb,r⟩,hD⟩
theorem VMp.mono {w:World}{b n k:Nat}{m:Int→Option Value}(h:VMp w b n m)(hm:n≤k):VMp w b k m:=by
 obtain ⟨D,ho,hD⟩:=h
 exact⟨D,ho.mono hm,hD⟩
theorem VMp.made (w:World):VMp (w.alloc (.map #[] 0)) w.heap.size 0 (fun _=>none):=⟨_,World.ownsMap_made w _ _ _,fun _ _=>⟨rfl,rfl⟩⟩
theorem VMp.run_look {w:World}{b n:Nat}{m:Int→Option Value}(h:VMp w b n m){t:Int}(ht:L.U64 t) :
  (Instr.lookup 112 (.map (some b)) (.int .u64 t) false).run prog w=.ok ((m t).getD nils) w:=by
 obtain ⟨D,ho,hD⟩:=h
 obtain ⟨v,ps,hrun,hv⟩:=ho.lookup L.key30 underlying112 (zeroF w) (zd:=.held nils) (zp:=[]) rfl ht.key
 rw[(hD t ht).2] at hv
 simp only[vElem,Option.some.injEq,Prod.mk.injEq,DataW.held.injEq] at hv
 rw[hrun,hv.1]
theorem VMp.run_put {w:World}{b n:Nat}{m:Int→Option Value}(h:VMp w b n m)(hn:n<10000){t:Int}(ht:L.U64 t)(v:Value) :
  ∃w',(Instr.mapUpdate 112 (.map (some b)) (.int .u64 t) v).run prog w=.ok () w'∧VMp w' b (n+1) (fun u=>if u=t then some v else m u)∧Kept (·=b) w w':=by
 obtain ⟨D,ho,hD⟩:=h
 have hml:10000≤maxLen:=by decide
 obtain ⟨w',hrun,h1,h2⟩:=ho.store (val:=v) (d:=.held v) (ps:=[]) L.key30 underlying112 (by omega) ht.key rfl
 refine⟨w',hrun,⟨_,h1,fun u hu=>?_⟩,L.Kept.of_grown h2.grown⟩
 dsimp only
 by_cases e:u=t
 ·subst e
  rw[if_pos rfl,Maps.has_put_same ho.isMap (L.key30.key ht.key),Maps.atKey_put_same ho.isMap (L.key30.key ht.key)]
  exact⟨rfl,rfl⟩
 ·have hne:(Lit.int .u64 u)≠Lit.int .u64 t:=fun e2=>e (by injection e2)
  rw[if_neg e,Maps.has_put_other hne,Maps.atKey_put_other hne]
  exact hD u hu
theorem VMp.run_del {w:World}{b n:Nat}{m:Int→Option Value}(h:VMp w b n m){t:Int}(ht:L.U64 t)(ty:TypeId) :
  ∃w',(Builtin.delete_ #[112,52] ty #[.map (some b),.int .u64 t]).run prog w=.ok (.tuple #[]) w'∧VMp w' b n (fun u=>if u=t then none else m u)∧Kept (·=b) w w':=by
 obtain ⟨D,ho,hD⟩:=h
 obtain ⟨w',hrun,h1,h2⟩:=ho.drop L.key30 underlying112 ht.key ty
 refine⟨w',hrun,⟨_,h1,fun u hu=>?_⟩,L.Kept.of_grown h2.grown⟩
 dsimp only
 by_cases e:u=t
 ·subst e
  rw[if_pos rfl,Maps.has_del_same,Maps.atKey_del_same]
  exact⟨rfl,rfl⟩
 ·have hne:(Lit.int .u64 u)≠Lit.int .u64 t:=fun e2=>e (by injection e2)
  rw[if_neg e,Maps.has_del_other hne,Maps.atKey_del_other hne]
  exact hD u hu
theorem wpList_delete_v {w:World}{b n:Nat}{ops:Array Oper}{rest:List Oper}{o:Oper}{a:Act}{R:Exit→Act→World→Prop}(hg:o.guard=none)(m x:Operand)(hop:o.op=Op.call { callee:=Callee.builtin Builtin.delete,args:=#[m,x],argTypes:=#[112,52] })
  (M:Int→Option Value) (hm:a.eval m=.map (some b)) (h:VMp w b n M) (t:Int) (ht:L.U64 t) (hx:a.eval x=.int .u64 t)
  (hK:∀w',VMp w' b n (fun u=>if u=t then none else M u)→Kept (·=b) w w'→wpList prog ops R rest (a.put o.dst (.tuple #[])) w') :
  wpList prog ops R (o :: rest) a w:=by
 refine wpList_plain hg fun K hK'=>?_
 obtain ⟨w',hr,h2,h3⟩:=h.run_del ht o.type
 unfold Oper.wp
 simp[execOp,hop,resolve,invoke,builtin,hm,hx,hr,Result.andThen]
 exact hK' _ _ (hK w' h2 h3)
def kd (w:World)(b:Nat):Nat:=match w.heap[b]? with | some (.cells _ ty _)=>ty | some (.map _ _)=>100000 | _=>100001
theorem ne_kd {w:World}{a b x y:Nat}(h1:kd w a=x)(h2:kd w b=y)(hxy:x≠y):a≠b:=fun e=>hxy (by rw[← h1,← h2,e])
theorem kd_cells {w:World}{b:Nat}{cs:Array Value}{ty:TypeId}{z:Nat × Nat}(h:w.heap[b]?=some (.cells cs ty z)):kd w b=ty:=by simp only[kd,h]
theorem kd_map {w:World}{b:Nat}(h:∃es clock,w.heap[b]?=some (.map es clock)):kd w b=100000:=by
 obtain ⟨es,clock,h⟩:=h
 simp only[kd,h]
def Frm (w:World)(v:Value)(f:List Int):Prop:=w.ownsRow 0 3 1 v f.length (B.I64 f)
theorem Frm.later {w w':World}{v:Value}{f:List Int}(h:Frm w v f)(hb:Below w.heap.size w w'):Frm w' v f:=B.own_later h hb
theorem Frm.of_made {w w':World}{p:Option Addr}{c:Nat}{f:List Int}(h:B.Made w w' p f.length c f):Frm w' (.slice p f.length c) f:=B.own_mono h.own (Nat.zero_le _)
theorem Frm.far {w w':World}{v:Value}{f:List Int}{S:Nat→Prop}(h:Frm w v f)(hk:Kept S w w')(hS:∀g,blk v=some g→kd w g=3→¬S g):Frm w' v f:=by
 refine⟨h.1,?_⟩
 rcases h.2 with h2 | ⟨g,cap,cur,e,h1,hg,r⟩
 ·exact .inl h2
 ·exact .inr ⟨g,cap,cur,e,h1,(hk.block g (Array.getElem?_eq_some_iff.1 hg).1 (hS g (by rw[e];rfl) (kd_cells hg))).trans hg,r⟩
theorem Frm.read {w:World}{v:Value}{f:List Int}(h:Frm w v f):∃p c,v=.slice p f.length c∧B.IIn w p f.length f∧f.length≤c∧(p=none→c=0):=by
 obtain ⟨p,c,e,h1,h2,h3,_⟩:=B.ints_in h
 exact⟨p,c,e,h1,h2,h3⟩
theorem Frm.nil (w:World):Frm w nils []:=World.ownsRow_nil _ _ _ _
def FM (w:World)(G:Nat→Prop)(b n:Nat)(l:List (Int × List Int)):Prop:=∃m,VMp w b n m∧(∀t v,m t=some v→∃p n c,v=.slice p n c)∧∀x∈l,∃v,m x.1=some v∧Frm w v x.2∧∀g,blk v=some g→G g
theorem FM.typ {w:World}{G:Nat→Prop}{b n:Nat}{l:List (Int × List Int)}(h:FM w G b n l):∃es clock,w.heap[b]?=some (.map es clock):=by
 obtain ⟨m,h,_⟩:=h
 exact h.typ
theorem FM.lt {w:World}{G:Nat→Prop}{b n:Nat}{l:List (Int × List Int)}(h:FM w G b n l):b<w.heap.size:=by
 obtain ⟨m,h,_⟩:=h
 exact h.lt
theorem FM.far {w w':World}{G:Nat→Prop}{b n:Nat}{l:List (Int × List Int)}{S:Nat→Prop}(h:FM w G b n l)(hk:Kept S w w')(hb:¬S b)(hS:∀g,G g→kd w g=3→¬S g):FM w' G b n l:=by
 obtain ⟨m,h1,hs,h2⟩:=h
 refine⟨m,h1.kept (hk.block b h1.lt hb),hs,fun x hx=>?_⟩
 obtain ⟨v,hv,hf,hG⟩:=h2 x hx
 exact⟨v,hv,hf.far hk (fun g hg=>hS g (hG g hg)),hG⟩
theorem FM.mono {w:World}{G:Nat→Prop}{b n k:Nat}{l:List (Int × List Int)}(h:FM w G b n l)(hk:n≤k):FM w G b k l:=by
 obtain ⟨m,h1,hs,h2⟩:=h
 exact⟨m,h1.mono hk,hs,h2⟩
theorem FM.sub {w:World}{G:Nat→Prop}{b n:Nat}{l l':List (Int × List Int)}(h:FM w G b n l)(hs:∀x∈l',x∈l):FM w G b n l':=by
 obtain ⟨m,h1,h0,h2⟩:=h
 exact⟨m,h1,h0,fun x hx=>h2 x (hs x hx)⟩
structure Ft where
 Q:Nat
 q1:Nat
 q2:Nat
 mb:Nat
 lb:Nat
 lm:Nat
 v1:Value
 v2:Value
 G:Nat→Prop
def Ft.has (F:Ft)(b:Nat):Prop:=b=F.Q∨b=F.q1∨b=F.q2∨blk F.v1=some b∨blk F.v2=some b∨b=F.mb∨b=F.lb∨b=F.lm
def Ad.fl (a:Ad):List (Int × List Int):=a.W++a.I.map fun x=>(x.1,x.2.1)
abbrev lcells (F:Ft)(a:Ad):Array Value:=#[.int .i64 a.bl,.int .i64 a.lc,.int .i64 a.mr,.int .i64 a.hi,.int .i64 a.cl,.int .u64 a.next,qp F.q1,qp F.q2,.map (some F.mb),qp F.lb]
structure PL (w:World) (F:Ft) (n:Nat) (a:Ad):Prop where
 st:w.heap[F.Q]?=some (.cells (lcells F a) 115 (0,0))
 l1:QAt 211 w F.q1 F.v1 (wt a.W) (a.next-1)
 l2:QAt 211 w F.q2 F.v2 (it a.I) a.got
 fm:FM w F.G F.mb n a.fl
 rm:L.LAt w F.lb F.lm n a.lg
 ok:a.Ok
 q12:F.q1≠F.q2
 v12:∀g,blk F.v1=some g→¬blk F.v2=some g
 mm:F.mb≠F.lm
section
variable {w w':World} {F:Ft} {n:Nat} {a:Ad}
theorem Row.kd {v:Value}{xs:List Int}(h:Row w v xs){g:Nat}(hg:blk v=some g):kd w g=52:=by
 obtain ⟨cur,hc⟩:=h.typ hg
 exact kd_cells hc
theorem PL.kQ (h:PL w F n a):kd w F.Q=115:=kd_cells h.st
theorem PL.k1 (h:PL w F n a):kd w F.q1=211:=kd_cells h.l1.st
theorem PL.k2 (h:PL w F n a):kd w F.q2=211:=kd_cells h.l2.st
theorem PL.kv1 (h:PL w F n a){g:Nat}(hg:blk F.v1=some g):kd w g=52:=h.l1.row.kd hg
theorem PL.kv2 (h:PL w F n a){g:Nat}(hg:blk F.v2=some g):kd w g=52:=h.l2.row.kd hg
theorem PL.km (h:PL w F n a):kd w F.mb=100000:=kd_map h.fm.typ
theorem PL.kl (h:PL w F n a):kd w F.lb=197:=kd_cells h.rm.st
theorem PL.kn (h:PL w F n a):kd w F.lm=100000:=kd_map h.rm.mp.typ
theorem PL.noInts (h:PL w F n a){b:Nat}(hb:kd w b=3):¬F.has b:=by
 rintro (rfl | rfl | rfl | e | e | rfl | rfl | rfl)
 ·rw[h.kQ] at hb;cases hb
 ·rw[h.k1] at hb;cases hb
 ·rw[h.k2] at hb;cases hb
 ·rw[h.kv1 e] at hb;cases hb
 ·rw[h.kv2 e] at hb;cases hb
 ·rw[h.km] at hb;cases hb
 ·rw[h.kl] at hb;cases hb
 ·rw[h.kn] at hb;cases hb
theorem PL.lt (h:PL w F n a){b:Nat}(hb:F.has b):b<w.heap.size:=by
 rcases hb with rfl | rfl | rfl | e | e | rfl | rfl | rfl
 ·exact (Array.getElem?_eq_some_iff.1 h.st).1
 ·exact h.l1.lt
 ·exact h.l2.lt
 ·exact h.l1.row.lt e
 ·exact h.l2.row.lt e
 ·exact h.fm.lt
 ·exact h.rm.lt
 ·exact h.rm.mp.lt
theorem PL.far {S:Nat→Prop}(h:PL w F n a)(hk:Kept S w w')(hF:∀b,F.has b→¬S b)(hS:∀g,F.G g→kd w g=3→¬S g):PL w' F n a :=
 ⟨(hk.block _ (h.lt (.inl rfl)) (hF _ (.inl rfl))).trans h.st,h.l1.far hk (hF _ (.inr (.inl rfl))) (fun g hg=>hF g (.inr (.inr (.inr (.inl hg))))),h.l2.far hk (hF _ (.inr (.inr (.inl rfl)))) (fun g hg=>hF g (.inr (.inr (.inr (.inr (.inl hg)))))),
  h.fm.far hk (hF _ (.inr (.inr (.inr (.inr (.inr (.inl rfl))))))) hS,h.rm.kept (hk.block _ h.rm.lt (hF _ (.inr (.inr (.inr (.inr (.inr (.inr (.inl rfl))))))))) (hk.block _ h.rm.mp.lt (hF _ (.inr (.inr (.inr (.inr (.inr (.inr (.inr rfl))))))))),h.ok,h.q12,h.v12,h.mm⟩
theorem PL.later (h:PL w F n a)(hb:Below w.heap.size w w'):PL w' F n a:=h.far (Kept.of_below (fun _=>False) hb) (fun _ _=>id) (fun _ _ _=>id)
theorem PL.mono {k:Nat}(h:PL w F n a)(hk:n≤k):PL w F k a:=⟨h.st,h.l1,h.l2,h.fm.mono hk,h.rm.mono hk,h.ok,h.q12,h.v12,h.mm⟩
theorem PL.c (h:PL w F n a)(o:Nat):w.cell? ⟨F.Q,o,none⟩=(lcells F a)[o]?:=cell_of_row _ F.Q o _ 115 (0,0) h.st
theorem PL.free (h:PL w F n a)(o:Nat):w.frozen? ⟨F.Q,o,none⟩=false:=by simp[World.frozen?,h.st]
end
end Go.Proofs.YtcdjepkhdjpjcaaGreatDoor.E
namespace Go.Proofs.YtcdjepkhdjpjcaaGreatDoor.E
open Go.RowKit Go.Shelf
theorem yield_deep {F:Fence}(hd:F.depth=none){m:Nat}(m' l₁:Nat){P:Program}{l:Nat}{args:Array Value}{W:World}{R:Ending→World→Prop}(h:YieldAt F m P l args W R):YieldAt (F.inRound l₁) m' P l args W R:=by
 obtain ⟨fn,tmps,assign,body,hy,hf,hR⟩:=h
 exact⟨fn,tmps,assign,body,hy,hf,fun c cs _=>hR c cs (fun d e=>by rw[hd] at e;cases e)⟩
def SeqIn {α:Type}(F:Fence)(n:Nat)(P:Program)(g:Nat)(lb:Array Value)(encs:α→Array Value)(Kp:World→World→Prop)(S Sp:List α→Prop)(N:Nat)(w:World):Prop :=
 ∀(l:Nat) (J Jx:List α→World→Prop) (W:World),Below w.heap.size w W→OwnFrom W.heap.size J→OwnFrom W.heap.size Jx →
  (∀pre x V,J pre V→pre.length<N→YieldAt F (n-1) P l (encs x) V fun e V' =>
   KeepsFrom W.heap.size V V'∧((e=.returned (.bool true)∧J (pre++[x]) V'∧Kp V V')∨(e=.returned (.bool false)∧Jx (pre++[x]) V'))) →
  J [] W →
  CallsIn F n P g (#[.func (.yield l) #[] #[]]++lb) W fun e V=>(∃v,e=.returned v)∧((∃xs,S xs∧J xs V)∨(∃pre,Sp pre∧Jx pre V))
structure Laid2 (D:Nat) (r:Loop) (W:World):Prop where
 rcd:W.heap[D+1]?=some (.loop r)
 dfr:W.heap[D]?=some (.deferred (some []))
theorem Laid2.lt {D:Nat}{r:Loop}{W:World}(h:Laid2 D r W):D+1<W.heap.size:=(Array.getElem?_eq_some_iff.1 h.rcd).1
theorem Laid2.keeps {D:Nat}{r:Loop}{W W':World}(h:Laid2 D r W)(hk:KeepsFrom D W W'):Laid2 D r W':=⟨hk.same _ _ (by omega) h.rcd rfl,hk.same _ _ (Nat.le_refl _) h.dfr rfl⟩
theorem Laid2.put {D:Nat}{r:Loop}{W:World}(h:Laid2 D r W)(r':Loop):Laid2 D r' (W.putObj (D+1) (.loop r')):=⟨World.putObj_heap_same h.lt,(World.putObj_heap_other (by omega)).trans h.dfr⟩
theorem Laid2.own {D:Nat}{r:Loop}{β:Type}:OwnFrom (D+2) (fun (_:β) W=>Laid2 D r W):=fun _ W W' row hs hg hr=>by
 have e:∀k,k<D+2→k<W.heap.size→W'.heap[k]?=W.heap[k]?:=fun k h1 h2=>hg.block k h2 fun e=>by have:=(hr k e.symm).1;omega
 have:=hs.lt
 exact⟨(e _ (by omega) (by omega)).trans hs.rcd,(e _ (by omega) (by omega)).trans hs.dfr⟩
theorem keeps_put (D:Nat)(W:World)(r':Loop):KeepsFrom (D+2) W (W.putObj (D+1) (.loop r')) :=
 ⟨by simp,fun _ _ hk h1 _=>(World.putObj_heap_other (by omega)).trans h1⟩
theorem keeps_more {B C:Nat}{W W':World}(h:KeepsFrom B W W')(hb:B≤C):KeepsFrom C W W':=⟨h.size,fun k o hk=>h.same k o (by omega)⟩
section
variable {F:Fence} {n:Nat} {P:Program}
theorem range_in {α:Type}{g:Operand}{ps:Array Tmp}{assign body:Code}{Q:Exit→Act→World→Prop}{a:Act}{w:World}
  (hro:F.round=none) (h1:1≤n) {gf:Nat} {lb:Array Value} (hg:a.eval g=.func (.func gf) #[] lb) (hFg:F.fn gf) (eg:∀args w,(callFunc gf args).run P w=.ok (.enter gf args) w)
  {encs:α→Array Value} {Kp:World→World→Prop} {S Sp:List α→Prop} {N:Nat} {w0:World} (hseq:SeqIn F (n-1) P gf lb encs Kp S Sp N w0)
  (hKt:∀{A B C:World},Kp A B→Kp B C→Kp A C) (hKb:∀(W:World) (l:Nat) (o o':Obj),w.heap.size≤l→W.heap[l]?=some o→o.isCells=false→Kp W (W.putObj l o')) (hb0:Below w0.heap.size w0 w) (hps:∀x,(encs x).size=ps.size)
  (I:List α→World→Prop) (Ix:Code→List α→World→Prop) (hI:OwnFrom w.heap.size I) (hIx:∀c,OwnFrom w.heap.size (Ix c)) (h0:I [] w) (Ax:α→Act→World→Prop) (hAx:∀x a',OwnFrom w.heap.size (fun (_:Unit) W=>Ax x a' W))
  (hassign:∀(l:Nat) (pre:List α) (x:α) (W:World) (K:Act→World→Prop),I pre W→(∀a' W',KeepsFrom w.heap.size W W'→Kp W W'→I pre W'→Ax x a' W'→K a' W') →
   assign.wpIn (F.inRound l) (n-1-1) P (Exit.then K (fun _ _ _=>False)) { tmps:=(ps.zip (encs x)).foldl (fun t (p,v)=>t.setIfInBounds p v) a.tmps,defers:=[] } W)
  (hbody:∀(l:Nat) (pre:List α) (x:α) (a':Act) (W:World),I pre W→Ax x a' W→pre.length<N→body.wpIn (F.inRound l) (n-1-1) P (ownPostG w.heap.size Kp I Ix (pre++[x]) W) a' W)
  (hdone:∀(D:Nat) (xs:List α) (W:World),w.heap.size≤D→S xs→I xs W→W.heap[D]?=some (.deferred (some []))→Q .normal { a with defers:={ target:=.collected D,args:=#[] } :: a.defers } W)
  (hstop:∀(D:Nat) (c:Code) (pre:List α) (W:World),w.heap.size≤D→Sp pre→Ix c pre W→W.heap[D]?=some (.deferred (some []))→c.wpIn F n P Q { a with defers:={ target:=.collected D,args:=#[] } :: a.defers } W) :
  (Code.rangeFunc g ps assign body).wpIn F n P Q a w:=by
 obtain ⟨D,hD⟩:∃D,D=w.heap.size:=⟨_,rfl⟩
 refine wpIn_rangeFunc fun fn hfn=>?_
 rw[hro]
 let rec0:LoopState→Option Code→Loop:=fun st pe=>{ state:=st,pending:=pe,fn,tmps:=a.tmps,params:=ps,assign,body,defers:=w.heap.size }
 obtain ⟨V0,hV0⟩:∃V,(w.alloc (.deferred (some []))).alloc (.loop (rec0 .ready none))=V:=⟨_,rfl⟩
 have hs0:V0.heap.size=D+2:=by rw[← hV0,hD];simp
 have L0:Laid2 D (rec0 .ready none) V0:=by
  rw[← hV0,hD]
  refine⟨?_,(Below.heap_alloc _ _ _ (by simp)).trans (World.alloc_heap_new w _)⟩
  have:=World.alloc_heap_new (w.alloc (.deferred (some []))) (.loop (rec0 .ready none))
  rwa [World.size_alloc] at this
 have hb1:Below w0.heap.size w0 V0:=by
  rw[← hV0];exact hb0.trans ((((Below.refl _ w).alloc (Nat.le_refl _) _).alloc (by simp) _).mono hb0.size)
 refine⟨D+1,[{ target:=.collected D,args:=#[] }],V0,{ target:=.fn (.func gf) lb,args:=#[.func (.yield (D+1)) #[] #[]] },V0,gf,#[.func (.yield (D+1)) #[] #[]]++lb,V0,?_,?_,?_,?_,fun _=>h1,?_⟩
 ·rw[← hV0,hD];exact run_enterLoop_outer _ _ _ _ _
 ·simp only[resolve,hg];simp[go_sem]
 ·intro f' hf';simp[Target.leads] at hf';subst hf';exact hFg
 ·simp[invoke,go_sem,eg]
 have hIw:OwnFrom (D+2) I:=fun s A B row hs hg' hr=>hI s A B row hs hg' fun r e=>⟨by have:=(hr r e).1;omega,(hr r e).2⟩
 have hIxw:∀c,OwnFrom (D+2) (Ix c):=fun c s A B row hs hg' hr=>hIx c s A B row hs hg' fun r e=>⟨by have:=(hr r e).1;omega,(hr r e).2⟩
 refine (hseq (D+1) (fun pre W=>I pre W∧Laid2 D (rec0 .ready none) W) (fun pre W=>∃c,Ix c pre W∧Laid2 D (rec0 .done (some c)) W) V0 hb1 ?_ ?_ ?_ ⟨?_,L0⟩).mono ?_
 ·rw[hs0];exact OwnFrom.and hIw Laid2.own
 ·rw[hs0];intro s A B row hs hg' hr
  obtain ⟨c,hc,hl⟩:=hs
  exact⟨c,hIxw c s A B row hc hg' hr,Laid2.own () A B row hl hg' hr⟩
 ·rintro pre x W ⟨hi,hl⟩ hlen
  rw[hs0]
  refine⟨fn,_,assign,body,run_yield hl.rcd (hps x),roundIn_of_wpIn hfn (hassign _ pre x W _ hi ?_)⟩
  intro a' Wa ka kpa hia hax
  rw[← hD] at ka
  have la:=hl.keeps ka
  refine⟨_,run_beginRound la.rcd rfl,?_⟩
  have lb':=la.put { rec0 .ready none with state:=.busy }
  refine wpIn_mono (hbody _ pre x a' _ (hI.putObj _ hia (by omega) la.rcd rfl) ((hAx x a').putObj (s:=()) _ hax (by omega) la.rcd rfl) hlen) ?_
  have fin:∀(jump:Option Code) (W3:World),KeepsFrom w.heap.size (Wa.putObj (D+1) (.loop { rec0 .ready none with state:=.busy })) W3 →
    ∃r,W3.heap[D+1]?=some (.loop r)∧(Instr.endRound (D+1) jump).run P W3=.ok (.bool jump.isNone) (W3.putObj (D+1) (.loop (rec0 (if jump.isNone then .ready else .done) jump))) ∧
    Laid2 D (rec0 (if jump.isNone then .ready else .done) jump) (W3.putObj (D+1) (.loop (rec0 (if jump.isNone then .ready else .done) jump))) ∧
    KeepsFrom (D+2) W (W3.putObj (D+1) (.loop (rec0 (if jump.isNone then .ready else .done) jump))):=fun jump W3 k3=>by
   rw[← hD] at k3
   have l3:=lb'.keeps k3
   exact⟨_,l3.rcd,run_endRound jump l3.rcd,l3.put _,(((keeps_more ka (by omega)).trans (keeps_put D _ _)).trans (keeps_more k3 (by omega))).trans (keeps_put D _ _)⟩
  rintro e a3 W3 hp
  cases e with
  | normal =>
   obtain ⟨k3,kp3,i3⟩:=hp
   obtain ⟨r,hr,e3,l3,kk⟩:=fin none W3 k3
   exact⟨_,_,e3,kk,.inl ⟨rfl,⟨hI.putObj _ i3 (by omega) hr rfl,l3⟩,hKt kpa (hKt (hKt (hKb _ _ _ _ (by omega) la.rcd rfl) kp3) (hKb _ _ _ _ (by omega) hr rfl))⟩⟩
  | ret =>
   obtain ⟨k3,i3⟩:=hp
   obtain ⟨r,hr,e3,l3,kk⟩:=fin (some .ret) W3 k3
   exact⟨_,_,e3,kk,.inr ⟨rfl,.ret,(hIx _).putObj _ i3 (by omega) hr rfl,l3⟩⟩
  | exit id =>
   obtain ⟨k3,i3⟩:=hp
   obtain ⟨r,hr,e3,l3,kk⟩:=fin (some (.exit id)) W3 k3
   exact⟨_,_,e3,kk,.inr ⟨rfl,.exit id,(hIx _).putObj _ i3 (by omega) hr rfl,l3⟩⟩
  | goto t =>
   obtain ⟨k3,i3⟩:=hp
   obtain ⟨r,hr,e3,l3,kk⟩:=fin (some (.goto t)) W3 k3
   exact⟨_,_,e3,kk,.inr ⟨rfl,.goto t,(hIx _).putObj _ i3 (by omega) hr rfl,l3⟩⟩
  | panic ch=>exact hp.elim
  | outgrown=>exact hp.elim
 ·rw[← hV0];exact hI.alloc _ (hI.alloc _ h0)
 ·rintro e W2 ⟨⟨v,rfl⟩,(⟨xs,hS,hi,hl⟩ | ⟨pre,hSp,c,hi,hl⟩)⟩
  ·exact⟨none,_,run_endLoop hl.rcd (by simp[rec0]),hdone _ xs _ (by omega) hS (hI.putObj _ hi (by omega) hl.rcd rfl) ((World.putObj_heap_other (by omega)).trans hl.dfr)⟩
  ·exact⟨some c,_,run_endLoop hl.rcd (by simp[rec0]),hstop _ c pre _ (by omega) hSp ((hIx c).putObj _ hi (by omega) hl.rcd rfl) ((World.putObj_heap_other (by omega)).trans hl.dfr)⟩
end
end Go.Proofs.YtcdjepkhdjpjcaaGreatDoor.E
namespace Go.Proofs.YtcdjepkhdjpjcaaGreatDoor.E
open Go.Proofs.Tryz
open Go.RowKit
attribute [local go_sem] Oper.semAt_some
abbrev standOps (ps:String):Array Oper:=#[{ dst:=some 12,op:=Op.load 280 (Operand.tmp 2),type:=280,pos:=ps,after:=#[],guard:=none },{ dst:=some 13,op:=Op.move (Operand.tmp 3),type:=52,pos:=ps,after:=#[],guard:=none },{ dst:=some 14,op:=Op.load 34 (Operand.tmp 1),type:=34,pos:=ps,after:=#[],guard:=none },{ dst:=some 15,op:=Op.nilCheck (Operand.tmp 14),type:=0,pos:=ps,after:=#[{ on:=2,ground:=Ground.data }],guard:=none },{ dst:=some 16,op:=Op.fieldAddr 115 (Operand.tmp 15) 4,type:=0,pos:=ps,after:=#[{ on:=3,ground:=Ground.data }],guard:=none },{ dst:=some 17,op:=Op.load 112 (Operand.tmp 16),type:=112,pos:=ps,after:=#[{ on:=4,ground:=Ground.data }],guard:=none },{ dst:=some 18,op:=Op.move (Operand.tmp 3),type:=52,pos:=ps,after:=#[],guard:=none },{ dst:=some 19,op:=Op.lookup 112 (Operand.tmp 17) (Operand.tmp 18) false,type:=59,pos:=ps,after:=#[{ on:=5,ground:=Ground.data },{ on:=6,ground:=Ground.data }],guard:=none },{ dst:=some 20,op:=Op.call { callee:=Callee.value (Operand.tmp 12),args:=#[Operand.tmp 13,Operand.tmp 19],argTypes:=#[52,59] },type:=4,pos:=ps,after:=#[{ on:=0,ground:=Ground.data },{ on:=1,ground:=Ground.data },{ on:=7,ground:=Ground.data }],guard:=none },{ dst:=some 21,op:=Op.unOp UnOp.not 4 (Operand.tmp 20),type:=4,pos:=ps,after:=#[{ on:=8,ground:=Ground.data }],guard:=none }]
theorem stand_region {ps:String}{F:Fence}{l n:Nat}{Q':Exit→Act→World→Prop}(w0:World)(id Bl By Q mb:Nat)(y:Value)(u:Int)(p:Option Addr)(nn cc:Nat)(z0 z4 z5 z6 z7 z8 z9 z10 z11:Value)(w:World)(hw:Hid (w=w0.drew))
  (kl:w.cell? ⟨Bl,0,none⟩=some (qp Q)) (ky:w.cell? ⟨By,0,none⟩=some y) (k8:w.cell? ⟨Q,8,none⟩=some (.map (some mb)))
  (hlk:(Instr.lookup 112 (.map (some mb)) (.int .u64 u) false).run prog w=.ok (.slice p nn cc) w)
  (s11111111:wpAnyIn (F.inRound l) n prog .any (standOps ps) Q' 2 #[true,true,true,true,true,true,true,true,false,false] { tmps:=#[z0,.pointer (some ⟨Bl,0,none⟩),.pointer (some ⟨By,0,none⟩),.int .u64 u,z4,z5,z6,z7,z8,z9,z10,z11,y,.int .u64 u,qp Q,qp Q,.pointer (some ⟨Q,8,none⟩),.map (some mb),.int .u64 u,.slice p nn cc,undef,undef],defers:=[] } w) :
  (Code.region id (standOps ps) true).wpIn (F.inRound l) n prog Q' { tmps:=#[z0,.pointer (some ⟨Bl,0,none⟩),.pointer (some ⟨By,0,none⟩),.int .u64 u,z4,z5,z6,z7,z8,z9,z10,z11,undef,undef,undef,undef,undef,undef,undef,undef,undef,undef],defers:=[] } w0:=by
 have hmo:prog.follows Departure.mixedOrders=true:=by kernel_rfl
 have s11111110:wpAnyIn (F.inRound l) n prog .any (standOps ps) Q' 3 #[true,true,true,true,true,true,true,false,false,false] { tmps:=#[z0,.pointer (some ⟨Bl,0,none⟩),.pointer (some ⟨By,0,none⟩),.int .u64 u,z4,z5,z6,z7,z8,z9,z10,z11,y,.int .u64 u,qp Q,qp Q,.pointer (some ⟨Q,8,none⟩),.map (some mb),.int .u64 u,undef,undef,undef],defers:=[] } w:=by
  refine wpAnyIn_ready (rs:=[7]) (by kernel_rfl) (by simp) ?_
  refine AllReadyIn.cons rfl (fun Kc hKc=>?_) AllReadyIn.nil
  ·go_simp
   exact hKc _ _ s11111111
 have s10111111:wpAnyIn (F.inRound l) n prog .any (standOps ps) Q' 3 #[true,false,true,true,true,true,true,true,false,false] { tmps:=#[z0,.pointer (some ⟨Bl,0,none⟩),.pointer (some ⟨By,0,none⟩),.int .u64 u,z4,z5,z6,z7,z8,z9,z10,z11,y,undef,qp Q,qp Q,.pointer (some ⟨Q,8,none⟩),.map (some mb),.int .u64 u,.slice p nn cc,undef,undef],defers:=[] } w:=by
  refine wpAnyIn_ready (rs:=[1]) (by kernel_rfl) (by simp) ?_
  refine AllReadyIn.cons rfl (fun Kc hKc=>?_) AllReadyIn.nil
  ·go_simp
   exact hKc _ _ s11111111
 have s01111111:wpAnyIn (F.inRound l) n prog .any (standOps ps) Q' 3 #[false,true,true,true,true,true,true,true,false,false] { tmps:=#[z0,.pointer (some ⟨Bl,0,none⟩),.pointer (some ⟨By,0,none⟩),.int .u64 u,z4,z5,z6,z7,z8,z9,z10,z11,undef,.int .u64 u,qp Q,qp Q,.pointer (some ⟨Q,8,none⟩),.map (some mb),.int .u64 u,.slice p nn cc,undef,undef],defers:=[] } w:=by
  refine wpAnyIn_ready (rs:=[0]) (by kernel_rfl) (by simp) ?_
  refine AllReadyIn.cons rfl (fun Kc hKc=>?_) AllReadyIn.nil
  ·go_simp
   exact hKc _ _ s11111111
 have s11111100:wpAnyIn (F.inRound l) n prog .any (standOps ps) Q' 4 #[true,true,true,true,true,true,false,false,false,false] { tmps:=#[z0,.pointer (some ⟨Bl,0,none⟩),.pointer (some ⟨By,0,none⟩),.int .u64 u,z4,z5,z6,z7,z8,z9,z10,z11,y,.int .u64 u,qp Q,qp Q,.pointer (some ⟨Q,8,none⟩),.map (some mb),undef,undef,undef,undef],defers:=[] } w:=by
  refine wpAnyIn_ready (rs:=[6]) (by kernel_rfl) (by simp) ?_
  refine AllReadyIn.cons rfl (fun Kc hKc=>?_) AllReadyIn.nil
  ·go_simp
   exact hKc _ _ s11111110
 have s11111010:wpAnyIn (F.inRound l) n prog .any (standOps ps) Q' 4 #[true,true,true,true,true,false,true,false,false,false] { tmps:=#[z0,.pointer (some ⟨Bl,0,none⟩),.pointer (some ⟨By,0,none⟩),.int .u64 u,z4,z5,z6,z7,z8,z9,z10,z11,y,.int .u64 u,qp Q,qp Q,.pointer (some ⟨Q,8,none⟩),undef,.int .u64 u,undef,undef,undef],defers:=[] } w:=by
  refine wpAnyIn_ready (rs:=[5]) (by kernel_rfl) (by simp) ?_
  refine AllReadyIn.cons rfl (fun Kc hKc=>?_) AllReadyIn.nil
  ·go_simp
   exact hKc _ _ s11111110
 have s10111110:wpAnyIn (F.inRound l) n prog .any (standOps ps) Q' 4 #[true,false,true,true,true,true,true,false,false,false] { tmps:=#[z0,.pointer (some ⟨Bl,0,none⟩),.pointer (some ⟨By,0,none⟩),.int .u64 u,z4,z5,z6,z7,z8,z9,z10,z11,y,undef,qp Q,qp Q,.pointer (some ⟨Q,8,none⟩),.map (some mb),.int .u64 u,undef,undef,undef],defers:=[] } w:=by
  refine wpAnyIn_ready (rs:=[1,7]) (by kernel_rfl) (by simp) ?_
  refine AllReadyIn.cons rfl (fun Kc hKc=>?_) (AllReadyIn.cons rfl (fun Kc hKc=>?_) AllReadyIn.nil)
  ·go_simp
   exact hKc _ _ s11111110
  ·go_simp
   exact hKc _ _ s10111111
 have s01111110:wpAnyIn (F.inRound l) n prog .any (standOps ps) Q' 4 #[false,true,true,true,true,true,true,false,false,false] { tmps:=#[z0,.pointer (some ⟨Bl,0,none⟩),.pointer (some ⟨By,0,none⟩),.int .u64 u,z4,z5,z6,z7,z8,z9,z10,z11,undef,.int .u64 u,qp Q,qp Q,.pointer (some ⟨Q,8,none⟩),.map (some mb),.int .u64 u,undef,undef,undef],defers:=[] } w:=by
  refine wpAnyIn_ready (rs:=[0,7]) (by kernel_rfl) (by simp) ?_
  refine AllReadyIn.cons rfl (fun Kc hKc=>?_) (AllReadyIn.cons rfl (fun Kc hKc=>?_) AllReadyIn.nil)
  ·go_simp
   exact hKc _ _ s11111110
  ·go_simp
   exact hKc _ _ s01111111
 have s00111111:wpAnyIn (F.inRound l) n prog .any (standOps ps) Q' 4 #[false,false,true,true,true,true,true,true,false,false] { tmps:=#[z0,.pointer (some ⟨Bl,0,none⟩),.pointer (some ⟨By,0,none⟩),.int .u64 u,z4,z5,z6,z7,z8,z9,z10,z11,undef,undef,qp Q,qp Q,.pointer (some ⟨Q,8,none⟩),.map (some mb),.int .u64 u,.slice p nn cc,undef,undef],defers:=[] } w:=by
  refine wpAnyIn_ready (rs:=[0,1]) (by kernel_rfl) (by simp) ?_
  refine AllReadyIn.cons rfl (fun Kc hKc=>?_) (AllReadyIn.cons rfl (fun Kc hKc=>?_) AllReadyIn.nil)
  ·go_simp
   exact hKc _ _ s10111111
  ·go_simp
   exact hKc _ _ s01111111
 have s11111000:wpAnyIn (F.inRound l) n prog .any (standOps ps) Q' 5 #[true,true,true,true,true,false,false,false,false,false] { tmps:=#[z0,.pointer (some ⟨Bl,0,none⟩),.pointer (some ⟨By,0,none⟩),.int .u64 u,z4,z5,z6,z7,z8,z9,z10,z11,y,.int .u64 u,qp Q,qp Q,.pointer (some ⟨Q,8,none⟩),undef,undef,undef,undef,undef],defers:=[] } w:=by
  refine wpAnyIn_ready (rs:=[5,6]) (by kernel_rfl) (by simp) ?_
  refine AllReadyIn.cons rfl (fun Kc hKc=>?_) (AllReadyIn.cons rfl (fun Kc hKc=>?_) AllReadyIn.nil)
  ·go_simp
   exact hKc _ _ s11111100
  ·go_simp
   exact hKc _ _ s11111010
 have s11110010:wpAnyIn (F.inRound l) n prog .any (standOps ps) Q' 5 #[true,true,true,true,false,false,true,false,false,false] { tmps:=#[z0,.pointer (some ⟨Bl,0,none⟩),.pointer (some ⟨By,0,none⟩),.int .u64 u,z4,z5,z6,z7,z8,z9,z10,z11,y,.int .u64 u,qp Q,qp Q,undef,undef,.int .u64 u,undef,undef,undef],defers:=[] } w:=by
  refine wpAnyIn_ready (rs:=[4]) (by kernel_rfl) (by simp) ?_
  refine AllReadyIn.cons rfl (fun Kc hKc=>?_) AllReadyIn.nil
  ·go_simp
   exact hKc _ _ s11111010
 have s10111100:wpAnyIn (F.inRound l) n prog .any (standOps ps) Q' 5 #[true,false,true,true,true,true,false,false,false,false] { tmps:=#[z0,.pointer (some ⟨Bl,0,none⟩),.pointer (some ⟨By,0,none⟩),.int .u64 u,z4,z5,z6,z7,z8,z9,z10,z11,y,undef,qp Q,qp Q,.pointer (some ⟨Q,8,none⟩),.map (some mb),undef,undef,undef,undef],defers:=[] } w:=by
  refine wpAnyIn_ready (rs:=[1,6]) (by kernel_rfl) (by simp) ?_
  refine AllReadyIn.cons rfl (fun Kc hKc=>?_) (AllReadyIn.cons rfl (fun Kc hKc=>?_) AllReadyIn.nil)
  ·go_simp
   exact hKc _ _ s11111100
  ·go_simp
   exact hKc _ _ s10111110
 have s10111010:wpAnyIn (F.inRound l) n prog .any (standOps ps) Q' 5 #[true,false,true,true,true,false,true,false,false,false] { tmps:=#[z0,.pointer (some ⟨Bl,0,none⟩),.pointer (some ⟨By,0,none⟩),.int .u64 u,z4,z5,z6,z7,z8,z9,z10,z11,y,undef,qp Q,qp Q,.pointer (some ⟨Q,8,none⟩),undef,.int .u64 u,undef,undef,undef],defers:=[] } w:=by
  refine wpAnyIn_ready (rs:=[1,5]) (by kernel_rfl) (by simp) ?_
  refine AllReadyIn.cons rfl (fun Kc hKc=>?_) (AllReadyIn.cons rfl (fun Kc hKc=>?_) AllReadyIn.nil)
  ·go_simp
   exact hKc _ _ s11111010
  ·go_simp
   exact hKc _ _ s10111110
 have s01111100:wpAnyIn (F.inRound l) n prog .any (standOps ps) Q' 5 #[false,true,true,true,true,true,false,false,false,false] { tmps:=#[z0,.pointer (some ⟨Bl,0,none⟩),.pointer (some ⟨By,0,none⟩),.int .u64 u,z4,z5,z6,z7,z8,z9,z10,z11,undef,.int .u64 u,qp Q,qp Q,.pointer (some ⟨Q,8,none⟩),.map (some mb),undef,undef,undef,undef],defers:=[] } w:=by
  refine wpAnyIn_ready (rs:=[0,6]) (by kernel_rfl) (by simp) ?_
  refine AllReadyIn.cons rfl (fun Kc hKc=>?_) (AllReadyIn.cons rfl (fun Kc hKc=>?_) AllReadyIn.nil)
  ·go_simp
   exact hKc _ _ s11111100
  ·go_simp
   exact hKc _ _ s01111110
 have s01111010:wpAnyIn (F.inRound l) n prog .any (standOps ps) Q' 5 #[false,true,true,true,true,false,true,false,false,false] { tmps:=#[z0,.pointer (some ⟨Bl,0,none⟩),.pointer (some ⟨By,0,none⟩),.int .u64 u,z4,z5,z6,z7,z8,z9,z10,z11,undef,.int .u64 u,qp Q,qp Q,.pointer (some ⟨Q,8,none⟩),undef,.int .u64 u,undef,undef,undef],defers:=[] } w:=by
  refine wpAnyIn_ready (rs:=[0,5]) (by kernel_rfl) (by simp) ?_
  refine AllReadyIn.cons rfl (fun Kc hKc=>?_) (AllReadyIn.cons rfl (fun Kc hKc=>?_) AllReadyIn.nil)
  ·go_simp
   exact hKc _ _ s11111010
  ·go_simp
   exact hKc _ _ s01111110
 have s00111110:wpAnyIn (F.inRound l) n prog .any (standOps ps) Q' 5 #[false,false,true,true,true,true,true,false,false,false] { tmps:=#[z0,.pointer (some ⟨Bl,0,none⟩),.pointer (some ⟨By,0,none⟩),.int .u64 u,z4,z5,z6,z7,z8,z9,z10,z11,undef,undef,qp Q,qp Q,.pointer (some ⟨Q,8,none⟩),.map (some mb),.int .u64 u,undef,undef,undef],defers:=[] } w:=by
  refine wpAnyIn_ready (rs:=[0,1,7]) (by kernel_rfl) (by simp) ?_
  refine AllReadyIn.cons rfl (fun Kc hKc=>?_) (AllReadyIn.cons rfl (fun Kc hKc=>?_) (AllReadyIn.cons rfl (fun Kc hKc=>?_) AllReadyIn.nil))
  ·go_simp
   exact hKc _ _ s10111110
  ·go_simp
   exact hKc _ _ s01111110
  ·go_simp
   exact hKc _ _ s00111111
 have s11110000:wpAnyIn (F.inRound l) n prog .any (standOps ps) Q' 6 #[true,true,true,true,false,false,false,false,false,false] { tmps:=#[z0,.pointer (some ⟨Bl,0,none⟩),.pointer (some ⟨By,0,none⟩),.int .u64 u,z4,z5,z6,z7,z8,z9,z10,z11,y,.int .u64 u,qp Q,qp Q,undef,undef,undef,undef,undef,undef],defers:=[] } w:=by
  refine wpAnyIn_ready (rs:=[4,6]) (by kernel_rfl) (by simp) ?_
  refine AllReadyIn.cons rfl (fun Kc hKc=>?_) (AllReadyIn.cons rfl (fun Kc hKc=>?_) AllReadyIn.nil)
  ·go_simp
   exact hKc _ _ s11111000
  ·go_simp
   exact hKc _ _ s11110010
 have s11100010:wpAnyIn (F.inRound l) n prog .any (standOps ps) Q' 6 #[true,true,true,false,false,false,true,false,false,false] { tmps:=#[z0,.pointer (some ⟨Bl,0,none⟩),.pointer (some ⟨By,0,none⟩),.int .u64 u,z4,z5,z6,z7,z8,z9,z10,z11,y,.int .u64 u,qp Q,undef,undef,undef,.int .u64 u,undef,undef,undef],defers:=[] } w:=by
  refine wpAnyIn_ready (rs:=[3]) (by kernel_rfl) (by simp) ?_
  refine AllReadyIn.cons rfl (fun Kc hKc=>?_) AllReadyIn.nil
  ·go_simp
   exact hKc _ _ s11110010
 have s10111000:wpAnyIn (F.inRound l) n prog .any (standOps ps) Q' 6 #[true,false,true,true,true,false,false,false,false,false] { tmps:=#[z0,.pointer (some ⟨Bl,0,none⟩),.pointer (some ⟨By,0,none⟩),.int .u64 u,z4,z5,z6,z7,z8,z9,z10,z11,y,undef,qp Q,qp Q,.pointer (some ⟨Q,8,none⟩),undef,undef,undef,undef,undef],defers:=[] } w:=by
  refine wpAnyIn_ready (rs:=[1,5,6]) (by kernel_rfl) (by simp) ?_
  refine AllReadyIn.cons rfl (fun Kc hKc=>?_) (AllReadyIn.cons rfl (fun Kc hKc=>?_) (AllReadyIn.cons rfl (fun Kc hKc=>?_) AllReadyIn.nil))
  ·go_simp
   exact hKc _ _ s11111000
  ·go_simp
   exact hKc _ _ s10111100
  ·go_simp
   exact hKc _ _ s10111010
 have s10110010:wpAnyIn (F.inRound l) n prog .any (standOps ps) Q' 6 #[true,false,true,true,false,false,true,false,false,false] { tmps:=#[z0,.pointer (some ⟨Bl,0,none⟩),.pointer (some ⟨By,0,none⟩),.int .u64 u,z4,z5,z6,z7,z8,z9,z10,z11,y,undef,qp Q,qp Q,undef,undef,.int .u64 u,undef,undef,undef],defers:=[] } w:=by
  refine wpAnyIn_ready (rs:=[1,4]) (by kernel_rfl) (by simp) ?_
  refine AllReadyIn.cons rfl (fun Kc hKc=>?_) (AllReadyIn.cons rfl (fun Kc hKc=>?_) AllReadyIn.nil)
  ·go_simp
   exact hKc _ _ s11110010
  ·go_simp
   exact hKc _ _ s10111010
 have s01111000:wpAnyIn (F.inRound l) n prog .any (standOps ps) Q' 6 #[false,true,true,true,true,false,false,false,false,false] { tmps:=#[z0,.pointer (some ⟨Bl,0,none⟩),.pointer (some ⟨By,0,none⟩),.int .u64 u,z4,z5,z6,z7,z8,z9,z10,z11,undef,.int .u64 u,qp Q,qp Q,.pointer (some ⟨Q,8,none⟩),undef,undef,undef,undef,undef],defers:=[] } w:=by
  refine wpAnyIn_ready (rs:=[0,5,6]) (by kernel_rfl) (by simp) ?_
  refine AllReadyIn.cons rfl (fun Kc hKc=>?_) (AllReadyIn.cons rfl (fun Kc hKc=>?_) (AllReadyIn.cons rfl (fun Kc hKc=>?_) AllReadyIn.nil))
  ·go_simp
   exact hKc _ _ s11111000
  ·go_simp
   exact hKc _ _ s01111100
  ·go_simp
   exact hKc _ _ s01111010
 have s01110010:wpAnyIn (F.inRound l) n prog .any (standOps ps) Q' 6 #[false,true,true,true,false,false,true,false,false,false] { tmps:=#[z0,.pointer (some ⟨Bl,0,none⟩),.pointer (some ⟨By,0,none⟩),.int .u64 u,z4,z5,z6,z7,z8,z9,z10,z11,undef,.int .u64 u,qp Q,qp Q,undef,undef,.int .u64 u,undef,undef,undef],defers:=[] } w:=by
  refine wpAnyIn_ready (rs:=[0,4]) (by kernel_rfl) (by simp) ?_
  refine AllReadyIn.cons rfl (fun Kc hKc=>?_) (AllReadyIn.cons rfl (fun Kc hKc=>?_) AllReadyIn.nil)
  ·go_simp
   exact hKc _ _ s11110010
  ·go_simp
   exact hKc _ _ s01111010
 have s00111100:wpAnyIn (F.inRound l) n prog .any (standOps ps) Q' 6 #[false,false,true,true,true,true,false,false,false,false] { tmps:=#[z0,.pointer (some ⟨Bl,0,none⟩),.pointer (some ⟨By,0,none⟩),.int .u64 u,z4,z5,z6,z7,z8,z9,z10,z11,undef,undef,qp Q,qp Q,.pointer (some ⟨Q,8,none⟩),.map (some mb),undef,undef,undef,undef],defers:=[] } w:=by
  refine wpAnyIn_ready (rs:=[0,1,6]) (by kernel_rfl) (by simp) ?_
  refine AllReadyIn.cons rfl (fun Kc hKc=>?_) (AllReadyIn.cons rfl (fun Kc hKc=>?_) (AllReadyIn.cons rfl (fun Kc hKc=>?_) AllReadyIn.nil))
  ·go_simp
   exact hKc _ _ s10111100
  ·go_simp
   exact hKc _ _ s01111100
  ·go_simp
   exact hKc _ _ s00111110
 have s00111010:wpAnyIn (F.inRound l) n prog .any (standOps ps) Q' 6 #[false,false,true,true,true,false,true,false,false,false] { tmps:=#[z0,.pointer (some ⟨Bl,0,none⟩),.pointer (some ⟨By,0,none⟩),.int .u64 u,z4,z5,z6,z7,z8,z9,z10,z11,undef,undef,qp Q,qp Q,.pointer (some ⟨Q,8,none⟩),undef,.int .u64 u,undef,undef,undef],defers:=[] } w:=by
  refine wpAnyIn_ready (rs:=[0,1,5]) (by kernel_rfl) (by simp) ?_
  refine AllReadyIn.cons rfl (fun Kc hKc=>?_) (AllReadyIn.cons rfl (fun Kc hKc=>?_) (AllReadyIn.cons rfl (fun Kc hKc=>?_) AllReadyIn.nil))
  ·go_simp
   exact hKc _ _ s10111010
  ·go_simp
   exact hKc _ _ s01111010
  ·go_simp
   exact hKc _ _ s00111110
 have s11100000:wpAnyIn (F.inRound l) n prog .any (standOps ps) Q' 7 #[true,true,true,false,false,false,false,false,false,false] { tmps:=#[z0,.pointer (some ⟨Bl,0,none⟩),.pointer (some ⟨By,0,none⟩),.int .u64 u,z4,z5,z6,z7,z8,z9,z10,z11,y,.int .u64 u,qp Q,undef,undef,undef,undef,undef,undef,undef],defers:=[] } w:=by
  refine wpAnyIn_ready (rs:=[3,6]) (by kernel_rfl) (by simp) ?_
  refine AllReadyIn.cons rfl (fun Kc hKc=>?_) (AllReadyIn.cons rfl (fun Kc hKc=>?_) AllReadyIn.nil)
  ·go_simp
   exact hKc _ _ s11110000
  ·go_simp
   exact hKc _ _ s11100010
 have s11000010:wpAnyIn (F.inRound l) n prog .any (standOps ps) Q' 7 #[true,true,false,false,false,false,true,false,false,false] { tmps:=#[z0,.pointer (some ⟨Bl,0,none⟩),.pointer (some ⟨By,0,none⟩),.int .u64 u,z4,z5,z6,z7,z8,z9,z10,z11,y,.int .u64 u,undef,undef,undef,undef,.int .u64 u,undef,undef,undef],defers:=[] } w:=by
  refine wpAnyIn_ready (rs:=[2]) (by kernel_rfl) (by simp) ?_
  refine AllReadyIn.cons rfl (fun Kc hKc=>?_) AllReadyIn.nil
  ·go_simp
   exact hKc _ _ s11100010
 have s10110000:wpAnyIn (F.inRound l) n prog .any (standOps ps) Q' 7 #[true,false,true,true,false,false,false,false,false,false] { tmps:=#[z0,.pointer (some ⟨Bl,0,none⟩),.pointer (some ⟨By,0,none⟩),.int .u64 u,z4,z5,z6,z7,z8,z9,z10,z11,y,undef,qp Q,qp Q,undef,undef,undef,undef,undef,undef],defers:=[] } w:=by
  refine wpAnyIn_ready (rs:=[1,4,6]) (by kernel_rfl) (by simp) ?_
  refine AllReadyIn.cons rfl (fun Kc hKc=>?_) (AllReadyIn.cons rfl (fun Kc hKc=>?_) (AllReadyIn.cons rfl (fun Kc hKc=>?_) AllReadyIn.nil))
  ·go_simp
   exact hKc _ _ s11110000
  ·go_simp
   exact hKc _ _ s10111000
  ·go_simp
   exact hKc _ _ s10110010
 have s10100010:wpAnyIn (F.inRound l) n prog .any (standOps ps) Q' 7 #[true,false,true,false,false,false,true,false,false,false] { tmps:=#[z0,.pointer (some ⟨Bl,0,none⟩),.pointer (some ⟨By,0,none⟩),.int .u64 u,z4,z5,z6,z7,z8,z9,z10,z11,y,undef,qp Q,undef,undef,undef,.int .u64 u,undef,undef,undef],defers:=[] } w:=by
  refine wpAnyIn_ready (rs:=[1,3]) (by kernel_rfl) (by simp) ?_
  refine AllReadyIn.cons rfl (fun Kc hKc=>?_) (AllReadyIn.cons rfl (fun Kc hKc=>?_) AllReadyIn.nil)
  ·go_simp
   exact hKc _ _ s11100010
  ·go_simp
   exact hKc _ _ s10110010
 have s01110000:wpAnyIn (F.inRound l) n prog .any (standOps ps) Q' 7 #[false,true,true,true,false,false,false,false,false,false] { tmps:=#[z0,.pointer (some ⟨Bl,0,none⟩),.pointer (some ⟨By,0,none⟩),.int .u64 u,z4,z5,z6,z7,z8,z9,z10,z11,undef,.int .u64 u,qp Q,qp Q,undef,undef,undef,undef,undef,undef],defers:=[] } w:=by
  refine wpAnyIn_ready (rs:=[0,4,6]) (by kernel_rfl) (by simp) ?_
  refine AllReadyIn.cons rfl (fun Kc hKc=>?_) (AllReadyIn.cons rfl (fun Kc hKc=>?_) (AllReadyIn.cons rfl (fun Kc hKc=>?_) AllReadyIn.nil))
  ·go_simp
   exact hKc _ _ s11110000
  ·go_simp
   exact hKc _ _ s01111000
  ·go_simp
   exact hKc _ _ s01110010
 have s01100010:wpAnyIn (F.inRound l) n prog .any (standOps ps) Q' 7 #[false,true,true,false,false,false,true,false,false,false] { tmps:=#[z0,.pointer (some ⟨Bl,0,none⟩),.pointer (some ⟨By,0,none⟩),.int .u64 u,z4,z5,z6,z7,z8,z9,z10,z11,undef,.int .u64 u,qp Q,undef,undef,undef,.int .u64 u,undef,undef,undef],defers:=[] } w:=by
  refine wpAnyIn_ready (rs:=[0,3]) (by kernel_rfl) (by simp) ?_
  refine AllReadyIn.cons rfl (fun Kc hKc=>?_) (AllReadyIn.cons rfl (fun Kc hKc=>?_) AllReadyIn.nil)
  ·go_simp
   exact hKc _ _ s11100010
  ·go_simp
   exact hKc _ _ s01110010
 have s00111000:wpAnyIn (F.inRound l) n prog .any (standOps ps) Q' 7 #[false,false,true,true,true,false,false,false,false,false] { tmps:=#[z0,.pointer (some ⟨Bl,0,none⟩),.pointer (some ⟨By,0,none⟩),.int .u64 u,z4,z5,z6,z7,z8,z9,z10,z11,undef,undef,qp Q,qp Q,.pointer (some ⟨Q,8,none⟩),undef,undef,undef,undef,undef],defers:=[] } w:=by
  refine wpAnyIn_ready (rs:=[0,1,5,6]) (by kernel_rfl) (by simp) ?_
  refine AllReadyIn.cons rfl (fun Kc hKc=>?_) (AllReadyIn.cons rfl (fun Kc hKc=>?_) (AllReadyIn.cons rfl (fun Kc hKc=>?_) (AllReadyIn.cons rfl (fun Kc hKc=>?_) AllReadyIn.nil)))
  ·go_simp
   exact hKc _ _ s10111000
  ·go_simp
   exact hKc _ _ s01111000
  ·go_simp
   exact hKc _ _ s00111100
  ·go_simp
   exact hKc _ _ s00111010
 have s00110010:wpAnyIn (F.inRound l) n prog .any (standOps ps) Q' 7 #[false,false,true,true,false,false,true,false,false,false] { tmps:=#[z0,.pointer (some ⟨Bl,0,none⟩),.pointer (some ⟨By,0,none⟩),.int .u64 u,z4,z5,z6,z7,z8,z9,z10,z11,undef,undef,qp Q,qp Q,undef,undef,.int .u64 u,undef,undef,undef],defers:=[] } w:=by
  refine wpAnyIn_ready (rs:=[0,1,4]) (by kernel_rfl) (by simp) ?_
  refine AllReadyIn.cons rfl (fun Kc hKc=>?_) (AllReadyIn.cons rfl (fun Kc hKc=>?_) (AllReadyIn.cons rfl (fun Kc hKc=>?_) AllReadyIn.nil))
  ·go_simp
   exact hKc _ _ s10110010
  ·go_simp
   exact hKc _ _ s01110010
  ·go_simp
   exact hKc _ _ s00111010
 have s11000000:wpAnyIn (F.inRound l) n prog .any (standOps ps) Q' 8 #[true,true,false,false,false,false,false,false,false,false] { tmps:=#[z0,.pointer (some ⟨Bl,0,none⟩),.pointer (some ⟨By,0,none⟩),.int .u64 u,z4,z5,z6,z7,z8,z9,z10,z11,y,.int .u64 u,undef,undef,undef,undef,undef,undef,undef,undef],defers:=[] } w:=by
  refine wpAnyIn_ready (rs:=[2,6]) (by kernel_rfl) (by simp) ?_
  refine AllReadyIn.cons rfl (fun Kc hKc=>?_) (AllReadyIn.cons rfl (fun Kc hKc=>?_) AllReadyIn.nil)
  ·go_simp
   exact hKc _ _ s11100000
  ·go_simp
   exact hKc _ _ s11000010
 have s10100000:wpAnyIn (F.inRound l) n prog .any (standOps ps) Q' 8 #[true,false,true,false,false,false,false,false,false,false] { tmps:=#[z0,.pointer (some ⟨Bl,0,none⟩),.pointer (some ⟨By,0,none⟩),.int .u64 u,z4,z5,z6,z7,z8,z9,z10,z11,y,undef,qp Q,undef,undef,undef,undef,undef,undef,undef],defers:=[] } w:=by
  refine wpAnyIn_ready (rs:=[1,3,6]) (by kernel_rfl) (by simp) ?_
  refine AllReadyIn.cons rfl (fun Kc hKc=>?_) (AllReadyIn.cons rfl (fun Kc hKc=>?_) (AllReadyIn.cons rfl (fun Kc hKc=>?_) AllReadyIn.nil))
  ·go_simp
   exact hKc _ _ s11100000
  ·go_simp
   exact hKc _ _ s10110000
  ·go_simp
   exact hKc _ _ s10100010
 have s10000010:wpAnyIn (F.inRound l) n prog .any (standOps ps) Q' 8 #[true,false,false,false,false,false,true,false,false,false] { tmps:=#[z0,.pointer (some ⟨Bl,0,none⟩),.pointer (some ⟨By,0,none⟩),.int .u64 u,z4,z5,z6,z7,z8,z9,z10,z11,y,undef,undef,undef,undef,undef,.int .u64 u,undef,undef,undef],defers:=[] } w:=by
  refine wpAnyIn_ready (rs:=[1,2]) (by kernel_rfl) (by simp) ?_
  refine AllReadyIn.cons rfl (fun Kc hKc=>?_) (AllReadyIn.cons rfl (fun Kc hKc=>?_) AllReadyIn.nil)
  ·go_simp
   exact hKc _ _ s11000010
  ·go_simp
   exact hKc _ _ s10100010
 have s01100000:wpAnyIn (F.inRound l) n prog .any (standOps ps) Q' 8 #[false,true,true,false,false,false,false,false,false,false] { tmps:=#[z0,.pointer (some ⟨Bl,0,none⟩),.pointer (some ⟨By,0,none⟩),.int .u64 u,z4,z5,z6,z7,z8,z9,z10,z11,undef,.int .u64 u,qp Q,undef,undef,undef,undef,undef,undef,undef],defers:=[] } w:=by
  refine wpAnyIn_ready (rs:=[0,3,6]) (by kernel_rfl) (by simp) ?_
  refine AllReadyIn.cons rfl (fun Kc hKc=>?_) (AllReadyIn.cons rfl (fun Kc hKc=>?_) (AllReadyIn.cons rfl (fun Kc hKc=>?_) AllReadyIn.nil))
  ·go_simp
   exact hKc _ _ s11100000
  ·go_simp
   exact hKc _ _ s01110000
  ·go_simp
   exact hKc _ _ s01100010
 have s01000010:wpAnyIn (F.inRound l) n prog .any (standOps ps) Q' 8 #[false,true,false,false,false,false,true,false,false,false] { tmps:=#[z0,.pointer (some ⟨Bl,0,none⟩),.pointer (some ⟨By,0,none⟩),.int .u64 u,z4,z5,z6,z7,z8,z9,z10,z11,undef,.int .u64 u,undef,undef,undef,undef,.int .u64 u,undef,undef,undef],defers:=[] } w:=by
  refine wpAnyIn_ready (rs:=[0,2]) (by kernel_rfl) (by simp) ?_
  refine AllReadyIn.cons rfl (fun Kc hKc=>?_) (AllReadyIn.cons rfl (fun Kc hKc=>?_) AllReadyIn.nil)
  ·go_simp
   exact hKc _ _ s11000010
  ·go_simp
   exact hKc _ _ s01100010
 have s00110000:wpAnyIn (F.inRound l) n prog .any (standOps ps) Q' 8 #[false,false,true,true,false,false,false,false,false,false] { tmps:=#[z0,.pointer (some ⟨Bl,0,none⟩),.pointer (some ⟨By,0,none⟩),.int .u64 u,z4,z5,z6,z7,z8,z9,z10,z11,undef,undef,qp Q,qp Q,undef,undef,undef,undef,undef,undef],defers:=[] } w:=by
  refine wpAnyIn_ready (rs:=[0,1,4,6]) (by kernel_rfl) (by simp) ?_
  refine AllReadyIn.cons rfl (fun Kc hKc=>?_) (AllReadyIn.cons rfl (fun Kc hKc=>?_) (AllReadyIn.cons rfl (fun Kc hKc=>?_) (AllReadyIn.cons rfl (fun Kc hKc=>?_) AllReadyIn.nil)))
  ·go_simp
   exact hKc _ _ s10110000
  ·go_simp
   exact hKc _ _ s01110000
  ·go_simp
   exact hKc _ _ s00111000
  ·go_simp
   exact hKc _ _ s00110010
 have s00100010:wpAnyIn (F.inRound l) n prog .any (standOps ps) Q' 8 #[false,false,true,false,false,false,true,false,false,false] { tmps:=#[z0,.pointer (some ⟨Bl,0,none⟩),.pointer (some ⟨By,0,none⟩),.int .u64 u,z4,z5,z6,z7,z8,z9,z10,z11,undef,undef,qp Q,undef,undef,undef,.int .u64 u,undef,undef,undef],defers:=[] } w:=by
  refine wpAnyIn_ready (rs:=[0,1,3]) (by kernel_rfl) (by simp) ?_
  refine AllReadyIn.cons rfl (fun Kc hKc=>?_) (AllReadyIn.cons rfl (fun Kc hKc=>?_) (AllReadyIn.cons rfl (fun Kc hKc=>?_) AllReadyIn.nil))
  ·go_simp
   exact hKc _ _ s10100010
  ·go_simp
   exact hKc _ _ s01100010
  ·go_simp
   exact hKc _ _ s00110010
 have s10000000:wpAnyIn (F.inRound l) n prog .any (standOps ps) Q' 9 #[true,false,false,false,false,false,false,false,false,false] { tmps:=#[z0,.pointer (some ⟨Bl,0,none⟩),.pointer (some ⟨By,0,none⟩),.int .u64 u,z4,z5,z6,z7,z8,z9,z10,z11,y,undef,undef,undef,undef,undef,undef,undef,undef,undef],defers:=[] } w:=by
  refine wpAnyIn_ready (rs:=[1,2,6]) (by kernel_rfl) (by simp) ?_
  refine AllReadyIn.cons rfl (fun Kc hKc=>?_) (AllReadyIn.cons rfl (fun Kc hKc=>?_) (AllReadyIn.cons rfl (fun Kc hKc=>?_) AllReadyIn.nil))
  ·go_simp
   exact hKc _ _ s11000000
  ·go_simp
   exact hKc _ _ s10100000
  ·go_simp
   exact hKc _ _ s10000010
 have s01000000:wpAnyIn (F.inRound l) n prog .any (standOps ps) Q' 9 #[false,true,false,false,false,false,false,false,false,false] { tmps:=#[z0,.pointer (some ⟨Bl,0,none⟩),.pointer (some ⟨By,0,none⟩),.int .u64 u,z4,z5,z6,z7,z8,z9,z10,z11,undef,.int .u64 u,undef,undef,undef,undef,undef,undef,undef,undef],defers:=[] } w:=by
  refine wpAnyIn_ready (rs:=[0,2,6]) (by kernel_rfl) (by simp) ?_
  refine AllReadyIn.cons rfl (fun Kc hKc=>?_) (AllReadyIn.cons rfl (fun Kc hKc=>?_) (AllReadyIn.cons rfl (fun Kc hKc=>?_) AllReadyIn.nil))
  ·go_simp
   exact hKc _ _ s11000000
  ·go_simp
   exact hKc _ _ s01100000
  ·go_simp
   exact hKc _ _ s01000010
 have s00100000:wpAnyIn (F.inRound l) n prog .any (standOps ps) Q' 9 #[false,false,true,false,false,false,false,false,false,false] { tmps:=#[z0,.pointer (some ⟨Bl,0,none⟩),.pointer (some ⟨By,0,none⟩),.int .u64 u,z4,z5,z6,z7,z8,z9,z10,z11,undef,undef,qp Q,undef,undef,undef,undef,undef,undef,undef],defers:=[] } w:=by
  refine wpAnyIn_ready (rs:=[0,1,3,6]) (by kernel_rfl) (by simp) ?_
  refine AllReadyIn.cons rfl (fun Kc hKc=>?_) (AllReadyIn.cons rfl (fun Kc hKc=>?_) (AllReadyIn.cons rfl (fun Kc hKc=>?_) (AllReadyIn.cons rfl (fun Kc hKc=>?_) AllReadyIn.nil)))
  ·go_simp
   exact hKc _ _ s10100000
  ·go_simp
   exact hKc _ _ s01100000
  ·go_simp
   exact hKc _ _ s00110000
  ·go_simp
   exact hKc _ _ s00100010
 have s00000010:wpAnyIn (F.inRound l) n prog .any (standOps ps) Q' 9 #[false,false,false,false,false,false,true,false,false,false] { tmps:=#[z0,.pointer (some ⟨Bl,0,none⟩),.pointer (some ⟨By,0,none⟩),.int .u64 u,z4,z5,z6,z7,z8,z9,z10,z11,undef,undef,undef,undef,undef,undef,.int .u64 u,undef,undef,undef],defers:=[] } w:=by
  refine wpAnyIn_ready (rs:=[0,1,2]) (by kernel_rfl) (by simp) ?_
  refine AllReadyIn.cons rfl (fun Kc hKc=>?_) (AllReadyIn.cons rfl (fun Kc hKc=>?_) (AllReadyIn.cons rfl (fun Kc hKc=>?_) AllReadyIn.nil))
  ·go_simp
   exact hKc _ _ s10000010
  ·go_simp
   exact hKc _ _ s01000010
  ·go_simp
   exact hKc _ _ s00100010
 have s00000000:wpAnyIn (F.inRound l) n prog .any (standOps ps) Q' 10 #[false,false,false,false,false,false,false,false,false,false] { tmps:=#[z0,.pointer (some ⟨Bl,0,none⟩),.pointer (some ⟨By,0,none⟩),.int .u64 u,z4,z5,z6,z7,z8,z9,z10,z11,undef,undef,undef,undef,undef,undef,undef,undef,undef,undef],defers:=[] } w:=by
  refine wpAnyIn_ready (rs:=[0,1,2,6]) (by kernel_rfl) (by simp) ?_
  refine AllReadyIn.cons rfl (fun Kc hKc=>?_) (AllReadyIn.cons rfl (fun Kc hKc=>?_) (AllReadyIn.cons rfl (fun Kc hKc=>?_) (AllReadyIn.cons rfl (fun Kc hKc=>?_) AllReadyIn.nil)))
  ·go_simp
   exact hKc _ _ s10000000
  ·go_simp
   exact hKc _ _ s01000000
  ·go_simp
   exact hKc _ _ s00100000
  ·go_simp
   exact hKc _ _ s00000010
 refine wpIn_region_any hmo ?_
 rw[hw.out] at s00000000
 exact s00000000
end Go.Proofs.YtcdjepkhdjpjcaaGreatDoor.E
