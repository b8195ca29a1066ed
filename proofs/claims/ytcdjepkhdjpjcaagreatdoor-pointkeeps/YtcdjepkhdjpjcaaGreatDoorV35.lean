import Derived.Test.YtcdjepkhdjpjcaaGreatDoorV34
set_option maxHeartbeats 20000000
set_option maxRecDepth 100000
namespace Go.Proofs.YtcdjepkhdjpjcaaGreatDoor.Q
open Go.Proofs.Tryz
open Go.RowKit
structure Pt where
 st:Int
 t:Int
 L:List C.En
 k:Nat
structure Pt.Ok (p:Pt):Prop where
 st:p.st=1∨p.st=2∨p.st=3∨p.st=4∨p.st=5
 lt:p.st=2→p.k<p.L.length
def carS (x:Sx)(p:Pt)(z:C.En):List Value × Int × Sx × Pt:=if x.savE z.b=0 then (rowC 15 z.b z.v 0 0,0,x.sav z.b z.v,⟨if p.k+1<p.L.length then 2 else 3,p.t,p.L,p.k+1⟩) else (row0,x.savE z.b,x.sav z.b z.v,p)
def flsS (x:Sx)(p:Pt):List Value × Int × Sx × Pt:=(rowC 12 (-1) zv 0 x.ws.length,0,x.fls,⟨4,p.t,p.L,p.k⟩)
def mrkS (x:Sx)(p:Pt):List Value × Int × Sx × Pt:=if Out x.g p.t then (row0,2,x.mrk p.t,p) else (rowC 16 (-1) zv p.t 0,0,x.mrk p.t,⟨5,p.t,p.L,p.k⟩)
def freS (x:Sx)(p:Pt):List Value × Int × Sx × Pt:=if x.g.mark=p.t∧¬x.a.used<p.t-x.g.tail then (rowC 17 (-1) zv p.t (x.g.mark-x.g.tail),0,(x.fre.frd (x.g.mark-x.g.tail)).drp p.L,⟨1,0,[],0⟩) else (row0,2,x,p)
def choS (hi:Int)(x:Sx)(p:Pt):List Value × Int × Sx × Pt:=if dueS x hi=true then (rowC 14 (-1) zv (x.p+1) x.L.length,0,x,⟨if 0<x.L.length then 2 else 3,x.p+1,x.L,0⟩) else (row0,190,x,p)
def stepS (hi:Int)(x:Sx)(p:Pt):List Value × Int × Sx × Pt :=
 if p.st=2 then carS x p ((p.L.drop p.k).headD C.en0) else if p.st=3 then flsS x p else if p.st=4 then mrkS x p else if p.st=5 then freS x p else choS hi x p
abbrev Th.pp (B:Nat)(v:Value)(p:Pt):Th:=.pt B p.st p.t v p.L p.k
section
variable {w0 w w':World} {K:Ks} {x y:Sx} {pd:List Cm} {X:Nat→Th} {i B k:Nat} {st t:Int} {v:Value} {L:List C.En} {p:Pt}
theorem put_self {u:Th}(e:X i=u):put X i u=X:=by
 funext j
 by_cases h:j=i
 ·subst h;rw[put_same,e]
 ·rw[put_other _ _ h]
theorem X3_other {r:Nat}{j:Nat}(h1:j≠33)(h2:j≠34):X3 X r K j=X j:=(put_other _ _ h2).trans (put_other _ _ h1)
def Left (X:Nat→Th)(i B:Nat)(R:List Value × Int × Sx × Pt)(ds:List Value)(er:Int)(x':Sx)(X':Nat→Th):Prop:=ds=R.1∧er=R.2.1∧x'=R.2.2.1∧∃v,X'=put X i (.pp B v R.2.2.2)
theorem step_of {R:List Value × Int × Sx × Pt}(hc:Calls prog 16 #[qp B,.agg (pdk K).toArray] w fun e w'=>∃ds er x' X',e=.returned (.tuple #[.agg ds.toArray,.int .i64 er])∧Left X i B R ds er x' X'∧DS w0 w' K x' y pd X'):Calls prog 16 #[qp B,.agg (pdk K).toArray] w fun e w'=>∃v,e=.returned (.tuple #[.agg R.1.toArray,.int .i64 R.2.1])∧DS w0 w' K R.2.2.1 y pd (put X i (.pp B v R.2.2.2)):=by
 refine hc.mono ?_
 rintro e w' ⟨ds,er,x',X',rfl,⟨rfl,rfl,rfl,v,rfl⟩,hd⟩
 exact⟨v,rfl,hd⟩
theorem step_at (ht:Tab w0)(h:DS w0 w K x y pd X)(hk:x.ws.length≤100000)(hN:x.a.next≤1000)(h8:8≤i)(h33:i<33)(hp:p.Ok)(e:X i=.pp B v p)(no:∀j,33≤j→j<38→X j=.no):Calls prog 16 #[qp B,.agg (pdk K).toArray] w fun e w'=>∃v,e=.returned (.tuple #[.agg (stepS K.c.hi x p).1.toArray,.int .i64 (stepS K.c.hi x p).2.1])∧DS w0 w' K (stepS K.c.hi x p).2.2.1 y pd (put X i (.pp B v (stepS K.c.hi x p).2.2.2)):=by
 obtain ⟨st,t,L,k⟩:=p
 have n33:∀u,put X i u 33=.no:=fun u=>(put_other _ _ (by omega)).trans (no 33 (by decide) (by decide))
 have n34:∀u,put X i u 34=.no:=fun u=>(put_other _ _ (by omega)).trans (no 34 (by decide) (by decide))
 have o:∀r j,35≤j→j<38→X3 X r K j=.no:=fun r j a b=>(X3_other (by omega) (by omega)).trans (no j (by omega) b)
 have oi:∀r,X3 X r K i=.pt B st t v L k:=fun r=>(X3_other (by omega) (by omega)).trans e
 rcases hp.st with hs | hs | hs | hs | hs
 ·obtain rfl:st=1:=hs
  show Calls _ _ _ _ fun e w'=>∃v,e=.returned (.tuple #[.agg (choS K.c.hi x ⟨1,t,L,k⟩).1.toArray,.int .i64 (choS K.c.hi x ⟨1,t,L,k⟩).2.1])∧DS w0 w' K (choS K.c.hi x ⟨1,t,L,k⟩).2.2.1 y pd (put X i (.pp B v (choS K.c.hi x ⟨1,t,L,k⟩).2.2.2))
  cases hd:dueS x K.c.hi with
  | false =>
   rw[choS,if_neg (by rw[hd];decide)]
   refine (step_idle h h8 h33 (no 33 (by decide) (by decide)) (no 34 (by decide) (by decide)) hN hd e).mono ?_
   rintro e' w' ⟨rfl,hd⟩
   exact⟨v,rfl,by rw[put_self e];exact hd⟩
  | true =>
   rw[choS,if_pos hd]
   refine step_of (step_choose h h8 h33 hN hd e fun r w1 h1=>?_)
   refine (choose_at rfl h1 h8 (by omega) (oi r) (o r 36 (by decide) (by decide)) (o r 37 (by decide) (by decide))).mono ?_
   rintro e' w' ⟨v',rfl,hd⟩
   rw[X3_put h33] at hd
   exact⟨_,_,_,_,rfl,⟨rfl,rfl,rfl,v',rfl⟩,rowC_len (C.zs_len 32),rowC_one _ _ _ _ _,hd,n33 _,n34 _⟩
 ·obtain rfl:st=2:=hs
  have hlt:k<L.length:=hp.lt rfl
  have pw:=(h.pt h8 (by omega) e).wf
  have HW:Hid (C.EnsWf (L.drop k)):=fun a ha=>pw a (List.mem_of_mem_drop ha)
  obtain ⟨z,hz⟩:∃z,(L.drop k).headD C.en0=z:=⟨_,rfl⟩
  have hzw:z.Wf:=by
   rw[← hz,List.drop_eq_getElem_cons hlt]
   exact pw _ (List.getElem_mem hlt)
  have HZ:Hid ((L.drop k).headD C.en0=z∧z.v.length=32∧Bytes z.v):=⟨hz,hzw.len,hzw.byte⟩
  have hR:stepS K.c.hi x ⟨2,t,L,k⟩=carS x ⟨2,t,L,k⟩ z:=by rw[← hz];rfl
  rw[hR]
  refine step_of ?_
  by_cases hs:x.savE z.b=0
  ·rw[carS,if_pos hs]
   refine step_carry h h8 h33 e fun r w1 h1=>?_
   refine (carry_good rfl ht h1 hk h8 (by omega) (oi r) (o r 35 (by decide) (by decide)) (o r 36 (by decide) (by decide)) (o r 37 (by decide) (by decide)) HW HZ hlt hs).mono ?_
   rintro e' w' ⟨rfl,hd⟩
   rw[X3_put h33] at hd
   exact⟨_,_,_,_,rfl,⟨rfl,rfl,rfl,v,rfl⟩,rowC_len hzw.len,rowC_one _ _ _ _ _,hd,n33 _,n34 _⟩
  ·rw[carS,if_neg hs]
   refine step_carry h h8 h33 e fun r w1 h1=>?_
   refine (carry_bad ht h1 hk h8 (by omega) (oi r) (o r 35 (by decide) (by decide)) (o r 36 (by decide) (by decide)) (o r 37 (by decide) (by decide)) HW HZ hs).mono ?_
   rintro e' w' ⟨rfl,hd⟩
   exact⟨_,_,_,X,rfl,⟨rfl,rfl,rfl,v,(put_self e).symm⟩,rowC_len (C.zs_len 32),rowC_one _ _ _ _ _,hd,no 33 (by decide) (by decide),no 34 (by decide) (by decide)⟩
 ·obtain rfl:st=3:=hs
  refine step_of (R:=flsS x ⟨3,t,L,k⟩) (step_flush h h8 h33 e fun r w1 h1=>?_)
  refine (flush_at h1 hk h8 (by omega) (oi r) (o r 36 (by decide) (by decide)) (o r 37 (by decide) (by decide))).mono ?_
  rintro e' w' ⟨rfl,hd⟩
  rw[X3_put h33] at hd
  exact⟨_,_,_,_,rfl,⟨rfl,rfl,rfl,v,rfl⟩,rowC_len (C.zs_len 32),rowC_one _ _ _ _ _,hd,n33 _,n34 _⟩
 ·obtain rfl:st=4:=hs
  refine step_of (R:=mrkS x ⟨4,t,L,k⟩) ?_
  by_cases ho:Out x.g t
  ·rw[mrkS,if_pos ho]
   refine step_mark h h8 h33 e fun r w1 h1=>?_
   refine (mark_bad ht h1 hk h8 (by omega) (oi r) (o r 36 (by decide) (by decide)) (o r 37 (by decide) (by decide)) ho).mono ?_
   rintro e' w' ⟨rfl,hd⟩
   exact⟨_,_,_,X,rfl,⟨rfl,rfl,rfl,v,(put_self e).symm⟩,rowC_len (C.zs_len 32),rowC_one _ _ _ _ _,hd,no 33 (by decide) (by decide),no 34 (by decide) (by decide)⟩
  ·rw[mrkS,if_neg ho]
   refine step_mark h h8 h33 e fun r w1 h1=>?_
   refine (mark_good ht h1 hk h8 (by omega) (oi r) (o r 36 (by decide) (by decide)) (o r 37 (by decide) (by decide)) ho).mono ?_
   rintro e' w' ⟨rfl,hd⟩
   rw[X3_put h33] at hd
   exact⟨_,_,_,_,rfl,⟨rfl,rfl,rfl,v,rfl⟩,rowC_len (C.zs_len 32),rowC_one _ _ _ _ _,hd,n33 _,n34 _⟩
 ·obtain rfl:st=5:=hs
  refine step_of (R:=freS x ⟨5,t,L,k⟩) ?_
  by_cases hm:x.g.mark=t
  ·by_cases hu:x.a.used<t-x.g.tail
   ·rw[freS,if_neg (fun a=>a.2 hu)]
    refine step_free h h8 h33 e fun r w1 h1=>?_
    refine (free_much h1 h8 (by omega) (oi r) (o r 36 (by decide) (by decide)) (o r 37 (by decide) (by decide)) (by simp[hm]) (decide_eq_true hu)).mono ?_
    rintro e' w' ⟨rfl,hd⟩
    exact⟨_,_,_,X,rfl,⟨rfl,rfl,rfl,v,(put_self e).symm⟩,rowC_len (C.zs_len 32),rowC_one _ _ _ _ _,hd,no 33 (by decide) (by decide),no 34 (by decide) (by decide)⟩
   ·rw[freS,if_pos ⟨hm,hu⟩]
    refine step_free h h8 h33 e fun r w1 h1=>?_
    refine (free_good rfl rfl h1 hk h8 (by omega) (oi r) (o r 36 (by decide) (by decide)) (o r 37 (by decide) (by decide)) (by simp[hm]) (decide_eq_false hu)).mono ?_
    rintro e' w' ⟨rfl,hd⟩
    rw[X3_put h33] at hd
    exact⟨_,_,_,_,rfl,⟨rfl,rfl,rfl,.slice none 0 0,rfl⟩,rowC_len (C.zs_len 32),rowC_one _ _ _ _ _,hd,n33 _,n34 _⟩
  ·rw[freS,if_neg (fun a=>hm a.1)]
   refine step_free h h8 h33 e fun r w1 h1=>?_
   refine (free_other h1 h8 (by omega) (oi r) (o r 36 (by decide) (by decide)) (o r 37 (by decide) (by decide)) (by simp[hm])).mono ?_
   rintro e' w' ⟨rfl,hd⟩
   exact⟨_,_,_,X,rfl,⟨rfl,rfl,rfl,v,(put_self e).symm⟩,rowC_len (C.zs_len 32),rowC_one _ _ _ _ _,hd,no 33 (by decide) (by decide),no 34 (by decide) (by decide)⟩
end
end Go.Proofs.YtcdjepkhdjpjcaaGreatDoor.Q
namespace Go.Proofs.YtcdjepkhdjpjcaaGreatDoor.C
open Go.RowKit
open Go.Shelf
attribute [local go_sem] Oper.semAt_some
end Go.Proofs.YtcdjepkhdjpjcaaGreatDoor.C
namespace Go.Proofs.YtcdjepkhdjpjcaaGreatDoor.Q
open Go.RowKit
section
variable {w:World}
abbrev bare (c:Sup):List Value:=ccells c++[.pointer none,.pointer none,.pointer none,.pointer none]
end
open Go.Proofs.Tryz
def sm:Sup:=⟨3,4,2,3,2,0,0⟩
theorem results_one {fn:Func}{p:Tmp}{ty:TypeId}(h:fn.results=#[.cell p ty])(tmps:Array Value)(w:World)(g:Nat)(t:TypeId)(cs:List Value)(d:TypeDesc)
  (hp:tmps.getD p undef=.pointer (some ⟨g,0,none⟩)) (hg:LAt t w g cs) (hu:prog.underlying ty=some d) (hd:d.isRow=true) (hi:(prog.info? ty).map (·.size)=some cs.length) :
  (results fn tmps).run prog w=.ok (.agg cs.toArray) w:=by
 have:=run_loadVar_mid w g 0 ty _ d (LAt.range hg) hu hd hi
 rw[Array.getD_eq_getD_getElem?] at hp
 simp only[results,h]
 simp[hp,asAddr,this]
theorem small_is (w:World):Calls prog 27 #[] w fun e w'=>e=.returned (.agg (ccells sm).toArray)∧Below w.heap.size w w':=by
 have hz:(prog.info? 23).bind (·.zero)=some (.agg (ccells sup0).toArray):=by kernel_rfl
 have HA:Hid ((Instr.alloc 23 true (.tuple #[])).run prog w=.ok (.pointer (some ⟨w.heap.size,0,none⟩)) (w.alloc (.cells (ccells sup0).toArray 23))):=by
  show _=_
  simp only[Instr.alloc,Sem.run_bind,C.zv 23 _ hz,Result.andThen_ok]
  simp[newVar,newRow,Value.cells]
 have HB:Hid ((Instr.build 23 #[(0,.int .i64 3),(1,.int .i64 4),(2,.int .i64 2),(3,.int .i64 3),(4,.int .i64 2)]).run prog (w.alloc (.cells (ccells sup0).toArray 23))=.ok (.agg (ccells sm).toArray) (w.alloc (.cells (ccells sup0).toArray 23))):=run_build _ 23 _ _ (by kernel_rfl)
 have HS:Hid (_):=store_new23 w sm
 have HL:Hid (LAt 23 (w.alloc (.cells (ccells sm).toArray 23)) w.heap.size (ccells sm)):=LAt.new _ _ _
 have HW:Hid (Below w.heap.size w (w.alloc (.cells (ccells sm).toArray 23))):=C.below_alloc w _
 clear hz
 go_enter func27,ntmps27
 go_wp2_with ((with_reducible refine C.at_ops ?_);(first | ((refine C.wpList_alloc_is (by rfl) 23 rfl HA.out ?_);simp only[Act.put,zA,zB]) | ((refine C.wpList_build_is (vs:=[(0,.int .i64 3),(1,.int .i64 4),(2,.int .i64 2),(3,.int .i64 3),(4,.int .i64 2)]) (by rfl) 23 rfl (by rfl) HB.out ?_);simp only[Act.put,zA,zB,zC]) | (refine stI 23 HS.out ?_)))
 (try simp only[Exit.inBlock,Exit.then])
 exact bodyPost_ret (results_one results27 _ _ w.heap.size 23 _ _ (by rfl) HL.out underlying23 rfl (by rw[size23,ccells_len])) rfl ⟨rfl,HW.out⟩
end Go.Proofs.YtcdjepkhdjpjcaaGreatDoor.Q
namespace Go.Proofs.YtcdjepkhdjpjcaaGreatDoor.Q
open Go.RowKit
def va:List Int:=1 :: C.zs 31
def vb:List Int:=2 :: C.zs 31
def xa:Sx:=(txS (x0 sm) [] [2,0] [va,vb] true).1
theorem xa_due:dueS xa 3=true:=by decide
theorem xa_L:xa.L=[⟨0,va,2⟩,⟨2,vb,2⟩]∧xa.p=2∧xa.s=true:=by exact⟨by rfl,by rfl,by rfl⟩
structure Run (x:Sx) (pd:List Cm):Prop where
 I:x.a.I=[]
 W:x.a.W=[]∨x.a.fits=false
 us:x.a.used=x.g.fin-x.g.tail
 im:x.g.imgs=0
 n:x.n=x.g.c.bl
 bl:x.a.bl=x.g.c.bl
 lc:x.a.lc=x.g.c.lc
 mr:x.a.mr=x.g.c.mr
 fn:x.g.fin≤1000000
 ls:x.s=true→x.p<x.g.fin
 pd:∀q∈pd,q.2<x.g.fin
 L:∀e∈x.L,e.p<x.g.fin
structure Mid (x:Sx) (pd:List Cm) (t:Int) (f r:List Int):Prop where
 I:x.a.I=[(t,f,(r.length:Int)+1)]
 W:x.a.W=[]
 us:x.a.used=x.g.fin-x.g.tail
 im:x.g.imgs=(f.length:Int)-r.length
 la:∀b∈r,x.g.last<b∧b<x.g.c.bl
 up:r.Pairwise (· < ·)
 fm:(f.length:Int)≤x.g.c.mr
 n:x.n=x.g.c.bl
 bl:x.a.bl=x.g.c.bl
 lc:x.a.lc=x.g.c.lc
 mr:x.a.mr=x.g.c.mr
 fn:x.g.fin+r.length+1≤1000000
 ls:x.s=true→x.p<x.g.fin
 pd:∀q∈pd,q.2<x.g.fin
 L:∀e∈x.L,e.p<x.g.fin
section
variable {x:Sx} {pd:List Cm} {t:Int} {f r:List Int}
theorem Mid.rsv (h:Mid x pd t f r):x.a.rsv=(r.length:Int)+1:=by
 unfold E.Ad.rsv
 rw[h.I]
 show E.L.total [(t,(r.length:Int)+1)]=_
 simp[E.L.total]
theorem Mid.more (h:Mid x pd t f r)(ok:x.Ok):moreS x.g=0:=by
 have h1:=ok.a.room
 have h2:=h.us
 have h3:=h.lc
 have h4:=h.fn
 rw[h.rsv] at h1
 exact moreS_ok (by omega) (by omega)
theorem Mid.imgs {b:Int}(h:Mid x pd t f (b :: r))(ok:x.Ok):imgS x.g b=0:=by
 refine imgS_ok (h.more ok) ?_
 have h1:=h.la b List.mem_cons_self
 have h2:=h.im
 have h3:=h.fm
 rw[List.length_cons] at h2
 rintro (e | e | e) <;> omega
theorem fi_one (t:Int)(f:List Int)(n:Int):E.fi t [(t,f,n)]=some (f,n):=if_pos rfl
theorem Mid.img {b:Int}(h:Mid x pd t f (b :: r))(ok:x.Ok)(v:List Int):Mid ((x.img b v).app t) pd t f r:=by
 have e0:=h.imgs ok
 have hla:=h.la b List.mem_cons_self
 have e1:x.img b v={ x with g:=imgG x.g b,ws:=x.ws++[⟨(secN x.g x.g.fin).toNat,R.encS (imgR x.g b v)⟩] }:=by unfold Sx.img;rw[if_pos e0]
 have hI:=h.I
 have e2:x.a.appE t=0:=by
  unfold E.Ad.appE
  rw[hI,fi_one]
  show (if ((((b :: r).length:Nat):Int)+1)=1 then (120:Int) else 0)=0
  rw[if_neg (by rw[List.length_cons];omega)]
 have e3:x.a.appS t={ x.a with used:=x.a.used+1,I:=[(t,f,(r.length:Int)+1)] }:=by
  unfold E.Ad.appS
  rw[if_pos e2,hI]
  simp only[E.decI,if_pos]
  rw[show (((b :: r).length:Nat):Int)+1-1=(r.length:Int)+1 by rw[List.length_cons];omega]
 rw[e1]
 unfold Sx.app
 show Mid { x with g:=imgG x.g b,ws:=x.ws++[⟨(secN x.g x.g.fin).toNat,R.encS (imgR x.g b v)⟩],a:=x.a.appS t,c:=x.c+1 } pd t f r
 rw[e3]
 have hu:=List.pairwise_cons.1 h.up
 refine⟨rfl,h.W,?_,?_,fun c hc=>⟨hu.1 c hc,(h.la c (List.mem_cons_of_mem _ hc)).2⟩,hu.2,h.fm,h.n,h.bl,h.lc,h.mr,?_,fun s=>?_,fun q hq=>?_,fun e he=>?_⟩
 ·have:=h.us;show x.a.used+1=x.g.fin+1-x.g.tail;omega
 ·have:=h.im;rw[List.length_cons] at this;show x.g.imgs+1=_;omega
 ·have:=h.fn;rw[List.length_cons] at this;show x.g.fin+1+(r.length:Int)+1≤_;omega
 ·have:=h.ls s;show x.p<x.g.fin+1;omega
 ·have:=h.pd q hq;show q.2<x.g.fin+1;omega
 ·have:=h.L e he;show e.p<x.g.fin+1;omega
theorem Mid.imR (h:Mid x pd t f r)(ok:x.Ok):∀vs:List (List Int),∃y r',imR t x (r.zip vs)=(y,true)∧Mid y pd t f r'∧y.Ok:=by
 induction r generalizing x with
 | nil=>exact fun vs=>⟨x,[],rfl,h,ok⟩
 | cons b r ih =>
  intro vs
  cases vs with
  | nil=>exact⟨x,b :: r,rfl,h,ok⟩
  | cons v vs =>
   obtain ⟨y,r',e,hm,hk⟩:=ih (h.img ok v) ((ok.img b v).app t) vs
   exact⟨y,r',by rw[List.zip_cons_cons,imR_cons (h.imgs ok)];exact e,hm,hk⟩
theorem Mid.com (h:Mid x pd t f r)(ok:x.Ok)(l:List C.Im):Run (x.com.don t) (pd++[(l,x.g.fin)]):=by
 have e0:=h.more ok
 have e1:x.com={ x with g:=comG x.g,ws:=x.ws++[⟨(secN x.g x.g.fin).toNat,R.encS (comR x.g)⟩] }:=by unfold Sx.com;rw[if_pos e0]
 have hI:=h.I
 have e2:x.a.donE t=0:=by
  unfold E.Ad.donE
  rw[hI,fi_one]
 have e3:x.a.donS t={ x.a with used:=x.a.used+1,I:=[] }:=by
  unfold E.Ad.donS
  rw[if_pos e2,hI]
  simp only[E.cutI,if_pos]
 rw[e1]
 unfold Sx.don
 show Run { x with g:=comG x.g,ws:=x.ws++[⟨(secN x.g x.g.fin).toNat,R.encS (comR x.g)⟩],a:=x.a.donS t,c:=x.c+1 } _
 rw[e3]
 refine⟨rfl,.inl h.W,?_,rfl,h.n,h.bl,h.lc,h.mr,?_,fun s=>?_,fun q hq=>?_,fun e he=>?_⟩
 ·have:=h.us;show x.a.used+1=x.g.fin+1-x.g.tail;omega
 ·have:=h.fn;show x.g.fin+1≤_;omega
 ·have:=h.ls s;show x.p<x.g.fin+1;omega
 ·show q.2<x.g.fin+1
  rcases List.mem_append.1 hq with hq | hq
  ·have:=h.pd q hq;omega
  ·rw[List.mem_singleton.1 hq];show x.g.fin<x.g.fin+1;omega
 ·have:=h.L e he;show e.p<x.g.fin+1;omega
theorem mem_lays {L:List C.En}{p:Int}{e:C.En}:∀{l:List C.Im},e∈C.lays L l p→e∈L∨e.p=p:=by
 intro l
 induction l generalizing L with
 | nil=>exact fun h=>.inl h
 | cons i l ih =>
  intro h
  rcases ih h with h | h
  ·rcases C.mem_lay.1 h with rfl | ⟨h,_⟩
   ·exact .inr rfl
   ·exact .inl h
  ·exact .inr h
theorem Run.ack (h:Run x pd):Run (ackX x pd) pd.tail:=by
 cases pd with
 | nil=>exact h
 | cons q pd =>
  have hq:q.2<x.g.fin:=h.pd q List.mem_cons_self
  refine⟨h.I,h.W,h.us,h.im,h.n,h.bl,h.lc,h.mr,h.fn,?_,fun z hz=>h.pd z (List.mem_cons_of_mem _ hz),?_⟩
  ·show C.putS x.n x.s x.p q.1 q.2=true→C.putP x.n x.s x.p q.1 q.2<x.g.fin
   unfold C.putS C.putP
   by_cases e:C.putE x.n (C.nxR x.s x.p) q.1 q.2=0
   ·rw[if_pos e,if_pos e];exact fun _=>hq
   ·rw[if_neg e,if_neg e];exact h.ls
  ·show ∀e∈C.putL x.n x.L (C.nxR x.s x.p) q.1 q.2,e.p<x.g.fin
   unfold C.putL
   by_cases e:C.putE x.n (C.nxR x.s x.p) q.1 q.2=0
   ·rw[if_pos e]
    intro z hz
    rcases mem_lays hz with hz | hz
    ·exact h.L z hz
    ·rw[hz];exact hq
   ·rw[if_neg e];exact h.L
theorem Run.ackN (h:Run x pd)(k:Nat):Run (ackN k x pd).1 (ackN k x pd).2:=by
 induction k generalizing x pd with
 | zero=>exact h
 | succ k ih=>exact ih h.ack
theorem fits_cons {a:E.Ad}{z:Int × List Int}{r:List (Int × List Int)}(h:a.W=z :: r):a.fits=decide (a.used+a.rsv+z.2.length+1≤a.lc):=by unfold E.Ad.fits;rw[h]
theorem fits_snoc {a:E.Ad}{z y:Int × List Int}{r:List (Int × List Int)}(h:a.W=z :: r)(k:Int):({ a with next:=k,W:=a.W++[y] }:E.Ad).fits=a.fits:=by
 rw[fits_cons h,fits_cons (a:={ a with next:=k,W:=a.W++[y] }) (z:=z) (r:=r++[y]) (by show a.W++[y]=_;rw[h];rfl)]
 rfl
theorem beg_a {xs:List Int}(e:x.a.begE xs=0):(x.beg xs).a={ x.a with next:=x.a.next+1,W:=x.a.W++[(x.a.next,x.a.begF xs)] }:=by
 show x.a.begS xs=_
 unfold E.Ad.begS;rw[if_pos e]
theorem Run.stuck {xs:List Int}(h:Run x pd)(e:x.a.begE xs=0)(hn:¬((x.beg xs).a.entE=0∧(x.beg xs).a.entT=x.a.begT xs)):Run (x.beg xs).ent pd:=by
 have ha:=beg_a e
 have hf:(x.beg xs).a.fits=false:=by
  cases hW:x.a.W with
  | nil =>
   cases hf:(x.beg xs).a.fits with
   | false=>rfl
   | true =>
    refine absurd ⟨?_,?_⟩ hn
    ·unfold E.Ad.entE
     rw[ha]
     show (match x.a.W++[(x.a.next,x.a.begF xs)] with | []=>(110:Int) | _ :: _=>if ({ x.a with next:=x.a.next+1,W:=x.a.W++[(x.a.next,x.a.begF xs)] }:E.Ad).fits then 0 else 120)=0
     rw[← ha,hf,hW]
     rfl
    ·have e0:(x.beg xs).a.entE=0:=by
      unfold E.Ad.entE
      have hw:(x.beg xs).a.W=[(x.a.next,x.a.begF xs)]:=by rw[ha];show x.a.W++_=_;rw[hW];rfl
      rw[hw,hf]
      rfl
     unfold E.Ad.entT E.Ad.begT E.Ad.fT
     have hw:(x.beg xs).a.W=[(x.a.next,x.a.begF xs)]:=by rw[ha];show x.a.W++_=_;rw[hW];rfl
     rw[if_pos e0,if_pos e,hw]
  | cons z r =>
   rw[ha,fits_snoc hW]
   rcases h.W with hw | hw
   ·rw[hW] at hw;cases hw
   ·exact hw
 have he:¬(x.beg xs).a.entE=0:=fun e0=>by
  obtain ⟨_,_,_,hf'⟩:=E.Ad.entE_ok e0
  rw[hf] at hf';cases hf'
 have hs:(x.beg xs).a.entS=(x.beg xs).a:=by unfold E.Ad.entS;rw[if_neg he]
 have hx:(x.beg xs).ent={ x with a:=(x.beg xs).a,c:=x.c+1+1 }:=by
  show { x.beg xs with a:=(x.beg xs).a.entS,c:=x.c+1+1 }=_
  rw[hs];rfl
 rw[hx]
 refine⟨?_,.inr hf,?_,h.im,h.n,?_,?_,?_,h.fn,h.ls,h.pd,h.L⟩
 ·show (x.beg xs).a.I=[];rw[ha];exact h.I
 ·show (x.beg xs).a.used=_;rw[ha];exact h.us
 ·show (x.beg xs).a.bl=_;rw[ha];exact h.bl
 ·show (x.beg xs).a.lc=_;rw[ha];exact h.lc
 ·show (x.beg xs).a.mr=_;rw[ha];exact h.mr
theorem Run.enter {xs:List Int}(h:Run x pd)(ok:x.Ok)(hf:x.g.fin+18≤1000000)(e:x.a.begE xs=0)(hy:(x.beg xs).a.entE=0∧(x.beg xs).a.entT=x.a.begT xs):Mid (x.beg xs).ent pd (x.a.begT xs) (x.a.begF xs) (x.a.begF xs):=by
 have ha:=beg_a e
 obtain ⟨z,r,hW,hfit⟩:=E.Ad.entE_ok hy.1
 have hW0:x.a.W=[]:=by
  rcases h.W with hw | hw
  ·exact hw
  ·cases hw0:x.a.W with
   | nil=>rfl
   | cons z' r'=>rw[ha,fits_snoc hw0,hw] at hfit;cases hfit
 have hw:(x.beg xs).a.W=[(x.a.next,x.a.begF xs)]:=by rw[ha];show x.a.W++_=_;rw[hW0];rfl
 have ht:x.a.begT xs=x.a.next:=by unfold E.Ad.begT;rw[if_pos e]
 have hs:(x.beg xs).a.entS={ (x.beg xs).a with W:=[],I:=[(x.a.next,x.a.begF xs,((x.a.begF xs).length:Int)+1)],got:=x.a.next }:=by
  unfold E.Ad.entS E.Ad.fT E.Ad.fF
  rw[if_pos hy.1,hw]
  have hi:(x.beg xs).a.I=[]:=by rw[ha];exact h.I
  rw[hi]
  rfl
 have hx:(x.beg xs).ent={ x with a:={ (x.beg xs).a with W:=[],I:=[(x.a.next,x.a.begF xs,((x.a.begF xs).length:Int)+1)],got:=x.a.next },c:=x.c+1+1 }:=by
  show { x.beg xs with a:=(x.beg xs).a.entS,c:=x.c+1+1 }=_
  rw[hs];rfl
 obtain ⟨e1,-,-,hb,hl⟩:=E.B.formS_ok (xs:=xs) (b:=x.a.bl) (m:=x.a.mr) e
 have hb:=of_decide_eq_true hb
 have ef:x.a.begF xs=E.B.diffS xs:=e1
 have hin:∀b∈x.a.begF xs,0≤b∧b<x.a.bl:=fun b hb'=>hb b ((E.B.mem_diffS b xs).1 (by rw[← ef];exact hb'))
 have hlast:x.g.last=-1:=by
  rcases ok.g.il with h1 | h1
  ·exact h1.2
  ·have:=h.im;omega
 have hlen:=begF_few ok e
 rw[hx,ht]
 refine⟨rfl,rfl,?_,?_,fun b hb'=>?_,?_,?_,h.n,?_,?_,?_,?_,h.ls,h.pd,h.L⟩
 ·show (x.beg xs).a.used=_;rw[ha];exact h.us
 ·show x.g.imgs=_;rw[h.im];omega
 ·have:=hin b hb';have:=h.bl;show x.g.last<b∧b<x.g.c.bl;omega
 ·rw[ef];exact E.B.up_diffS xs
 ·have:=h.mr;show _≤x.g.c.mr;rw[ef];omega
 ·show (x.beg xs).a.bl=_;rw[ha];exact h.bl
 ·show (x.beg xs).a.lc=_;rw[ha];exact h.lc
 ·show (x.beg xs).a.mr=_;rw[ha];exact h.mr
 ·have:=hlen.1;show x.g.fin+_+1≤_;omega
theorem Run.tx (h:Run x pd)(ok:x.Ok)(hf:x.g.fin+18≤1000000)(xs:List Int)(vs:List (List Int))(pb:Bool):Run (txS x pd xs vs pb).1 (txS x pd xs vs pb).2:=by
 by_cases e:x.a.begE xs=0
 ·by_cases hy:(x.beg xs).a.entE=0∧(x.beg xs).a.entT=x.a.begT xs
  ·obtain ⟨y,r',ei,hm,hk⟩:=(h.enter ok hf e hy).imR ((ok.beg xs).ent) vs
   rw[txS_all e hy ei (hm.more hk)]
   cases pb with
   | true=>rw[if_pos rfl];exact (hm.com hk _).ackN _
   | false=>rw[if_neg (by decide)];exact hm.com hk _
  ·rw[txS_ent e hy];exact h.stuck e hy
 ·rw[txS_beg e]
  have hs:x.a.begS xs=x.a:=by unfold E.Ad.begS;rw[if_neg e]
  have hx:x.beg xs={ x with c:=x.c+1 }:=by
   show { x with a:=x.a.begS xs,c:=x.c+1 }=_
   rw[hs]
  rw[hx]
  exact⟨h.I,h.W,h.us,h.im,h.n,h.bl,h.lc,h.mr,h.fn,h.ls,h.pd,h.L⟩
end
structure Bd (x y:Sx) (k j:Nat):Prop where
 c:y.c≤x.c+k
 nx:y.a.next≤x.a.next+j
 ws:y.ws.length≤x.ws.length+k
 fn:y.g.fin≤x.g.fin+k
 tl:y.g.tail=x.g.tail
 ma:y.g.mark=x.g.mark
 cf:y.g.c=x.g.c
 sc:∀z∈y.ws,z∈x.ws∨1+x.g.c.bl≤(z.s:Int)
section
variable {x y z:Sx} {k j k' j':Nat}
theorem Bd.trans (h:Bd x y k j)(h':Bd y z k' j'):Bd x z (k+k') (j+j'):=by
 refine⟨?_,?_,?_,?_,h'.tl.trans h.tl,h'.ma.trans h.ma,h'.cf.trans h.cf,fun u hu=>?_⟩
 ·have:=h.c;have:=h'.c;omega
 ·have:=h.nx;have:=h'.nx;omega
 ·have:=h.ws;have:=h'.ws;omega
 ·have:=h.fn;have:=h'.fn;omega
 ·rcases h'.sc u hu with h1 | h1
  ·exact h.sc u h1
  ·rw[h.cf] at h1;exact .inr h1
theorem Bd.mono (h:Bd x y k j)(hk:k≤k')(hj:j≤j'):Bd x y k' j':=by
 refine⟨?_,?_,?_,?_,h.tl,h.ma,h.cf,h.sc⟩
 ·have:=h.c;omega
 ·have:=h.nx;omega
 ·have:=h.ws;omega
 ·have:=h.fn;omega
theorem Bd.refl (x:Sx):Bd x x 0 0:=⟨Nat.le_refl _,by omega,Nat.le_refl _,by omega,rfl,rfl,rfl,fun _ h=>.inl h⟩
theorem Bd.beg (x:Sx)(xs:List Int):Bd x (x.beg xs) 1 1:=⟨Nat.le_refl _,beg_next x xs,Nat.le_succ _,by show x.g.fin≤_;omega,rfl,rfl,rfl,fun _ h=>.inl h⟩
theorem Bd.ent (x:Sx):Bd x x.ent 1 0:=⟨Nat.le_refl _,by rw[ent_next];omega,Nat.le_succ _,by show x.g.fin≤_;omega,rfl,rfl,rfl,fun _ h=>.inl h⟩
theorem Bd.app (x:Sx)(t:Int):Bd x (x.app t) 1 0:=⟨Nat.le_refl _,by rw[app_next];omega,Nat.le_succ _,by show x.g.fin≤_;omega,rfl,rfl,rfl,fun _ h=>.inl h⟩
theorem Bd.don (x:Sx)(t:Int):Bd x (x.don t) 1 0:=⟨Nat.le_refl _,by rw[don_next];omega,Nat.le_succ _,by show x.g.fin≤_;omega,rfl,rfl,rfl,fun _ h=>.inl h⟩
theorem sec_log {g:Lg}(h:g.Ok)(p:Int):1+g.c.bl≤((secN g p).toNat:Int):=by
 have h1:=h.cf.1;have h2:=h.cf.2.1
 have h4:=Int.emod_nonneg p (show g.c.lc≠0 by omega)
 unfold secN;omega
theorem snoc_sc {l:List Wr}{u:Wr}{b:Int}(hu:b≤(u.s:Int)):∀z∈l++[u],z∈l∨b≤(z.s:Int):=fun z hz=>by
 rcases List.mem_append.1 hz with hz | hz
 ·exact .inl hz
 ·rw[List.mem_singleton.1 hz];exact .inr hu
theorem Bd.img (h:x.Ok)(b:Int)(v:List Int):Bd x (x.img b v) 1 0:=by
 unfold Sx.img
 by_cases e:imgS x.g b=0
 ·rw[if_pos e];exact⟨Nat.le_succ _,by show x.a.next≤_;omega,by simp,Int.le_refl _,rfl,rfl,rfl,snoc_sc (sec_log h.g _)⟩
 ·rw[if_neg e];exact (Bd.refl x).mono (by omega) (by omega)
theorem Bd.com (h:x.Ok):Bd x x.com 1 0:=by
 unfold Sx.com
 by_cases e:moreS x.g=0
 ·rw[if_pos e];exact⟨Nat.le_succ _,by show x.a.next≤_;omega,by simp,Int.le_refl _,rfl,rfl,rfl,snoc_sc (sec_log h.g _)⟩
 ·rw[if_neg e];exact (Bd.refl x).mono (by omega) (by omega)
theorem Bd.ack (x:Sx)(pd:List Cm):Bd x (ackX x pd) 0 0:=by
 cases pd with
 | nil=>exact Bd.refl x
 | cons q r=>exact⟨Nat.le_refl _,by show x.a.next≤_;omega,Nat.zero_le _,by show x.g.fin≤_;omega,rfl,rfl,rfl,fun z hz=>absurd hz List.not_mem_nil⟩
theorem Bd.ackN (k:Nat)(x:Sx)(pd:List Cm):Bd x (Q.ackN k x pd).1 0 0:=by
 induction k generalizing x pd with
 | zero=>exact Bd.refl x
 | succ k ih=>exact (Bd.ack x pd).trans (ih _ _)
theorem ackN_len (k:Nat)(x:Sx)(pd:List Cm):(Q.ackN k x pd).2.length≤pd.length:=by
 induction k generalizing x pd with
 | zero=>exact Nat.le_refl _
 | succ k ih=>exact Nat.le_trans (ih _ _) (by rw[List.length_tail];omega)
theorem Bd.imR (t:Int):∀(zs:List (Int × List Int)) (x:Sx),x.Ok→Bd x (Q.imR t x zs).1 (2*zs.length) 0∧(Q.imR t x zs).1.Ok
 | [],x,h=>⟨Bd.refl x,h⟩
 | z :: zs,x,h=>by
  by_cases e:imgS x.g z.1=0
  ·rw[imR_cons e]
   obtain ⟨h1,h2⟩:=Bd.imR t zs ((x.img z.1 z.2).app t) ((h.img _ _).app t)
   exact⟨(((Bd.img h z.1 z.2).trans (Bd.app _ t)).trans h1).mono (by rw[List.length_cons];omega) (by omega),h2⟩
  ·rw[imR_no e];exact⟨(Bd.refl x).mono (by omega) (by omega),h⟩
theorem Bd.tx (h:x.Ok)(pd:List Cm)(xs:List Int)(vs:List (List Int))(pb:Bool):Bd x (txS x pd xs vs pb).1 36 1∧(txS x pd xs vs pb).2.length≤pd.length+1:=by
 by_cases e:x.a.begE xs=0
 ·by_cases hy:(x.beg xs).a.entE=0∧(x.beg xs).a.entT=x.a.begT xs
  ·obtain ⟨y,b,ei⟩:∃y b,Q.imR (x.a.begT xs) (x.beg xs).ent ((x.a.begF xs).zip vs)=(y,b):=⟨_,_,rfl⟩
   obtain ⟨b1,hk⟩:=Bd.imR (x.a.begT xs) ((x.a.begF xs).zip vs) _ (h.beg xs).ent
   rw[ei] at b1 hk
   have hl:((x.a.begF xs).zip vs).length≤16:=by have:=(begF_few h e).1;rw[List.length_zip];omega
   have b2:Bd x y 34 1:=(((Bd.beg x xs).trans (Bd.ent _)).trans b1).mono (by omega) (by omega)
   cases b with
   | false=>rw[txS_img e hy ei];exact⟨b2.mono (by omega) (by omega),Nat.le_succ _⟩
   | true =>
    by_cases hm:moreS y.g=0
    ·rw[txS_all e hy ei hm]
     have b3:Bd x (y.com.don (x.a.begT xs)) 36 1:=(b2.trans ((Bd.com hk).trans (Bd.don _ _))).mono (by omega) (by omega)
     cases pb with
     | true =>
      rw[if_pos rfl]
      exact⟨(b3.trans (Bd.ackN _ _ _)).mono (by omega) (by omega),Nat.le_trans (ackN_len _ _ _) (by simp)⟩
     | false=>rw[if_neg (by decide)];exact⟨b3,by simp⟩
    ·rw[txS_com e hy ei hm];exact⟨b2.mono (by omega) (by omega),Nat.le_succ _⟩
  ·rw[txS_ent e hy];exact⟨((Bd.beg x xs).trans (Bd.ent _)).mono (by omega) (by omega),Nat.le_succ _⟩
 ·rw[txS_beg e];exact⟨(Bd.beg x xs).mono (by omega) (by omega),Nat.le_succ _⟩
end
theorem Run.start {s:Sup}(_h:MayC s):Run (x0 s) []:=⟨rfl,.inl rfl,rfl,rfl,rfl,rfl,rfl,rfl,by show (0:Int)≤_;omega,fun h=>(by cases h),fun _ h=>absurd h List.not_mem_nil,fun _ h=>absurd h List.not_mem_nil⟩
theorem sec_setl {ws:List Wr}{d:List Int}{n i:Nat}(hd:d.length=64*n)(hw:Fit n ws)(hi:i<n):∀k,sec (setl (fun _=>true) ws d k) i=newk ws d i k
 | 0=>rfl
 | k+1=>by
  have ih:=sec_setl hd hw hi k
  by_cases hk:k<ws.length
  ·rw[setl_step _ ws d k hk,if_pos rfl,newk_step ws d i k hk,sec_put (setl_length hd hw k) (hw.at k hk).1 (hw.at k hk).2.1 hi,ih]
   by_cases e:i=ws[k].s
   ·rw[if_pos e,if_pos e.symm]
   ·rw[if_neg e,if_neg (fun h=>e h.symm)]
  ·simp only[setl,newk,List.getElem?_eq_none (show ws.length≤k by omega)];exact ih
theorem newest_settled {ws:List Wr}{d:List Int}{n i:Nat}(hd:d.length=64*n)(hw:Fit n ws)(hi:i<n):newest [] (settle (fun _=>true) ws d) i=newest ws d i:=sec_setl hd hw hi ws.length
theorem cutV_home (b:Int){v:List Int}(h:v.length=32):cutV (homeS b v)=v:=by
 unfold cutV homeS hbody
 have e:([72,79,77,69,1,b]++(zs 22++v)++digits 4 (crc ([72,79,77,69,1,b]++(zs 22++v)):Nat)).drop 28=v++digits 4 (crc ([72,79,77,69,1,b]++(zs 22++v)):Nat):=by
  rw[show [72,79,77,69,1,b]++(zs 22++v)++digits 4 (crc ([72,79,77,69,1,b]++(zs 22++v)):Nat)=([72,79,77,69,1,b]++zs 22)++(v++digits 4 (crc ([72,79,77,69,1,b]++(zs 22++v)):Nat)) by simp only[List.append_assoc]]
  exact List.drop_left' (by simp[zs_len])
 rw[e]
 exact List.take_left' h
theorem hdec_home {b:Int}(hb:inB b){v:List Int}(h:v.length=32):hdec (homeS b v) b=(v,0):=by
 rw[hdec_ok hb (homeS_len b h) (by rw[cutV_home b h]),cutV_home b h]
structure Dk (x:Sx):Prop where
 dl:x.d.length=64*x.g.sz
 fit:Fit x.g.sz x.ws
theorem DS.dk {w0 w:World}{K:Ks}{x y:Sx}{pd:List Cm}{X:Nat→Th}(h:DS w0 w K x y pd X):Dk x:=by
 obtain ⟨S,hl,-,-⟩:=h.plog
 obtain ⟨q,cap,v,hp⟩:=hl.dsk
 exact⟨hp.dl,hp.fit⟩
structure Ph (t tl:Int) (L:List C.En) (j:Nat) (x:Sx) (p:Pt):Prop where
 j1:1≤j
 j2:j≤L.length+3
 pt:p=⟨if j≤L.length then 2 else if j=L.length+1 then 3 else if j=L.length+2 then 4 else 5,t,L,if j≤L.length then j-1 else L.length⟩
 ta:x.g.tail=tl
 tt:tl<t∧t≤x.g.fin
 us:x.a.used=x.g.fin-tl
 ma:j=L.length+3→x.g.mark=t
 hm:∀i e,i+1<j→L[i]?=some e→newest x.ws x.d (1+e.b).toNat=homeS e.b e.v
 lo:j≤L.length+2→∀z∈x.ws,1≤z.s
 no:j=L.length+2→x.ws=[]
 up:C.UpE L
 ins:∀e∈L,0≤e.b∧e.b<x.g.c.bl
 wf:C.EnsWf L
section
variable {t tl hi:Int} {L:List C.En} {j:Nat} {x:Sx} {p:Pt}
theorem up_at {L:List C.En}(hu:C.UpE L){i k:Nat}{e z:C.En}(hi:L[i]?=some e)(hk:L[k]?=some z)(h:i<k):e.b<z.b:=by
 obtain ⟨h1,rfl⟩:=List.getElem?_eq_some_iff.1 hi
 obtain ⟨h2,rfl⟩:=List.getElem?_eq_some_iff.1 hk
 exact List.pairwise_iff_getElem.1 hu i k h1 h2 h
theorem Ph.start {pd:List Cm}(h:Run x pd)(ok:x.Ok)(hd:dueS x hi=true)(hs:∀z∈x.ws,1≤z.s)(p:Pt)(hp:p.st=1):(stepS hi x p).1=rowC 14 (-1) zv (x.p+1) x.L.length∧(stepS hi x p).2.1=0∧(stepS hi x p).2.2.1=x∧Ph (x.p+1) x.g.tail x.L 1 x (stepS hi x p).2.2.2:=by
 have e:stepS hi x p=choS hi x p:=by unfold stepS;rw[hp];rfl
 have e2:choS hi x p=(rowC 14 (-1) zv (x.p+1) x.L.length,0,x,⟨if 0<x.L.length then 2 else 3,x.p+1,x.L,0⟩):=by unfold choS;rw[if_pos hd]
 rw[e,e2]
 have hd1:x.s=true∧x.g.tail<x.p+1:=by
  unfold dueS at hd
  simp only[Bool.and_eq_true,decide_eq_true_eq] at hd
  exact⟨hd.1.1,hd.1.2⟩
 refine⟨rfl,rfl,rfl,Nat.le_refl _,by omega,?_,rfl,⟨hd1.2,?_⟩,h.us,fun e=>by omega,fun i e hi=>by omega,fun _=>hs,fun e=>by omega,ok.k.up,fun e he=>?_,ok.k.wf⟩
 ·cases hl:x.L with
  | nil=>rfl
  | cons a l=>rfl
 ·have:=h.ls hd1.1;omega
 ·have:=ok.k.ins e he;have:=h.n;show _∧e.b<x.g.c.bl;omega
theorem Ph.carry (h:Ph t tl L j x p)(ok:x.Ok)(hj:j≤L.length):∃e,L[j-1]?=some e∧(stepS hi x p).1=rowC 15 e.b e.v 0 0∧(stepS hi x p).2.1=0∧(stepS hi x p).2.2.1={ x with ws:=x.ws++[⟨(1+e.b).toNat,homeS e.b e.v⟩] }∧Ph t tl L (j+1) (stepS hi x p).2.2.1 (stepS hi x p).2.2.2:=by
 have j1:=h.j1
 have hlt:j-1<L.length:=by omega
 obtain ⟨e,he⟩:∃e,L[j-1]?=some e:=⟨_,List.getElem?_eq_getElem hlt⟩
 have hp:=h.pt
 rw[if_pos hj,if_pos hj] at hp
 have hz:(L.drop (j-1)).headD C.en0=e:=by
  rw[drop_cons he];rfl
 have hin:=h.ins e (List.mem_of_getElem? he)
 have hsv:x.savE e.b=0:=rbS_ok (rfS_ok ok.g.cf (by rw[ok.g.sz_is])) hin
 have e1:stepS hi x p=(rowC 15 e.b e.v 0 0,0,x.sav e.b e.v,⟨if j-1+1<L.length then 2 else 3,t,L,j-1+1⟩):=by
  unfold stepS
  rw[hp,if_pos rfl]
  show carS x ⟨2,t,L,j-1⟩ ((L.drop (j-1)).headD C.en0)=_
  rw[hz,carS,if_pos hsv]
 have e2:x.sav e.b e.v={ x with ws:=x.ws++[⟨(1+e.b).toNat,homeS e.b e.v⟩] }:=by
  unfold Sx.sav
  rw[svW_yes _ _ hsv]
 refine⟨e,he,by rw[e1],by rw[e1],by rw[e1,e2],?_⟩
 rw[e1,e2]
 refine⟨by omega,by omega,?_,h.ta,h.tt,h.us,fun e=>by omega,fun i e' hi he'=>?_,fun _ z hz=>?_,fun e=>by omega,h.up,h.ins,h.wf⟩
 ·have k1:j-1+1=j:=by omega
  rw[k1]
  by_cases c:j+1≤L.length
  ·rw[if_pos c,if_pos c,if_pos (by omega)];rfl
  ·rw[if_neg c,if_neg c,if_neg (by omega),if_pos (by omega),show j=L.length by omega]
 ·show newest (x.ws++[_]) x.d (1+e'.b).toNat=_
  rw[newest_snoc]
  by_cases c:i=j-1
  ·subst c
   rw[he] at he'
   cases he'
   rw[if_pos rfl]
  ·have:=up_at h.up he' he (by omega)
   have h':=h.ins e' (List.mem_of_getElem? he')
   rw[if_neg (by omega)]
   exact h.hm i e' (by omega) he'
 ·rcases List.mem_append.1 hz with hz | hz
  ·exact h.lo (by omega) z hz
  ·rw[List.mem_singleton.1 hz];show 1≤(1+e.b).toNat;omega
theorem Ph.flush (h:Ph t tl L j x p)(ok:x.Ok)(hk:Dk x)(hj:j=L.length+1):(stepS hi x p).1=rowC 12 (-1) zv 0 x.ws.length∧(stepS hi x p).2.1=0∧(stepS hi x p).2.2.1=x.fls∧Ph t tl L (j+1) (stepS hi x p).2.2.1 (stepS hi x p).2.2.2:=by
 have hp:=h.pt
 rw[if_neg (by omega),if_pos hj,if_neg (by omega)] at hp
 have e1:stepS hi x p=(rowC 12 (-1) zv 0 x.ws.length,0,x.fls,⟨4,t,L,L.length⟩):=by rw[hp];rfl
 rw[e1]
 refine⟨rfl,rfl,rfl,by omega,by omega,?_,h.ta,h.tt,h.us,fun e=>by omega,fun i e hi he=>?_,fun _ z hz=>absurd hz List.not_mem_nil,fun _=>rfl,h.up,h.ins,h.wf⟩
 ·rw[if_neg (by omega),if_neg (by omega),if_pos (by omega),if_neg (by omega)]
 ·show newest [] (settle (fun _=>true) x.ws x.d) (1+e.b).toNat=_
  have hin:=h.ins e (List.mem_of_getElem? he)
  have hc:=ok.g.sz_is
  have:=ok.g.cf.2.1
  rw[newest_settled hk.dl hk.fit (by omega)]
  exact h.hm i e (by have:=(List.getElem?_eq_some_iff.1 he).1;omega) he
theorem Ph.mark (h:Ph t tl L j x p)(hj:j=L.length+2):(stepS hi x p).1=rowC 16 (-1) zv t 0∧(stepS hi x p).2.1=0∧(stepS hi x p).2.2.1={ x with g:=mkG x.g t,ws:=x.ws++[⟨0,encS (supL x.g t)⟩] }∧Ph t tl L (j+1) (stepS hi x p).2.2.1 (stepS hi x p).2.2.2:=by
 have hp:=h.pt
 rw[if_neg (by omega),if_neg (by omega),if_pos hj,if_neg (by omega)] at hp
 have ho:¬Out x.g t:=by
  have:=h.tt;have:=h.ta
  rintro (e | e) <;> omega
 have e1:stepS hi x p=(rowC 16 (-1) zv t 0,0,x.mrk t,⟨5,t,L,L.length⟩):=by
  rw[hp]
  show mrkS x ⟨4,t,L,L.length⟩=_
  unfold mrkS
  rw[if_neg ho]
 have e2:x.mrk t={ x with g:=mkG x.g t,ws:=x.ws++[⟨0,encS (supL x.g t)⟩] }:=by unfold Sx.mrk;rw[if_neg ho]
 refine⟨by rw[e1],by rw[e1],by rw[e1,e2],?_⟩
 rw[e1,e2]
 refine⟨by omega,by omega,?_,h.ta,h.tt,h.us,fun _=>rfl,fun i e hi he=>?_,fun e=>by omega,fun e=>by omega,h.up,h.ins,h.wf⟩
 ·rw[if_neg (by omega),if_neg (by omega),if_neg (by omega),if_neg (by omega)]
 ·show newest (x.ws++[_]) x.d (1+e.b).toNat=_
  have hin:=h.ins e (List.mem_of_getElem? he)
  rw[newest_snoc,if_neg (by omega)]
  exact h.hm i e (by have:=(List.getElem?_eq_some_iff.1 he).1;omega) he
theorem Ph.free (h:Ph t tl L j x p)(ok:x.Ok)(hk:Dk x)(hj:j=L.length+3):(stepS hi x p).1=rowC 17 (-1) zv t (t-tl)∧(stepS hi x p).2.1=0∧(stepS hi x p).2.2.2=⟨1,0,[],0⟩∧(stepS hi x p).2.2.1.ws=[]∧(stepS hi x p).2.2.1.g.tail=t∧(stepS hi x p).2.2.1.a.used=x.a.used-(t-tl)∧(stepS hi x p).2.2.1.L=C.drps x.L L∧(stepS hi x p).2.2.1.g.c=x.g.c∧∀e∈L,ldS x.g.c (x.g.sz:Nat) (stepS hi x p).2.2.1.ws (stepS hi x p).2.2.1.d e.b=(e.v,0):=by
 have hp:=h.pt
 rw[if_neg (by omega),if_neg (by omega),if_neg (by omega),if_neg (by omega)] at hp
 have hmk:=h.ma hj
 have htl:=h.ta
 have htt:=h.tt
 have hus:=h.us
 have hg:x.g.mark=t∧¬x.a.used<t-x.g.tail:=⟨hmk,by omega⟩
 have e1:stepS hi x p=(rowC 17 (-1) zv t (x.g.mark-x.g.tail),0,(x.fre.frd (x.g.mark-x.g.tail)).drp L,⟨1,0,[],0⟩):=by
  rw[hp]
  show freS x ⟨5,t,L,L.length⟩=_
  unfold freS
  rw[if_pos hg]
 have eu:x.a.freS (x.g.mark-x.g.tail)={ x.a with used:=x.a.used-(x.g.mark-x.g.tail) }:=by
  unfold E.Ad.freS
  rw[if_pos (by omega)]
 refine⟨by rw[e1,hmk,htl],by rw[e1],by rw[e1],by rw[e1];rfl,by rw[e1];exact hmk,?_,by rw[e1];rfl,by rw[e1];rfl,fun e he=>?_⟩
 ·rw[e1]
  show (x.a.freS (x.g.mark-x.g.tail)).used=_
  rw[eu,hmk,htl]
 ·rw[e1]
  show ldS x.g.c _ [] (settle (fun _=>true) x.ws x.d) e.b=_
  have hin:=h.ins e he
  have hc:=ok.g.sz_is
  have hcf:=ok.g.cf.2.1
  have hcb:=ok.g.cf.1
  rw[ldS_yes _ _ (rbS_ok (rfS_ok ok.g.cf (by rw[hc])) hin),newest_settled hk.dl hk.fit (by omega)]
  obtain ⟨i,hi⟩:=List.getElem?_of_mem he
  rw[h.hm i e (by have:=(List.getElem?_eq_some_iff.1 hi).1;omega) hi]
  exact hdec_home ⟨hin.1,by omega⟩ (h.wf e he).len
theorem drps_self (L:List C.En):C.drps L L=[]:=by
 refine List.eq_nil_iff_forall_not_mem.2 fun x hx=>?_
 have:=(C.drps_mem.1 hx)
 have h2:=this.2 x this.1
 simp[C.isD] at h2
end
open Go.Proofs.Tryz
section
variable {w0 w w' w1:World} {K:Ks} {x y:Sx} {pd:List Cm} {X:Nat→Th}
theorem DS.base (h:DS w1 w' K x y pd X)(hb:Below w.heap.size w w1):DS w w' K x y pd X:=by
 obtain ⟨T,G,h,hX⟩:=h
 exact⟨T,G,⟨⟨h.fam.at',fun i hi b hb'=>Nat.le_trans hb.size (h.fam.lo i hi b hb'),h.fam.apart,h.fam.im,h.fam.glt⟩,C.below_then hb h.below,h.t0,h.t1,h.t2,h.t3,h.t4,h.t5,h.t6,h.okx,h.oky,h.cx,h.cy⟩,hX⟩
theorem DS.ldk (h:DS w0 w K x y pd X):(Instr.loadAt 37 (.pointer (some ⟨K.P,5,none⟩))).run prog w=.ok (.agg (pdk K).toArray) w:=by
 obtain ⟨v,h,-⟩:=h.desk
 exact run_loadAt_mid w K.P 5 37 (pdk K) _ (range_part (xs:=ccells K.c) (bs:=pdk K) (cs:=rdk K++[v]) h) underlying37 rfl (by rw[size_dk];rfl)
theorem DS.newblk (h:DS w0 w K x y pd X){k:Nat}(h8:8≤k)(cs:Array Value)(ty:TypeId):DS w0 (w.alloc (.cells cs ty)) K x y pd (put X k (.blk w.heap.size ty cs)) :=
 h.fresh (C.below_alloc w _) h8 (u:=.blk w.heap.size ty cs) (fun _=>heap_alloc_new w _) (fun b hb=>by have:b=w.heap.size:=hb;omega)
theorem DS.newpt (h:DS w0 w K x y pd X){k:Nat}(h8:8≤k):DS w0 (w.alloc (.cells #[.int .i64 1,.int .u64 0,.slice none 0 0,.int .i64 0] 87)) K x y pd (put X k (.pp w.heap.size (.slice none 0 0) ⟨1,0,[],0⟩)) :=
 h.fresh (C.below_alloc w _) h8 (u:=.pp w.heap.size (.slice none 0 0) ⟨1,0,[],0⟩) (fun _=>⟨⟨heap_alloc_new w _,own_none _ _,C.EnsWf.nil,Nat.zero_le _,Nat.le_refl _⟩,fun g hg=>by cases hg⟩) (fun b hb=>by have:b=w.heap.size:=hb;omega)
end
structure ScIn (w:World) (p:Option Addr) (m:Nat) (os:List Opv):Prop where
 len:os.length=m
 cells:0<m→∃b o,p=some ⟨b,o,none⟩∧∀k q,os[k]?=some q→w.rangeAt b (o+k*5) q.cells.toList
 set:∀q∈os,E.B.IIn w q.ps q.ms q.xs∧q.ms+80≤17592186044416
 val:∀q∈os,VsIn w q.pv q.mv q.vs∧q.mv*32≤140737488355328
theorem size_op:(prog.info? 81).map (·.size)=some 5:=by kernel_rfl
section
variable {w w':World} {p:Option Addr} {m:Nat} {os:List Opv}
theorem ScIn.later (h:ScIn w p m os)(hb:Below w.heap.size w w'):ScIn w' p m os:=by
 refine⟨h.len,fun h0=>?_,fun q hq=>⟨(h.set q hq).1.later hb,(h.set q hq).2⟩,fun q hq=>⟨(h.val q hq).1.later hb,(h.val q hq).2⟩⟩
 obtain ⟨b,o,e,hc⟩:=h.cells h0
 refine⟨b,o,e,fun k q hq=>?_⟩
 have h1:=hc k q hq
 have hl:b<w.heap.size:=World.block_lt_of_cell? w _ (h1 0 _ rfl)
 exact fun j v hv=>(hb.cell (p:=⟨b,o+k*5+j,none⟩) hl).trans (h1 j v hv)
theorem ScIn.load {b o:Nat}(h:ScIn w (some ⟨b,o,none⟩) m os){k:Nat}{q:Opv}(hk:os[k]?=some q):(Instr.loadAt 81 (.pointer (some ⟨b,o+k*5,none⟩))).run prog w=.ok (.agg q.cells) w:=by
 have hkl:=(List.getElem?_eq_some_iff.1 hk).1
 obtain ⟨b',o',e,hc⟩:=h.cells (by rw[← h.len];omega)
 cases e
 exact run_loadAt_mid w b (o+k*5) 81 q.cells.toList _ (hc k q hk) underlying81 rfl (by rw[size_op];rfl)
theorem ScIn.opr (h:ScIn w p m os){K:Ks}{X:Nat→Th}{q:Opv}(hq:q∈os):OpR w K X q :=
 ⟨fun _ _ _ _ _ hD _=>⟨(h.set q hq).1.later hD.below,(h.val q hq).1.later hD.below⟩,(h.set q hq).2,(h.val q hq).2⟩
end
structure Ran (s:Sup) (x:Sx) (pd:List Cm) (k:Nat):Prop where
 run:Run x pd
 c:x.c≤36*k
 nx:x.a.next≤1+k
 ws:x.ws.length≤36*k
 pl:pd.length≤k
 fn:x.g.fin≤36*k
 tl:x.g.tail=0
 sc:∀z∈x.ws,1+s.bl≤(z.s:Int)
 cf:x.g.c=s
theorem Ran.start {s:Sup}(h:MayC s):Ran s (x0 s) [] 0:=⟨Run.start h,Nat.le_refl _,by show (1:Int)≤_;omega,Nat.le_refl _,Nat.le_refl _,Int.le_refl _,rfl,fun _ h=>absurd h List.not_mem_nil,rfl⟩
theorem Ran.tx {s:Sup}{x:Sx}{pd:List Cm}{k:Nat}(h:Ran s x pd k)(ok:x.Ok)(hk:k≤40)(xs:List Int)(vs:List (List Int))(pb:Bool):Ran s (txS x pd xs vs pb).1 (txS x pd xs vs pb).2 (k+1):=by
 obtain ⟨b,hl⟩:=Bd.tx ok pd xs vs pb
 have h1:=h.c;have h2:=h.nx;have h3:=h.ws;have h4:=h.pl;have h5:=h.fn
 refine⟨h.run.tx ok (by omega) xs vs pb,?_,?_,?_,?_,?_,b.tl.trans h.tl,fun z hz=>?_,b.cf.trans h.cf⟩
 ·have:=b.c;omega
 ·have:=b.nx;omega
 ·have:=b.ws;omega
 ·omega
 ·have:=b.fn;omega
 ·rcases b.sc z hz with e | e
  ·exact h.sc z e
  ·rw[h.cf] at e;exact e
section
variable {w:World}
theorem run_ok (s:Sup)(hc:MayC s)(ht:Tab w){p:Option Addr}{m c:Nat}{os:List Opv}(hS:ScIn w p m os):Calls prog 10 #[.agg (ccells s).toArray,.slice p m c] w fun e w'=>∃K,e=.returned (.tuple #[qp K.P,.bool true])∧K.c=s∧∃x pd k,k≤40∧Ran s x pd k∧DS w w' K x x pd (fun _=>.no):=by
 obtain ⟨w1,hw1⟩:∃W,w.alloc (.cells (ccells s).toArray 23)=W:=⟨_,rfl⟩
 have B1:Hid (Below w.heap.size w w1):=by rw[← hw1];exact C.below_alloc w _
 have L1:Hid ((Instr.loadAt 23 (.pointer (some ⟨w.heap.size,0,none⟩))).run prog w1=.ok (.agg (ccells s).toArray) w1):=by rw[← hw1];exact CAt.load23 (LAt.new 23 w (ccells s))
 have HT:Hid (Tab w1):=ht.later B1.out
 have HS:Hid (ScIn w1 p m os):=hS.later B1.out
 have HM:Hid (MayC s):=hc
 have HL:Hid (os.length=m):=hS.len
 clear hc ht hS
 go_enter func10,ntmps10
 go_wp2_with ((with_reducible refine C.at_ops ?_);(refine C.wpList_load_is (by rfl) 23 rfl rfl L1.out ?_);simp only[Act.put,zA,zB,zC])
 refine (lay_ok s HM.out HT.out).mono ?_
 rintro e w2 ⟨K,rfl,hK,hd⟩
 have HK:Hid (K.c=s):=hK
 have HD2:Hid (DS w1 w2 K (x0 s) (x0 s) [] (fun _=>.no)):=hd
 clear hd hK hw1 L1
 go_wp2_with fail
 go_loopw [8] (fun v W=>∃(k:Nat) (x:Sx) (pd:List Cm),v=.int .i64 (k:Int)∧k≤40∧Hid (Ran s x pd k)∧Hid (DS w1 W K x x pd (fun _=>.no))) (fun v _=>40-(intOf v).toNat)
 case atStart=>exact⟨0,x0 s,[],rfl,by omega,Ran.start HM.out,HD2⟩
 case round =>
  obtain ⟨k,x,pd,rfl,hk,HR,HD⟩:=hrel
  clear HD2
  by_cases hlt:k<m∧k<40
  ·obtain ⟨h1,h2⟩:=hlt
   obtain ⟨q,hq⟩:∃q,os[k]?=some q:=⟨_,List.getElem?_eq_getElem (by rw[HL.out];exact h1)⟩
   obtain ⟨b,o,rfl,-⟩:=HS.out.cells (by omega)
   have LO:Hid ((Instr.loadAt 81 (.pointer (some ⟨b,o+k*5,none⟩))).run prog wr=.ok (.agg q.cells) wr):=(HS.out.later HD.out.below).load hq
   have HO:Hid (OpR w1 K (fun _=>.no) q):=HS.out.opr (List.mem_of_getElem? hq)
   have i1:(k:Int)<(m:Int):=by omega
   have i2:(k:Int)<40:=by omega
   have i0:(0:Int)≤(k:Int):=by omega
   clear hq
   go_wp2_with ((with_reducible refine C.at_ops ?_);(refine C.wpList_load_is (by rfl) 81 rfl rfl LO.out ?_);simp only[Act.put,zA,zB,zC])
   refine (tx_at HT.out HD.out (fun _ _ _=>rfl) HO.out (by have:=HR.out.c;omega) (by have:=HR.out.nx;omega) (by have:=HR.out.ws;omega) (by have:=HR.out.pl;omega)).mono ?_
   rintro e w3 ⟨rfl,hd⟩
   have HR2:Hid (Ran s (txS x pd q.xs q.vs q.pb).1 (txS x pd q.xs q.vs q.pb).2 (k+1)):=HR.out.tx HD.out.okx hk _ _ _
   have HD3:Hid (DS w1 w3 K (txS x pd q.xs q.vs q.pb).1 (txS x pd q.xs q.vs q.pb).1 (txS x pd q.xs q.vs q.pb).2 (fun _=>.no)):=hd
   clear hd LO HO HD HR
   generalize (txS x pd q.xs q.vs q.pb).1=x' at *
   generalize (txS x pd q.xs q.vs q.pb).2=pd' at *
   go_wp2_with fail
   go_roundw
   case rel=>exact⟨k+1,x',pd',by congr 1,by omega,HR2,HD3⟩
   case measure=>simp[intOf];omega
  ·by_cases hA:k<m
   case' pos =>
    have i1:(k:Int)<(m:Int):=by omega
    have i2:¬(k:Int)<40:=by omega
    go_wp2_with fail
   case' neg =>
    have i1:¬(k:Int)<(m:Int):=by omega
    go_wp2_with fail
   all_goals
    go_ret2
    exact⟨K,rfl,HK.out,x,pd,k,hk,HR.out,HD.out.base B1.out⟩
end
end Go.Proofs.YtcdjepkhdjpjcaaGreatDoor.Q
