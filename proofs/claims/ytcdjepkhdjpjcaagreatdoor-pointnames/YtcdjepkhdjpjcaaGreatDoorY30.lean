import Derived.Test.YtcdjepkhdjpjcaaGreatDoorY29
set_option maxHeartbeats 20000000
set_option maxRecDepth 100000
namespace Go.Proofs.YtcdjepkhdjpjcaaGreatDoor.Q
open Go.Proofs.Tryz
open Go.RowKit
theorem elCm:C.O.ElT 44 153 2 32:=by
 obtain ⟨i0,hi,h0,h1,h2⟩:=info_parts (show (prog.info? 153).map (fun i=>(i.zero,i.size,i.bytes))=some (some (.agg #[.slice none 0 0,.int .u64 0]),2,32) by kernel_rfl)
 exact⟨underlying44,⟨i0,_,hi,h0,h1,h2,rfl⟩,by decide,by decide⟩
def Th.gims (u:Option Addr × Nat)(q:Cm):Th:=⟨fun w G=>Com1 w G u q,fun _=>False,fun _ _ _ _ h=>h.elim,fun _ _ _ _ _ h hk _ hS hGG=>h.kept hk hS hGG⟩
section
variable {w0 w w':World} {K:Ks} {x y:Sx} {pd:List Cm} {X T:Nat→Th} {G:Nat→Prop}
theorem p_put (h:DS w0 w K x y pd X){i:Nat}(h8:8≤i)(h40:i<40){u:Option Addr × Nat}{q:Cm}(e:X i=.gims u q):Calls prog 32 #[qp K.kp,.slice u.1 q.1.length u.2,.int .u64 q.2] w fun e w'=>e=.returned (.int .i64 (x.putE q.1 q.2))∧DS w0 w' K (x.put q.1 q.2) y pd X:=by
 obtain ⟨v,G,hl,at',im,-,back⟩:=h.pcac
 have c:=at' i h8 h40
 rw[e] at c
 have c:Com1 w G u q:=c
 have hf:=c.few
 refine (C.put_at hl h.okx.k c.im (by omega) (fun a ha _ hb=>im _ hb (c.g a ha)) c.at').mono ?_
 rintro e' w' ⟨rfl,ve',hw⟩
 refine⟨rfl,back w' _ _ _ _ (by rw[nxR_put];exact hw) (h.okx.put c.im.wf c.at')⟩
theorem r_put (h:DS w0 w K x y pd X){i:Nat}(h8:8≤i)(h40:i<40){u:Option Addr × Nat}{q:Cm}(e:X i=.gims u q):Calls prog 133 #[qp K.kr,.slice u.1 q.1.length u.2,.int .u64 q.2] w fun e w'=>e=.returned (.int .i64 (y.putE q.1 q.2))∧DS w0 w' K x (y.put q.1 q.2) pd X:=by
 obtain ⟨v,G,hl,at',im,-,back⟩:=h.rcac
 have c:=at' i h8 h40
 rw[e] at c
 have c:Com1 w G u q:=c
 have hf:=c.few
 refine (C.rput_at hl h.oky.k h.oky.p0 c.im (by omega) (fun a ha _ hb=>im _ hb (c.g a ha)) c.at').mono ?_
 rintro e' w' ⟨rfl,ve',hw⟩
 exact⟨rfl,back w' _ _ _ _ hw (h.oky.put c.im.wf c.at')⟩
theorem comCs_snoc (u:Option Addr × Nat)(q:Cm):∀{us:List (Option Addr × Nat)} {qs:List Cm},us.length=qs.length→comCs (us++[u]) (qs++[q])=comCs us qs++comC u q
 | [],[],_=>rfl
 | [],_ :: _,h=>by cases h
 | _ :: _,[],h=>by cases h
 | a :: us,b :: qs,h=>by
  show comC a b++comCs (us++[u]) (qs++[q])=comC a b++comCs us qs++comC u q
  rw[comCs_snoc u q (by simpa using h),List.append_assoc]
theorem Coms.snoc {u:Option Addr × Nat}{q:Cm}(hq:Com1 w G u q):∀{us:List (Option Addr × Nat)} {qs:List Cm},Coms w G us qs→Coms w G (us++[u]) (qs++[q])
 | [],[],_=>⟨hq,trivial⟩
 | [],_ :: _,h=>h.elim
 | _ :: _,[],h=>h.elim
 | _ :: _,_ :: _,h=>⟨h.1,h.2.snoc hq⟩
theorem comC_ones (u:Option Addr × Nat)(q:Cm):∀v∈comC u q,v.oneCell'=true:=fun v hv=>by
 simp only[comC,List.mem_cons,List.not_mem_nil,or_false] at hv
 rcases hv with rfl | rfl <;> rfl
theorem comCs_ones:∀(us:List (Option Addr × Nat)) (qs:List Cm),∀v∈comCs us qs,v.oneCell'=true
 | [],_,v,hv=>by cases hv
 | _ :: _,[],v,hv=>by cases hv
 | a :: us,b :: qs,v,hv=>by
  rcases List.mem_append.1 hv with hv | hv
  ·exact comC_ones a b v hv
  ·exact comCs_ones us qs v hv
theorem DF.set6 {wa:World}(h:DF w0 wa K x y pd T G)(hbel:Below w0.heap.size w0 w){v v':Value}{pd':List Cm}(e6:T 6=.blk K.P 46 (dcells K v)){T':Nat→Th}{G':Nat→Prop}(hf:Fam w0 w T' G')(hT:∀i,i<6→T' i=T i)(e6':T' 6=T 6)(e7:T' 7=.pend v' pd'):DF w0 (w.setCell ⟨K.P,23,none⟩ v') K x y pd' (put T' 6 (.blk K.P 46 (dcells K v'))) G':=by
 have a:=hf.at' 6 (by omega)
 have lo:=hf.lo 6 (by omega)
 rw[e6',e6] at a lo
 have hk:=C.Kept.setCell (w:=w) K.P 23 v'
 have hst:(w.setCell ⟨K.P,23,none⟩ v').heap[K.P]?=some (.cells (dcells K v') 46 (0,0)):=by
  rw[setCell_eq_setRow w K.P 23 _ 46 (0,0) v' a]
  exact setRow_heap w K.P _ _ 46 _ a
 refine⟨hf.turn (S:=(·=K.P)) (by omega) hst hk (fun b hb=>by rw[e6',e6];exact hb) (fun b hb=>by rw[e6',e6];exact .inl hb) hbel.size (fun _ a=>a) (fun _ a=>.inl a),hk.into hbel (fun b h1 h2=>?_) (Nat.le_refl _),?_,?_,?_,?_,?_,?_,⟨v',put_same _ _ _,?_⟩,h.okx,h.oky,h.cx,h.cy⟩
 ·have:=lo b h2;omega
 ·rw[put_other _ _ (by decide),hT 0 (by decide)];exact h.t0
 ·rw[put_other _ _ (by decide),hT 1 (by decide)];exact h.t1
 ·rw[put_other _ _ (by decide),hT 2 (by decide)];exact h.t2
 ·rw[put_other _ _ (by decide),hT 3 (by decide)];exact h.t3
 ·rw[put_other _ _ (by decide),hT 4 (by decide)];exact h.t4
 ·rw[put_other _ _ (by decide),hT 5 (by decide)];exact h.t5
 ·rw[put_other _ _ (by decide)];exact e7
theorem dcell (K:Ks)(v:Value):(dcells K v)[23]?=some v:=rfl
theorem DS.push (h:DS w0 w K x y pd X){i:Nat}(h8:8≤i)(h40:i<40){v:Value}{l:List C.Im}(e:X i=.row 84 33 v l.length (C.IC l))(hwf:C.ImsWf l)(hl:l.length≤16){q:Int}(hq:0≤q∧q<18446744073709551616)(hp:pd.length≤5000):∃pv,w.cell? ⟨K.P,23,none⟩=some pv∧w.frozen? ⟨K.P,23,none⟩=false∧∃v' w',(Builtin.append_ #[44,44] 44 #[pv,.slice (some ⟨w.heap.size,0,none⟩) 1 1]).run prog (w.alloc (.cells #[v,.int .u64 q] 153))=.ok v' w'∧(∃p c,v'=.slice p (pd.length+1) c)∧w'.frozen? ⟨K.P,23,none⟩=false∧w'.cell? ⟨K.P,23,none⟩=some pv∧DS w0 (w'.setCell ⟨K.P,23,none⟩ v') K x y (pd++[(l,q)]) (put X i .no):=by
 obtain ⟨T,G,h,hX⟩:=h
 obtain ⟨pv,e6,e7⟩:=h.t6
 have hb:Below w.heap.size w (w.alloc (.cells #[v,.int .u64 q] 153)):=C.below_alloc w _
 have hnew:(w.alloc (.cells #[v,.int .u64 q] 153)).heap[w.heap.size]?=some (.cells #[v,.int .u64 q] 153 (0,0)):=heap_alloc_new w _
 have hP0:=h.fam.at' 6 (by omega)
 rw[e6] at hP0
 have hP0:w.heap[K.P]?=some (.cells (dcells K pv) 46 (0,0)):=hP0
 have c0:w.cell? ⟨K.P,23,none⟩=some pv:=by rw[cell_of_row _ K.P 23 _ 46 (0,0) hP0];exact dcell K pv
 have hi:T i=.row 84 33 v l.length (C.IC l):=(hX i h8 h40).trans e
 have hr0:=h.fam.at' i h40
 rw[hi] at hr0
 have hr0:w.ownsRow 0 84 33 v l.length (C.IC l):=hr0
 obtain ⟨ip,ic,hv,-,-,-⟩:=C.IOwn.in (B:=0) hr0 hwf
 generalize w.alloc (.cells #[v,.int .u64 q] 153)=w1 at *
 have h1:=h.later hb
 have p7:=h1.fam.at' 7 (by omega)
 rw[e7] at p7
 obtain ⟨us,hrow,hco⟩:=PdAt.ex p7
 have hone:w1.ownsRow 0 153 2 (.slice (some ⟨w.heap.size,0,none⟩) 1 1) 1 (comC (ip,ic) (l,q)):=by
  refine⟨rfl,.inr ⟨w.heap.size,1,#[v,.int .u64 q],rfl,Nat.zero_le _,hnew,Nat.le_refl _,by decide,rfl,?_⟩⟩
  rw[hv];rfl
 obtain ⟨v',w',hr,hown,hkk,hv'⟩:=C.O.run_own_any elCm hrow 44 hone (comC_ones _ _) (by omega) (Nat.zero_le _)
 refine⟨pv,c0,by simp[World.frozen?,hP0],v',w',hr,C.O.own_shape hown,?_⟩
 -- the images are never written again
 have g1:Fam w0 w1 (put T i .no) (fun g=>G g∨v.ownBlock=some g):=by
  refine (h1.fam.drop i).still (fun g a=>.inl a) (fun g a=>a.elim (h1.fam.glt g) fun c=>?_) (fun g a na j hj=>?_)
  ·exact h1.fam.lt h40 (by rw[hi];exact c)
  ·have c:=a.resolve_left na
   by_cases ej:j=i
   ·subst ej;rw[put_same];exact fun e=>e
   ·rw[put_other _ _ ej]
    exact fun d=>h1.fam.apart i j h40 hj (fun e=>ej e.symm) g (by rw[hi];exact c) d
 have n7:(7:Nat)≠i:=by omega
 have n6:(6:Nat)≠i:=by omega
 have hc1:Com1 w1 (fun g=>G g∨v.ownBlock=some g) (ip,ic) (l,q):=by
  refine⟨?_,hl,fun a ha=>.inr ?_,hq⟩
  ·obtain ⟨p2,c2,hv2,hm,-,-⟩:=C.IOwn.in (B:=0) (C.IOwn.later (B:=0) hr0 hb) hwf
   rw[hv] at hv2;cases hv2;exact hm
  ·have ha:ip=some a:=ha
   rw[hv,ha]
   rcases hr0.2 with ⟨e1,_⟩ | ⟨g,cap,cur,e1,_⟩
   ·rw[hv,ha] at e1;cases e1
   ·rw[hv,ha] at e1;cases e1;rfl
 have hGv:∀g,(G g∨v.ownBlock=some g)→¬pv.ownBlock=some g:=fun g a b=>by
  have hb7:(put T i .no 7).foot g:=by rw[put_other _ _ n7,e7];exact b
  exact g1.im 7 (by omega) g hb7 a
 have g2:Fam w0 w' (put (put T i .no) 7 (.pend v' (pd++[(l,q)]))) (fun g=>G g∨v.ownBlock=some g):=by
  refine g1.turn (S:=fun b=>pv.ownBlock=some b) (by omega) ⟨us++[(ip,ic)],?_,?_⟩ hkk (fun b hb=>?_) (fun b hb=>?_) h1.below.size (fun _ a=>a) (fun _ a=>.inl a)
  ·rw[comCs_snoc _ _ hco.len,List.length_append,List.length_singleton];exact hown
  ·exact ((hco.kept (C.Kept.refl (fun _=>False) w1) (fun _ _ e=>e) (fun g a=>Or.inl a)).snoc hc1).kept hkk (fun g a b=>hGv g a b) (fun _ a=>a)
  ·rw[put_other _ _ n7,e7];exact hb
  ·have hb2:v'.ownBlock=some b:=hb
   rcases hv' with e1 | e1
   ·rw[e1] at hb2;exact .inl (by rw[put_other _ _ n7,e7];exact hb2)
   ·rw[e1] at hb2;cases hb2;exact .inr (Nat.le_refl _)
 have hbel:Below w0.heap.size w0 w':=hkk.into h1.below (fun b hb hs=>by
  have hb7:(T 7).foot b:=by rw[e7];exact hs
  have:=h1.fam.lo 7 (by omega) b hb7;omega) (Nat.le_refl _)
 have hP':=g2.at' 6 (by omega)
 rw[put_other _ _ (by decide),put_other _ _ n6,e6] at hP'
 have hP':w'.heap[K.P]?=some (.cells (dcells K pv) 46 (0,0)):=hP'
 refine⟨by simp[World.frozen?,hP'],by rw[cell_of_row _ K.P 23 _ 46 (0,0) hP'];exact dcell K pv,?_⟩
 refine⟨_,_,h.set6 hbel e6 g2 (fun j hj=>by rw[put_other _ _ (by omega),put_other _ _ (by omega)]) (by rw[put_other _ _ (by decide),put_other _ _ n6]) (put_same _ _ _),fun j h8 h40=>?_⟩
 rw[put_other _ _ (by omega),put_other _ _ (by omega)]
 by_cases ej:j=i
 ·subst ej;rw[put_same,put_same]
 ·rw[put_other _ _ ej,put_other _ _ ej];exact hX j h8 h40
theorem DS.head {l:List C.Im}{q:Int}(h:DS w0 w K x y ((l,q) :: pd) X){j:Nat}(h8:8≤j):∃g c u,w.cell? ⟨K.P,23,none⟩=some (.slice (some ⟨g,0,none⟩) (pd.length+1) c)∧w.frozen? ⟨K.P,23,none⟩=false∧pd.length+1≤c∧w.cell? ⟨g,0,none⟩=some (.slice u.1 l.length u.2)∧w.cell? ⟨g,1,none⟩=some (.int .u64 q)∧DS w0 w K x y ((l,q) :: pd) (put X j (.gims u (l,q))):=by
 obtain ⟨T,G,h,hX⟩:=h
 obtain ⟨pv,e6,e7⟩:=h.t6
 have hP0:=h.fam.at' 6 (by omega)
 rw[e6] at hP0
 have hP0:w.heap[K.P]?=some (.cells (dcells K pv) 46 (0,0)):=hP0
 have p7:=h.fam.at' 7 (by omega)
 rw[e7] at p7
 obtain ⟨us,hrow,hco⟩:=PdAt.ex p7
 obtain ⟨u,us,rfl⟩:∃u t,us=u :: t:=by
  cases us with
  | nil=>exact hco.elim
  | cons u t=>exact⟨u,t,rfl⟩
 obtain ⟨g,c,rfl,hc,hcs,-⟩:=C.O.own_some hrow (by simp)
 refine⟨g,c,u,by rw[cell_of_row _ K.P 23 _ 46 (0,0) hP0];exact dcell K _,by simp[World.frozen?,hP0],hc,hcs 0 _ rfl,hcs 1 _ rfl,put T j (.gims u (l,q)),G,⟨h.fam.add hco.1 (fun _ e=>e.elim),h.below,?_,?_,?_,?_,?_,?_,?_,h.okx,h.oky,h.cx,h.cy⟩,fun i h8 h40=>?_⟩
 ·rw[put_other _ _ (by omega)];exact h.t0
 ·rw[put_other _ _ (by omega)];exact h.t1
 ·rw[put_other _ _ (by omega)];exact h.t2
 ·rw[put_other _ _ (by omega)];exact h.t3
 ·rw[put_other _ _ (by omega)];exact h.t4
 ·rw[put_other _ _ (by omega)];exact h.t5
 ·rw[put_other _ _ (by omega),put_other _ _ (by omega)];exact h.t6
 ·by_cases e:i=j
  ·subst e;rw[put_same,put_same]
  ·rw[put_other _ _ e,put_other _ _ e,hX i h8 h40]
theorem DS.tail {l:List C.Im}{q:Int}(h:DS w0 w K x y ((l,q) :: pd) X)(hp:pd.length≤5000){g c:Nat}(hc:w.cell? ⟨K.P,23,none⟩=some (.slice (some ⟨g,0,none⟩) (pd.length+1) c)){ad:Addr}(ha:ad=⟨g,2,none⟩∨pd.length=0)(c2:Nat):∃v' w',(Builtin.append_ #[44,44] 44 #[.slice (some ⟨w.heap.size,0,none⟩) 0 0,.slice (some ad) pd.length c2]).run prog (w.alloc (.cells #[] 153))=.ok v' w'∧(∃p c,v'=.slice p pd.length c)∧w'.frozen? ⟨K.P,23,none⟩=false∧w'.cell? ⟨K.P,23,none⟩=some (.slice (some ⟨g,0,none⟩) (pd.length+1) c)∧Below w.heap.size w w'∧DS w0 (w'.setCell ⟨K.P,23,none⟩ v') K x y pd X:=by
 obtain ⟨T,G,h,hX⟩:=h
 obtain ⟨pv,e6,e7⟩:=h.t6
 have hP0:=h.fam.at' 6 (by omega)
 rw[e6] at hP0
 have hP0:w.heap[K.P]?=some (.cells (dcells K pv) 46 (0,0)):=hP0
 have hPl:=(Array.getElem?_eq_some_iff.1 hP0).1
 rw[cell_of_row _ K.P 23 _ 46 (0,0) hP0,dcell] at hc
 cases hc
 have p7:=h.fam.at' 7 (by omega)
 rw[e7] at p7
 obtain ⟨us,hrow,hco⟩:=PdAt.ex p7
 obtain ⟨u,us,rfl⟩:∃u t,us=u :: t:=by
  cases us with
  | nil=>exact hco.elim
  | cons u t=>exact⟨u,t,rfl⟩
 have hb:Below w.heap.size w (w.alloc (.cells #[] 153)):=C.below_alloc w _
 have hem:(w.alloc (.cells #[] 153)).ownsRow 0 153 2 (.slice (some ⟨w.heap.size,0,none⟩) 0 0) 0 []:=World.ownsRow_made w #[] 0 (Nat.zero_le _) (Nat.zero_le _) (by simp)
 have hlen:(comCs us pd).length=pd.length*2:=by
  have:=hrow.1
  rw[show comCs (u :: us) ((l,q) :: pd)=comC u (l,q)++comCs us pd from rfl,List.length_append,List.length_cons,show (comC u (l,q)).length=2 from rfl] at this
  omega
 have hnews:∀j v,(comCs us pd)[j]?=some v→(w.alloc (.cells #[] 153)).cell? (ad.add j)=some v:=fun j v hj=>by
  rcases ha with rfl | e0
  ·have hcs:=hrow.cells (g:=g) rfl (2+j) v (by
    rw[show comCs (u :: us) ((l,q) :: pd)=comC u (l,q)++comCs us pd from rfl,List.getElem?_append_right (by show 2≤2+j;omega),show (comC u (l,q)).length=2 from rfl,Nat.add_sub_cancel_left];exact hj)
   rw[Go.WideShapes.add_plain] at hcs ⊢
   rw[Nat.zero_add] at hcs
   rw[hb.cell (p:=⟨g,2+j,none⟩) (World.ownsRow.lt hrow g rfl).2];exact hcs
  ·rw[e0] at hlen
   have:=(List.getElem?_eq_some_iff.1 hj).1
   omega
 obtain ⟨v',w',hr,hown,hkk,hv'⟩:=C.O.run_own elCm hem 44 ad pd.length c2 (comCs us pd) hlen hnews (comCs_ones _ _) (by omega) (Nat.zero_le _)
 have hb2:Below w.heap.size w w':=hkk.into hb (fun b h1 h2=>by cases h2;exact absurd h1 (Nat.lt_irrefl _)) (Nat.le_refl _)
 rw[Nat.zero_add,List.nil_append] at hown
 have h2:=h.later hb2
 have g2:Fam w0 w' (put T 7 (.pend v' pd)) G:=by
  refine h.fam.fresh h.below.size hb2 7 ⟨us,hown,hco.2.kept (C.Kept.of_below (fun _=>False) hb2) (fun _ _ e=>e) (fun _ a=>a)⟩ (fun b hb0=>?_)
  have hb3:v'.ownBlock=some b:=hb0
  rcases hv' with e1 | e1
  ·rw[e1] at hb3;cases hb3;exact Nat.le_refl _
  ·rw[e1] at hb3;cases hb3;exact hb.size
 have hP':w'.heap[K.P]?=some (.cells (dcells K (.slice (some ⟨g,0,none⟩) (pd.length+1) c)) 46 (0,0)):=(hb2.block K.P hPl).trans hP0
 refine⟨v',w',hr,C.O.own_shape hown,by simp[World.frozen?,hP'],by rw[cell_of_row _ K.P 23 _ 46 (0,0) hP'];exact dcell K _,hb2,_,_,h.set6 h2.below e6 g2 (fun j hj=>by rw[put_other _ _ (by omega)]) (by rw[put_other _ _ (by decide)]) (put_same _ _ _),fun j h8 h40=>?_⟩
 rw[put_other _ _ (by omega),put_other _ _ (by omega)];exact hX j h8 h40
end
end Go.Proofs.YtcdjepkhdjpjcaaGreatDoor.Q
namespace Go.Proofs.YtcdjepkhdjpjcaaGreatDoor.Q
open Go.RowKit
section
variable {P:Program} {ops:Array Oper} {Q:Exit→Act→World→Prop} {md:Region.Mode} {S:World→Prop} {fuel:Nat} {listed:Array Bool} {a:Act} {w:World}
theorem tkb (i:Nat){oi:Oper}{ty:TypeId}{ps:Array (Nat × Operand)}(vs:List (Nat × Value)){v:Value}{a':Act}(hS:S w)(hrun:∀w,(Instr.build ty vs.toArray).run P w=.ok v w)(h:wpAnyH P md ops Q S fuel (listed.setIfInBounds i true) a' w)(hi:ops[i]?=some oi:=by simp;rfl)(ho:oi.op=.build ty ps:=by rfl)(hx:ps.toList.map (fun (i,x)=>(i,a.eval x))=vs:=by rfl)(hs:Region.noSelect ops=true:=by kernel_rfl)(hf:Region.free md ops listed i=true:=by kernel_rfl)(hr:(Region.ready md ops listed).contains i=true:=by kernel_rfl)(hg:Region.wanted oi (yielded ops a.tmps)=true:=by rfl)(ha:a.put oi.dst v=a':=by simp only[Act.put,zA,zB,zC];with_reducible rfl)(hQ:∀c a w,Q (.panic c) (a.put oi.dst v) w→Q (.panic c) a w:=by exact fun _ _ _ h=>h):wpAnyH P md ops Q S (fuel+1) listed a w :=
 wpAnyH_take hi hs hf hr hQ (C.yields_build_is hg ty ho hx hrun) hS (ha ▸ h)
end
open Go.Proofs.Tryz
def Sees (W:World)(K:Ks):Prop:=∃v,W.heap[K.P]?=some (.cells (dcells K v) 46 (0,0))
section
variable {W:World} {K:Ks}
theorem Sees.dp (h:Sees W K):W.cell? ⟨K.P,10,none⟩=some (qp K.dp):=by obtain ⟨v,h⟩:=h;rw[cell_of_row _ _ _ _ _ _ h];rfl
theorem Sees.lp (h:Sees W K):W.cell? ⟨K.P,11,none⟩=some (qp K.lp):=by obtain ⟨v,h⟩:=h;rw[cell_of_row _ _ _ _ _ _ h];rfl
theorem Sees.ap (h:Sees W K):W.cell? ⟨K.P,12,none⟩=some (qp K.ap):=by obtain ⟨v,h⟩:=h;rw[cell_of_row _ _ _ _ _ _ h];rfl
theorem Sees.kp (h:Sees W K):W.cell? ⟨K.P,13,none⟩=some (qp K.kp):=by obtain ⟨v,h⟩:=h;rw[cell_of_row _ _ _ _ _ _ h];rfl
theorem Sees.lr (h:Sees W K):W.cell? ⟨K.P,20,none⟩=some (qp K.lr):=by obtain ⟨v,h⟩:=h;rw[cell_of_row _ _ _ _ _ _ h];rfl
theorem Sees.ar (h:Sees W K):W.cell? ⟨K.P,21,none⟩=some (qp K.ar):=by obtain ⟨v,h⟩:=h;rw[cell_of_row _ _ _ _ _ _ h];rfl
theorem Sees.kr (h:Sees W K):W.cell? ⟨K.P,22,none⟩=some (qp K.kr):=by obtain ⟨v,h⟩:=h;rw[cell_of_row _ _ _ _ _ _ h];rfl
end
section
variable {w0 w w':World} {K:Ks} {x y:Sx} {pd:List Cm} {X:Nat→Th}
theorem DS.sees (h:DS w0 w K x y pd X):Sees w K:=by
 obtain ⟨v,h,-⟩:=h.desk
 exact⟨v,h⟩
theorem DS.blk (h:DS w0 w K x y pd X){i:Nat}(h8:8≤i)(h40:i<40){B:Nat}{t:TypeId}{cs:Array Value}(e:X i=.blk B t cs):w.heap[B]?=some (.cells cs t (0,0)):=by
 obtain ⟨T,G,h,hX⟩:=h
 have:=h.fam.at' i h40
 rw[hX i h8 h40,e] at this
 exact this
def ackX (x:Sx):List Cm→Sx
 | []=>x
 | q :: _=>x.fls.put q.1 q.2
theorem DS.nopend (h:DS w0 w K x y [] X):∃p c,w.cell? ⟨K.P,23,none⟩=some (.slice p 0 c):=by
 obtain ⟨v,h,G,hp⟩:=h.desk
 obtain ⟨us,hr,-⟩:=hp.ex
 obtain ⟨p,c,rfl⟩:=C.O.own_shape hr
 exact⟨p,c,by rw[cell_of_row _ _ _ _ _ _ h];rfl⟩
theorem ack_none (h:DS w0 w K x x [] X):Calls prog 72 #[qp K.P] w fun e w'=>e=.returned (.bool true)∧DS w0 w' K x x [] X:=by
 obtain ⟨p,c,c0⟩:=h.nopend
 have H:Hid (DS w0 w K x x [] X):=h
 clear h
 go_enter func72,ntmps72
 go_wp2
 go_ret
 exact⟨rfl,H.out⟩
theorem com0 {W:World}{B:Nat}{u v:Value}(h:W.heap[B]?=some (.cells #[u,v] 153 (0,0))):W.cell? ⟨B,0,none⟩=some u:=by rw[cell_of_row _ _ _ _ _ _ h];rfl
theorem com1 {W:World}{B:Nat}{u v:Value}(h:W.heap[B]?=some (.cells #[u,v] 153 (0,0))):W.cell? ⟨B,1,none⟩=some v:=by rw[cell_of_row _ _ _ _ _ _ h];rfl
theorem ack_some {l : List C.Im} {q : Int} (h : DS w0 w K x x ((l, q) :: pd) X) (hk : x.ws.length ≤ 100000) (hp : pd.length ≤ 5000) : Calls prog 72 #[qp K.P] w fun e w' => e = .returned (.bool true) ∧ DS w0 w' K (x.fls.put l q) (x.fls.put l q) pd (put (put X 38 .no) 39 .no) := by
  obtain ⟨g', c', u', cP, -, -, -, -, -⟩ := h.head (j := 38) (by decide)
  have H0 : Hid (DS w0 w K x x ((l, q) :: pd) X) := h
  have p1 := h.sees.lp
  clear h
  go_enter func72, ntmps72
  go_wp2_with fail
  refine (p_flush H0.out hk).mono ?_
  rintro e w1 ⟨rfl, hd⟩
  have H1 : Hid (DS w0 w1 K x.fls x ((l, q) :: pd) X) := hd
  have p2 := hd.sees.lr
  clear hd H0 p1 cP
  go_wp2_with fail
  refine (r_flush H1.out hk).mono ?_
  rintro e w2 ⟨rfl, hd⟩
  obtain ⟨g, c, u, cP, fP, hc, c0, c1, hd⟩ := hd.head (j := 38) (by decide)
  have H2 : Hid (DS w0 w2 K x.fls x.fls ((l, q) :: pd) (put X 38 (.gims u (l, q)))) := hd
  clear hd H1 p2
  go_upto_region 6 with fail
  obtain ⟨w3, hw3⟩ : ∃ W, w2.alloc (.cells #[.slice u.1 l.length u.2, .int .u64 q] 153) = W := ⟨_, rfl⟩
  have B3 : Below w2.heap.size w2 w3 := by rw [← hw3]; exact C.below_alloc w2 _
  obtain ⟨B, hB⟩ : ∃ B, w2.heap.size = B := ⟨_, rfl⟩
  have H3 : Hid (DS w0 w3 K x.fls x.fls ((l, q) :: pd) (put (put X 38 (.gims u (l, q))) 39 (.blk B 153 #[.slice u.1 l.length u.2, .int .u64 q]))) := H2.out.fresh B3 (by decide) (fun _ => by rw [← hw3, ← hB]; exact heap_alloc_new w2 _) (fun b hb => by have : b = B := hb; omega)
  rw [hw3, hB]
  have hPl : K.P < w2.heap.size := by obtain ⟨v, h⟩ := H2.out.sees; exact (Array.getElem?_eq_some_iff.1 h).1
  have cP3 : w3.cell? ⟨K.P, 23, none⟩ = some (.slice (some ⟨g, 0, none⟩) (pd.length + 1) c) := by rw [B3.cell (p := ⟨K.P, 23, none⟩) hPl]; exact cP
  have cP4 : (w3.alloc (.cells #[] 153)).cell? ⟨K.P, 23, none⟩ = some (.slice (some ⟨g, 0, none⟩) (pd.length + 1) c) := by rw [(C.below_alloc w3 _).cell (p := ⟨K.P, 23, none⟩) (Nat.lt_of_lt_of_le hPl B3.size)]; exact cP3
  clear hw3 hB cP c0 c1 fP H2 hPl B3
  have TL : Hid (∀ (ad : Addr), (ad = ⟨g, 2, none⟩ ∨ pd.length = 0) → ∀ c2, _) := fun ad ha c2 => H3.out.tail hp cP3 ha c2
  clear H3 cP3 hd
  go_wp2_with (at_builtin; refine Hid.out ?_)
  all_goals
    unfold Hid
    first
      | (obtain ⟨v', w4, hap, ⟨p', cc, rfl⟩, f4, c4, -, hd⟩ := TL.out ⟨g, 2, none⟩ (.inl rfl) (c - 1)
         refine C.wpList_append_is (u1 := .slice (some ⟨w3.heap.size, 0, none⟩) 0 0) (u2 := .slice (some ⟨g, 2, none⟩) pd.length (c - 1)) (by rfl) rfl rfl rfl rfl hap ?_
         generalize (Value.slice (some ⟨g, 2, none⟩) pd.length (c - 1)) = sv)
      | (obtain ⟨v', w4, hap, ⟨p', cc, rfl⟩, f4, c4, -, hd⟩ := TL.out ⟨g, 0, none⟩ (.inr (by omega)) 0
         refine C.wpList_append_is (u1 := .slice (some ⟨w3.heap.size, 0, none⟩) 0 0) (u2 := .slice (some ⟨g, 0, none⟩) pd.length 0) (by rfl) rfl rfl rfl rfl hap ?_
         generalize (Value.slice (some ⟨g, 0, none⟩) pd.length 0) = sv)
    simp only [Act.put, zA, zB, zC]
    have H5 : Hid (DS w0 (w4.setCell ⟨K.P, 23, none⟩ (.slice p' pd.length cc)) K x.fls x.fls pd (put (put X 38 (.gims u (l, q))) 39 (.blk B 153 #[.slice u.1 l.length u.2, .int .u64 q]))) := hd
    clear hd hap TL cP4
    go_wp2_with fail
    clear c4 f4
    generalize w4.setCell ⟨K.P, 23, none⟩ (.slice p' pd.length cc) = w5 at *
    have HD5 : Hid (DS w0 w5.drew K x.fls x.fls pd (put (put X 38 (.gims u (l, q))) 39 (.blk B 153 #[.slice u.1 l.length u.2, .int .u64 q]))) := H5.out.later (C.below_drawn 1)
    clear H5 hk
    generalize x.ws.length = nw at *
    have hbeq : ((nw : Int) == (nw : Int)) = true := by simp
    refine wp_region_noPanic ?_
    refine wp_region_held_drew (S := fun W => Sees W K ∧ W.heap[B]? = some (.cells #[.slice u.1 l.length u.2, .int .u64 q] 153 (0, 0))) (by kernel_rfl) ⟨HD5.out.sees, HD5.out.blk (i := 39) (by decide) (by decide) (put_same _ _ _)⟩ (fun hHeld => ?_)
    generalize w5.drew = w6 at *
    refine tk 0 hHeld ?_
    refine tk 1 hHeld ?_
    refine tk 2 hHeld ?_
    refine tk 3 hHeld ?_
    refine tk 4 hHeld ?_
    refine tk 5 hHeld ?_
    refine tk 6 hHeld ?_
    refine tk 7 hHeld ?_
    refine tk 8 hHeld ?_
    refine tk 9 hHeld ?_
    refine tk 10 hHeld ?_
    refine tk 11 hHeld ?_
    refine tk 12 hHeld ?_
    refine tkl 13 hHeld (fun _ s => s.1.kp) ?_
    refine tk 14 hHeld ?_
    refine tkl 15 hHeld (fun _ s => com0 s.2) ?_
    refine tk 16 hHeld ?_
    refine tkl 17 hHeld (fun _ s => com1 s.2) ?_
    refine tk 19 hHeld ?_
    refine tk 20 hHeld ?_
    refine tk 21 hHeld ?_
    refine tk 22 hHeld ?_
    refine tkl 23 hHeld (fun _ s => s.1.kr) ?_
    refine tk 24 hHeld ?_
    refine tkl 25 hHeld (fun _ s => com0 s.2) ?_
    refine tk 26 hHeld ?_
    refine tkl 27 hHeld (fun _ s => com1 s.2) ?_
    refine tkr 18 fun Kc hKc => ?_
    go_simp
    refine (p_put HD5.out (u := u) (q := (l, q)) (i := 38) (by decide) (by decide) (by rw [put_other _ _ (by decide)]; exact put_same _ _ _)).mono ?_
    rintro e w7 ⟨rfl, hd⟩
    have HD6 : Hid (DS w0 w7 K (x.fls.put l q) x.fls pd (put (put X 38 (.gims u (l, q))) 39 (.blk B 153 #[.slice u.1 l.length u.2, .int .u64 q]))) := hd
    clear hd HD5
    refine hKc.out _ _ ⟨HD6.out.sees, HD6.out.blk (i := 39) (by decide) (by decide) (put_same _ _ _)⟩ (fun hHeld => ?_)
    clear hKc Kc
    refine tkr 28 fun Kc hKc => ?_
    go_simp
    refine (r_put HD6.out (u := u) (q := (l, q)) (i := 38) (by decide) (by decide) (by rw [put_other _ _ (by decide)]; exact put_same _ _ _)).mono ?_
    rintro e w8 ⟨rfl, hd⟩
    have HD7 : Hid (DS w0 w8 K (x.fls.put l q) (x.fls.put l q) pd (put (put X 38 (.gims u (l, q))) 39 (.blk B 153 #[.slice u.1 l.length u.2, .int .u64 q]))) := hd
    clear hd HD6
    refine hKc.out _ _ ⟨HD7.out.sees, HD7.out.blk (i := 39) (by decide) (by decide) (put_same _ _ _)⟩ (fun hHeld => ?_)
    clear hKc Kc
    refine tk 29 hHeld ?_
    refine tk 30 hHeld ?_
    refine tk 31 hHeld ?_
    clear hHeld
    refine wpAnyH_done (by kernel_rfl) (NoPanic.normal ?_) _
    go_wp2
    go_ret
    refine ⟨rfl, ?_⟩
    have := (HD7.out.drop (k := 38) (by decide)).drop (k := 39) (by decide)
    rw [put_comm _ _ _ (show 39 ≠ 38 by decide), put_put, put_put] at this
    exact this
theorem ack_at (h:DS w0 w K x x pd X)(hk:x.ws.length≤100000)(hp:pd.length≤5000)(e38:X 38=.no)(e39:X 39=.no):Calls prog 72 #[qp K.P] w fun e w'=>e=.returned (.bool true)∧DS w0 w' K (ackX x pd) (ackX x pd) pd.tail X:=by
 cases pd with
 | nil=>exact ack_none h
 | cons q pd =>
  refine (ack_some (l:=q.1) (q:=q.2) h hk (by rw[List.length_cons] at hp;omega)).mono ?_
  rintro e w' ⟨rfl,hd⟩
  rw[put_idem X 38 e38,put_idem X 39 e39] at hd
  exact⟨rfl,hd⟩
end
def imR (t:Int):Sx→List (Int × List Int)→Sx × Bool
 | x,[]=>(x,true)
 | x,z :: zs=>if imgS x.g z.1=0 then imR t ((x.img z.1 z.2).app t) zs else (x,false)
def ackN:Nat→Sx→List Cm→Sx × List Cm
 | 0,x,pd=>(x,pd)
 | k+1,x,pd=>ackN k (ackX x pd) pd.tail
def imsOf (zs:List (Int × List Int)):List C.Im:=zs.map fun z=>⟨z.1,z.2⟩
def txS (x:Sx)(pd:List Cm)(xs:List Int)(vs:List (List Int))(pb:Bool):Sx × List Cm :=
 if x.a.begE xs=0 then
  if (x.beg xs).a.entE=0∧(x.beg xs).a.entT=x.a.begT xs then
   if (imR (x.a.begT xs) (x.beg xs).ent ((x.a.begF xs).zip vs)).2=true then
    if moreS (imR (x.a.begT xs) (x.beg xs).ent ((x.a.begF xs).zip vs)).1.g=0 then
     if pb=true then
      ackN (pd.length+1) ((imR (x.a.begT xs) (x.beg xs).ent ((x.a.begF xs).zip vs)).1.com.don (x.a.begT xs)) (pd++[(imsOf ((x.a.begF xs).zip vs),(imR (x.a.begT xs) (x.beg xs).ent ((x.a.begF xs).zip vs)).1.g.fin)])
     else ((imR (x.a.begT xs) (x.beg xs).ent ((x.a.begF xs).zip vs)).1.com.don (x.a.begT xs),pd++[(imsOf ((x.a.begF xs).zip vs),(imR (x.a.begT xs) (x.beg xs).ent ((x.a.begF xs).zip vs)).1.g.fin)])
    else ((imR (x.a.begT xs) (x.beg xs).ent ((x.a.begF xs).zip vs)).1,pd)
   else ((imR (x.a.begT xs) (x.beg xs).ent ((x.a.begF xs).zip vs)).1,pd)
  else ((x.beg xs).ent,pd)
 else (x.beg xs,pd)
section
variable {x:Sx} {pd:List Cm} {xs:List Int} {vs:List (List Int)} {pb:Bool} {y:Sx}
theorem txS_beg (h:¬x.a.begE xs=0):txS x pd xs vs pb=(x.beg xs,pd):=by unfold txS;rw[if_neg h]
theorem txS_ent (h:x.a.begE xs=0)(h2:¬((x.beg xs).a.entE=0∧(x.beg xs).a.entT=x.a.begT xs)):txS x pd xs vs pb=((x.beg xs).ent,pd):=by unfold txS;rw[if_pos h,if_neg h2]
theorem txS_img (h:x.a.begE xs=0)(h2:(x.beg xs).a.entE=0∧(x.beg xs).a.entT=x.a.begT xs)(h3:imR (x.a.begT xs) (x.beg xs).ent ((x.a.begF xs).zip vs)=(y,false)):txS x pd xs vs pb=(y,pd):=by unfold txS;rw[if_pos h,if_pos h2,h3,if_neg (fun e=>by cases e)]
theorem txS_com (h:x.a.begE xs=0)(h2:(x.beg xs).a.entE=0∧(x.beg xs).a.entT=x.a.begT xs)(h3:imR (x.a.begT xs) (x.beg xs).ent ((x.a.begF xs).zip vs)=(y,true))(h4:¬moreS y.g=0):txS x pd xs vs pb=(y,pd):=by unfold txS;rw[if_pos h,if_pos h2,h3,if_pos rfl,if_neg h4]
theorem txS_all (h:x.a.begE xs=0)(h2:(x.beg xs).a.entE=0∧(x.beg xs).a.entT=x.a.begT xs)(h3:imR (x.a.begT xs) (x.beg xs).ent ((x.a.begF xs).zip vs)=(y,true))(h4:moreS y.g=0):txS x pd xs vs pb=if pb=true then ackN (pd.length+1) (y.com.don (x.a.begT xs)) (pd++[(imsOf ((x.a.begF xs).zip vs),y.g.fin)]) else (y.com.don (x.a.begT xs),pd++[(imsOf ((x.a.begF xs).zip vs),y.g.fin)]):=by unfold txS;rw[if_pos h,if_pos h2,h3,if_pos rfl,if_pos h4]
end
theorem imR_cons {t:Int}{x:Sx}{z:Int × List Int}{zs:List (Int × List Int)}(h:imgS x.g z.1=0):imR t x (z :: zs)=imR t ((x.img z.1 z.2).app t) zs:=by rw[imR,if_pos h]
theorem imR_no {t:Int}{x:Sx}{z:Int × List Int}{zs:List (Int × List Int)}(h:¬imgS x.g z.1=0):imR t x (z :: zs)=(x,false):=by rw[imR,if_neg h]
structure VsIn (w:World) (p:Option Addr) (m:Nat) (vs:List (List Int)):Prop where
 len:vs.length=m
 wf:∀v∈vs,v.length=32∧Bytes v
 cells:0<m→∃b o,p=some ⟨b,o,none⟩∧∀k v,vs[k]?=some v→w.rangeAt b (o+k*32) (U8 v)
theorem VsIn.load {w:World}{b o m:Nat}{vs:List (List Int)}(h:VsIn w (some ⟨b,o,none⟩) m vs){k:Nat}{v:List Int}(hk:vs[k]?=some v):(Instr.loadAt 51 (.pointer (some ⟨b,o+k*32,none⟩))).run prog w=.ok (.agg (U8 v).toArray) w:=by
 have hkl:=(List.getElem?_eq_some_iff.1 hk).1
 obtain ⟨b',o',e,hc⟩:=h.cells (by rw[← h.len];omega)
 cases e
 exact run_loadAt_mid w b (o+k*32) 51 (U8 v) _ (hc k v hk) underlying51 rfl (by rw[C.sizeV,C.U8_length,(h.wf v (List.mem_of_getElem? hk)).1])
structure Opv where
 kd:Int
 ps:Option Addr
 ms:Nat
 cs:Nat
 xs:List Int
 pv:Option Addr
 mv:Nat
 cv:Nat
 vs:List (List Int)
 pb:Bool
 n:Int
abbrev Opv.cells (o:Opv):Array Value:=#[.int .i64 o.kd,.slice o.ps o.ms o.cs,.slice o.pv o.mv o.cv,.bool o.pb,.int .i64 o.n]
structure OpR (w0:World) (K:Ks) (X:Nat→Th) (o:Opv):Prop where
 rd:∀W x y pd X',DS w0 W K x y pd X'→(∀i,8≤i→i<30→X' i=X i)→E.B.IIn W o.ps o.ms o.xs∧VsIn W o.pv o.mv o.vs
 few:o.ms+80≤17592186044416
 few2:o.mv*32≤140737488355328
theorem Fam.sub {w0 w:World}{T T':Nat→Th}{G:Nat→Prop}(h:Fam w0 w T G)(hT:∀i,i<40→T' i=T i∨T' i=.no):Fam w0 w T' G:=by
 refine⟨fun i hi=>?_,fun i hi b hb=>?_,fun i j hi hj hne b hb hb2=>?_,fun i hi b hb=>?_,h.glt⟩
 ·rcases hT i hi with e | e
  ·rw[e];exact h.at' i hi
  ·rw[e];trivial
 ·rcases hT i hi with e | e
  ·rw[e] at hb;exact h.lo i hi b hb
  ·rw[e] at hb;exact hb.elim
 ·rcases hT i hi with e | e
  ·rw[e] at hb
   rcases hT j hj with e2 | e2
   ·rw[e2] at hb2;exact h.apart i j hi hj hne b hb hb2
   ·rw[e2] at hb2;exact hb2.elim
  ·rw[e] at hb;exact hb.elim
 ·rcases hT i hi with e | e
  ·rw[e] at hb;exact h.im i hi b hb
  ·rw[e] at hb;exact hb.elim
section
variable {w0 w w':World} {K:Ks} {x y:Sx} {pd:List Cm} {X X':Nat→Th}
theorem DS.forget (h:DS w0 w K x y pd X')(hX:∀i,8≤i→i<40→X i=X' i∨X i=.no):DS w0 w K x y pd X:=by
 obtain ⟨T,G,h,hX'⟩:=h
 refine⟨fun i=>if i<8 then T i else X i,G,⟨h.fam.sub fun i hi=>?_,h.below,?_,?_,?_,?_,?_,?_,?_,h.okx,h.oky,h.cx,h.cy⟩,fun i h8 h40=>if_neg (by omega)⟩
 ·by_cases e:i<8
  ·exact .inl (if_pos e)
  ·rw[if_neg e]
   rcases hX i (by omega) hi with e2 | e2
   ·exact .inl (by rw[e2,hX' i (by omega) hi])
   ·exact .inr e2
 ·exact h.t0
 ·exact h.t1
 ·exact h.t2
 ·exact h.t3
 ·exact h.t4
 ·exact h.t5
 ·exact h.t6
theorem DS.trim (h:DS w0 w K x y pd X')(hX:∀i,8≤i→i<30→X' i=X i)(h0:∀i,30≤i→i<40→X i=.no):DS w0 w K x y pd X:=h.forget fun i h8 h40=>by
 by_cases e:i<30
 ·exact .inl (hX i h8 e).symm
 ·exact .inr (h0 i (by omega) h40)
theorem op_c {W:World}{B ms cs mv cv:Nat}{kd nn:Int}{ps pv:Option Addr}{pb:Bool}(h:W.heap[B]?=some (.cells #[.int .i64 kd,.slice ps ms cs,.slice pv mv cv,.bool pb,.int .i64 nn] 81 (0,0))):W.cell? ⟨B,1,none⟩=some (.slice ps ms cs)∧W.cell? ⟨B,2,none⟩=some (.slice pv mv cv)∧W.cell? ⟨B,3,none⟩=some (.bool pb):=by
 refine⟨?_,?_,?_⟩ <;> (rw[cell_of_row _ _ _ _ _ _ h];rfl)
theorem DS.arlt (h:DS w0 w K x y pd X):K.ar<w.heap.size:=by
 obtain ⟨G,vW,vI,ws,is,hl,-,-,-⟩:=h.rline
 exact hl.lt
theorem DS.gfrm (h:DS w0 w K x y pd X){i:Nat}(h8:8≤i)(h40:i<40){v:Value}{f:List Int}(e:X i=.gfrm v f):E.Frm w v f:=by
 obtain ⟨T,G,h,hX⟩:=h
 have:=h.fam.at' i h40
 rw[hX i h8 h40,e] at this
 exact this.1
theorem begF_few {x:Sx}(_h:x.Ok){xs:List Int}(e:x.a.begE xs=0):(x.a.begF xs).length≤16∧x.a.begT xs=x.a.next:=⟨E.B.formS_len _ _ _,by unfold E.Ad.begT;rw[if_pos e]⟩
theorem begF_in {x:Sx}(h:x.Ok){xs:List Int}(e:x.a.begE xs=0):(∀b∈x.a.begF xs,0≤b∧b<64)∧(x.a.begF xs).Pairwise (· < ·):=by
 obtain ⟨e1,-,-,hb,-⟩:=E.B.formS_ok (xs:=xs) (b:=x.a.bl) (m:=x.a.mr) e
 have hm:=h.a.may
 have hb:=of_decide_eq_true hb
 refine⟨fun b hb'=>?_,?_⟩
 ·have:b∈E.B.diffS xs:=by rw[← e1];exact hb'
  have:=hb b ((E.B.mem_diffS b xs).1 this)
  omega
 ·show (E.B.formS xs x.a.bl x.a.mr).1.Pairwise _
  rw[e1];exact E.B.up_diffS xs
theorem begF_any {x:Sx}(_h:x.Ok){xs:List Int}:(x.a.begF xs).length≤140737488355328:=Nat.le_trans (E.B.formS_len _ _ _) (by decide)
theorem beg_next (x:Sx)(xs:List Int):(x.beg xs).a.next≤x.a.next+1:=by
 show (x.a.begS xs).next≤_
 unfold E.Ad.begS
 split
 ·exact Int.le_refl _
 ·omega
theorem ent_next (x:Sx):x.ent.a.next=x.a.next:=by
 show x.a.entS.next=_
 unfold E.Ad.entS
 split <;> rfl
theorem app_next (x:Sx)(t:Int):(x.app t).a.next=x.a.next:=by
 show (x.a.appS t).next=_
 unfold E.Ad.appS
 split <;> rfl
theorem img_is (x:Sx)(b:Int)(v:List Int):(x.img b v).a=x.a∧(x.img b v).c=x.c∧(x.img b v).ws.length≤x.ws.length+1:=by
 unfold Sx.img
 split
 ·exact⟨rfl,rfl,by simp⟩
 ·exact⟨rfl,rfl,by omega⟩
theorem img_c {x:Sx}{b:Int}{v:List Int}{n:Nat}(h:x.c<n):(x.img b v).c<n:=by rw[(img_is x b v).2.1];exact h
theorem com_is (x:Sx):x.com.a=x.a∧x.com.c=x.c∧x.com.ws.length≤x.ws.length+1:=by
 unfold Sx.com
 split
 ·exact⟨rfl,rfl,by simp⟩
 ·exact⟨rfl,rfl,by omega⟩
theorem com_c {x:Sx}{n:Nat}(h:x.c<n):x.com.c<n:=by rw[(com_is x).2.1];exact h
theorem imgapp_is (x:Sx)(b:Int)(v:List Int)(t:Int):((x.img b v).app t).c=x.c+1∧((x.img b v).app t).ws.length≤x.ws.length+1∧((x.img b v).app t).a.next=x.a.next:=⟨by show (x.img b v).c+1=_;rw[(img_is x b v).2.1],(img_is x b v).2.2,by rw[app_next,(img_is x b v).1]⟩
theorem comdon_is (x:Sx)(t:Int):(x.com.don t).ws.length≤x.ws.length+1:=(com_is x).2.2
theorem imsOf_take {zs:List (Int × List Int)}{k:Nat}{b:Int}{v:List Int}(h:zs[k]?=some (b,v)):imsOf (zs.take (k+1))=imsOf (zs.take k)++[(⟨b,v⟩:C.Im)]:=by
 rw[List.take_add_one,h]
 simp[imsOf]
theorem ackN_nil (k:Nat)(x:Sx):ackN k x []=(x,[]):=by
 induction k with
 | zero=>rfl
 | succ k ih=>exact ih
theorem ackX_ws {x:Sx}{pd:List Cm}(h:x.ws.length≤100000):(ackX x pd).ws.length≤100000:=by
 cases pd with
 | nil=>exact h
 | cons q r=>show ([]:List Wr).length≤_;simp
theorem comP_is {x:Sx}(h:x.Ok)(hm:moreS x.g=0):0≤x.comP∧x.comP<18446744073709551616∧x.comP=x.g.fin:=by
 have e:x.comP=x.g.fin:=by unfold Sx.comP;rw[if_pos hm]
 have h1:=h.g.t0
 have h2:=h.g.tm
 have h3:=h.g.mf
 have h4:=h.g.fM
 rw[e]
 exact⟨by omega,by omega,rfl⟩
def SS (w0:World)(K:Ks)(X:Nat→Th)(BO:Nat)(oc:Array Value)(v:Value)(f:List Int)(W:World):Prop:=∃x y pd X',DS w0 W K x y pd X'∧(∀i,8≤i→i<30→X' i=X i)∧X' 30=.blk BO 81 oc∧X' 31=.gfrm v f
theorem SS.of {BO:Nat}{oc:Array Value}{v:Value}{f:List Int}{W:World}(h:DS w0 W K x y pd X')(hX:∀i,8≤i→i<30→X' i=X i)(e:X' 30=.blk BO 81 oc)(e2:X' 31=.gfrm v f):SS w0 K X BO oc v f W:=⟨x,y,pd,X',h,hX,e,e2⟩
theorem SS.sees {BO:Nat}{oc:Array Value}{v:Value}{f:List Int}{W:World}(h:SS w0 K X BO oc v f W):Sees W K:=by
 obtain ⟨x,y,pd,X',h,-⟩:=h
 exact h.sees
theorem SS.op {BO:Nat}{oc:Array Value}{v:Value}{f:List Int}{W:World}(h:SS w0 K X BO oc v f W):W.heap[BO]?=some (.cells oc 81 (0,0)):=by
 obtain ⟨x,y,pd,X',h,-,e,-⟩:=h
 exact h.blk (by decide) (by decide) e
theorem SS.want {BO:Nat}{oc:Array Value}{g c:Nat}{f:List Int}{W:World}(h:SS w0 K X BO oc (.slice (some ⟨g,0,none⟩) f.length c) f W){k:Nat}{b:Int}(hk:f[k]?=some b):W.cell? ⟨g,k,none⟩=some (.int .i64 b):=by
 obtain ⟨x,y,pd,X',h,-,-,e⟩:=h
 have hf:=h.gfrm (by decide) (by decide) e
 have:=hf.cells (g:=g) rfl k (.int .i64 b) (by simp[hk])
 rw[Go.WideShapes.add_plain,Nat.zero_add] at this
 exact this
theorem SS.val {BO:Nat}{oc:Array Value}{v:Value}{f xs:List Int}{W:World}{ps pv:Option Addr}{ms mv:Nat}{vs:List (List Int)}(h:SS w0 K X BO oc v f W)(ho:∀W x y pd X',DS w0 W K x y pd X'→(∀i,8≤i→i<30→X' i=X i)→E.B.IIn W ps ms xs∧VsIn W pv mv vs):VsIn W pv mv vs:=by
 obtain ⟨x,y,pd,X',h,hX,-,-⟩:=h
 exact (ho W x y pd X' h hX).2
theorem drop_cons {α:Type}{l:List α}{k:Nat}{z:α}(h:l[k]?=some z):l.drop k=z :: l.drop (k+1):=by
 obtain ⟨h1,h2⟩:=List.getElem?_eq_some_iff.1 h
 rw[List.drop_eq_getElem_cons h1,h2]
theorem DS.turnX (h:DS w0 w K x y pd X){i:Nat}(h8:8≤i)(h40:i<40){t:Th}{S:Nat→Prop}(ht:∀G,(∀j,8≤j→j<40→(X j).at w G)→t.at w' G)(hk:C.Kept S w w')(hS:∀b,S b→(X i).foot b)(hf:∀b,t.foot b→(X i).foot b∨w.heap.size≤b):DS w0 w' K x y pd (put X i t):=by
 obtain ⟨T,G,h,hX⟩:=h
 have ei:=hX i h8 h40
 have lo:=h.fam.lo i h40
 refine⟨put T i t,G,⟨h.fam.turn (S:=S) h40 (ht G fun j a b=>by rw[← hX j a b];exact h.fam.at' j b) hk (fun b hb=>by rw[ei];exact hS b hb) (fun b hb=>by rw[ei];exact hf b hb) h.below.size (fun _ a=>a) (fun _ a=>.inl a),hk.into h.below (fun b h1 h2=>by have:=lo b (by rw[ei];exact hS b h2);omega) (Nat.le_refl _),?_,?_,?_,?_,?_,?_,?_,h.okx,h.oky,h.cx,h.cy⟩,fun j a b=>?_⟩
 ·rw[put_other _ _ (by omega)];exact h.t0
 ·rw[put_other _ _ (by omega)];exact h.t1
 ·rw[put_other _ _ (by omega)];exact h.t2
 ·rw[put_other _ _ (by omega)];exact h.t3
 ·rw[put_other _ _ (by omega)];exact h.t4
 ·rw[put_other _ _ (by omega)];exact h.t5
 ·rw[put_other _ _ (by omega),put_other _ _ (by omega)];exact h.t6
 ·by_cases e:j=i
  ·subst e;rw[put_same,put_same]
  ·rw[put_other _ _ e,put_other _ _ e];exact hX j a b
theorem DS.appIm (h:DS w0 w K x y pd X){i:Nat}(h8:8≤i)(h40:i<40){v:Value}{l:List C.Im}(e:X i=.row 84 33 v l.length (C.IC l))(hl:l.length≤100){m:C.Im}(hm:m.Wf):∃v' w',(Builtin.append_ #[85,85] 85 #[v,.slice (some ⟨w.heap.size,0,none⟩) 1 1]).run prog (w.alloc (.cells (C.icells m).toArray 84))=.ok v' w'∧(∃p c,v'=.slice p (l.length+1) c)∧DS w0 w' K x y pd (put X i (.row 84 33 v' (l++[m]).length (C.IC (l++[m])))):=by
 have hb:Below w.heap.size w (w.alloc (.cells (C.icells m).toArray 84)):=C.below_alloc w _
 have h1:=h.later hb
 have hone:(w.alloc (.cells (C.icells m).toArray 84)).ownsRow 0 84 33 (.slice (some ⟨w.heap.size,0,none⟩) 1 1) 1 (C.icells m):=by
  refine⟨by rw[C.icells_len hm.len],.inr ⟨w.heap.size,1,(C.icells m).toArray,rfl,Nat.zero_le _,heap_alloc_new w _,Nat.le_refl _,by decide,by simp[C.icells_len hm.len],?_⟩⟩
  show (C.icells m).take (1*33)=C.icells m
  exact List.take_of_length_le (by rw[C.icells_len hm.len];decide)
 generalize w.alloc (.cells (C.icells m).toArray 84)=w1 at *
 have hr0:w1.ownsRow 0 84 33 v l.length (C.IC l):=by
  obtain ⟨T,G,h,hX⟩:=h1
  have:=h.fam.at' i h40
  rw[hX i h8 h40,e] at this
  exact this
 obtain ⟨v',w',hr,hown,hkk,hv'⟩:=C.O.run_own_any C.O.elM hr0 85 hone (C.icells_ones m) (by omega) (Nat.zero_le _)
 refine⟨v',w',hr,C.O.own_shape hown,h1.turnX h8 h40 (S:=fun b=>v.ownBlock=some b) (fun G _=>?_) hkk (fun b hb=>by rw[e];exact hb) (fun b hb=>?_)⟩
 ·show w'.ownsRow 0 84 33 v' (l++[m]).length (C.IC (l++[m]))
  rw[C.IC_snoc,List.length_append,List.length_singleton];exact hown
 ·have hb2:v'.ownBlock=some b:=hb
  rcases hv' with e1 | e1
  ·rw[e1] at hb2;exact .inl (by rw[e];exact hb2)
  ·rw[e1] at hb2;cases hb2;exact .inr (Nat.le_refl _)
end
end Go.Proofs.YtcdjepkhdjpjcaaGreatDoor.Q
