import Derived.Test.YtdadpepfpiimgaaGreatDoorK12
import Derived.Shelf.SlIterI.Nil
import Derived.Shelf.SortM.Plain
import Derived.Shelf.SortM.SortNone
set_option maxHeartbeats 20000000
set_option maxRecDepth 100000
namespace Go.Proofs.YtdadpepfpiimgaaGreatDoor
open Go.RowKit Go.Shelf
section
variable {F:Fence} {n:Nat} {P:Program} {ops:Array Oper} {rest:List Oper} {o:Oper} {a:Act} {w w':World} {Q:Exit→Act→World→Prop}
theorem in_ops (h:wpListIn F n P ops Q (o :: rest) a w):wpListIn F n P ops Q (o :: rest) a w:=h
theorem in_val (hgd:Region.wanted o (yielded ops a.tmps)=true)(hab:o.about P w a.eval=none)(hop:∀c,o.op≠.defer c){v:Value}(hrun:(execOp a.eval o).run P w=.ok (.value v) w')(h:wpListIn F n P ops Q rest (a.put o.dst v) w'):wpListIn F n P ops Q (o :: rest) a w :=
 wpListIn_step fun K hK=>by
  rw[if_pos hgd]
  unfold Oper.wpIn
  refine⟨fun f hf=>(by rw[hab] at hf;cases hf),?_⟩
  rw[Oper.semAt_plain F _ _ hop,hrun]
  exact hK _ _ h
theorem in_skp (hgd:Region.wanted o (yielded ops a.tmps)=true)(hab:o.about P w a.eval=none)(hop:∀c,o.op≠.defer c)(hrun:(execOp a.eval o).run P w=.ok .skip w')(h:wpListIn F n P ops Q rest (a.put o.dst undef) w'):wpListIn F n P ops Q (o :: rest) a w :=
 wpListIn_step fun K hK=>by
  rw[if_pos hgd]
  unfold Oper.wpIn
  refine⟨fun f hf=>(by rw[hab] at hf;cases hf),?_⟩
  rw[Oper.semAt_plain F _ _ hop,hrun]
  exact hK _ _ h
theorem in_load (hgd:Region.wanted o (yielded ops a.tmps)=true)(ty:TypeId){x:Operand}(ho:o.op=.load ty x){p v:Value}(hx:a.eval x=p)(hrun:(Instr.loadAt ty p).run P w=.ok v w)(h:wpListIn F n P ops Q rest (a.put o.dst v) w):wpListIn F n P ops Q (o :: rest) a w :=
 in_val hgd (by simp[Oper.about,ho]) (by rw[ho];intro c e;cases e) (by unfold execOp;simp only[ho,hx,Sem.run_bind,hrun,Result.andThen_ok,Sem.run_pure]) h
theorem in_alloc (hgd:Region.wanted o (yielded ops a.tmps)=true)(ty:TypeId)(ho:o.op=.alloc ty){v:Value}(hrun:(Instr.alloc ty true (.tuple #[])).run P w=.ok v w')(h:wpListIn F n P ops Q rest (a.put o.dst v) w'):wpListIn F n P ops Q (o :: rest) a w :=
 in_val hgd (by simp[Oper.about,ho]) (by rw[ho];intro c e;cases e) (by unfold execOp;simp only[ho,Sem.run_bind,hrun,Result.andThen_ok,Sem.run_pure]) h
theorem in_store (hgd:Region.wanted o (yielded ops a.tmps)=true)(ty:TypeId){x y:Operand}(ho:o.op=.store ty x y){p v:Value}(hx:a.eval x=p)(hy:a.eval y=v)(hrun:(Instr.storeAt ty p v).run P w=.ok () w')(h:wpListIn F n P ops Q rest (a.put o.dst undef) w'):wpListIn F n P ops Q (o :: rest) a w :=
 in_skp hgd (by simp[Oper.about,ho]) (by rw[ho];intro c e;cases e) (by unfold execOp;simp only[ho,hx,hy,Sem.run_bind,hrun,Result.andThen_ok,Sem.run_pure]) h
theorem in_build (hgd:Region.wanted o (yielded ops a.tmps)=true)(ty:TypeId){ps:Array (Nat × Operand)}(ho:o.op=.build ty ps){vs:List (Nat × Value)}{v:Value}(hx:ps.toList.map (fun (i,x)=>(i,a.eval x))=vs)(hrun:(Instr.build ty vs.toArray).run P w=.ok v w)(h:wpListIn F n P ops Q rest (a.put o.dst v) w):wpListIn F n P ops Q (o :: rest) a w :=
 in_val hgd (by simp[Oper.about,ho]) (by rw[ho];intro c e;cases e) (by unfold execOp;simp only[ho];rw[show ps.map (fun (i,x)=>(i,a.eval x))=vs.toArray by rw[← hx,← Array.toList_map]];simp only[Sem.run_bind,hrun,Result.andThen_ok,Sem.run_pure]) h
theorem in_slice (hgd:Region.wanted o (yielded ops a.tmps)=true)(ty:TypeId){x:Operand}(ho:o.op=.buildSlice ty 1 #[(0,x)]){u v:Value}(hx:a.eval x=u)(hrun:(Instr.buildSlice ty 1 #[(0,u)]).run P w=.ok v w')(h:wpListIn F n P ops Q rest (a.put o.dst v) w'):wpListIn F n P ops Q (o :: rest) a w :=
 in_val hgd (by simp[Oper.about,ho]) (by rw[ho];intro c e;cases e) (by
  have e:(#[(0,x)]:Array (Nat × Operand)).map (fun (i,y)=>(i,a.eval y))=#[(0,u)]:=by simp[hx]
  unfold execOp;simp only[ho];rw[e];simp only[Sem.run_bind,hrun,Result.andThen_ok,Sem.run_pure]) h
theorem in_append (hgd:Region.wanted o (yielded ops a.tmps)=true){s x:Operand}{t ty:TypeId}(ho:o.op=.call { callee:=.builtin .append,args:=#[s,x],argTypes:=#[t,t] })(hty:o.type=ty){u1 u2 v:Value}(hs:a.eval s=u1)(hx:a.eval x=u2)(hrun:(Builtin.append_ #[t,t] ty #[u1,u2]).run P w=.ok v w')(h:wpListIn F n P ops Q rest (a.put o.dst v) w'):wpListIn F n P ops Q (o :: rest) a w:=by
 refine in_val hgd ?_ (by rw[ho];intro c e;cases e) (v:=v) (w':=w') ?_ h
 ·simp[Oper.about,ho,resolve,Target.leads,Sem.run_pure]
 ·subst hty;simp[execOp,ho,resolve,invoke,builtin,hs,hx,hrun,Result.andThen]
end
section
variable {F:Fence} {n:Nat} {P:Program} {b:Frame} {a:Act} {k:List Item} {cs:List Frame} {w:World} {Q:Exit→Act→World→Prop}
theorem stepR_scope {c:Code}:step P (lone (b.atR a (.code (.scope c) :: k)) cs w)=.next (lone (b.atR a (.code c :: .inScope c :: k)) cs w) :=
 step_lone_go (by simp[stepG,stepG.exec,Frame.atR])
theorem stepR_inScope {c:Code}:step P (lone (b.atR a (.inScope c :: k)) cs w)=.next (lone (b.atR a k) cs w) :=
 step_lone_go (by simp[stepG,stepG.exec,Frame.atR])
theorem wpIn_scope {c:Code}(h:c.wpIn F n P (Exit.noGoto Q) a w):(Code.scope c).wpIn F n P Q a w:=by
 intro b k cs hro hb hr
 have h0:(lone (b.atR a (.code (.scope c) :: k)) cs w).fenced P F:=fenced_calm hb hr rfl
 obtain ⟨e,a₁,w₁,hq,harr⟩:=h b (.inScope c :: k) cs hro hb hr
 cases e with
 | normal=>exact⟨.normal,a₁,w₁,hq,.head h0 stepR_scope (StepsIn.trans harr (.one (fenced_calm hb hr rfl) stepR_inScope))⟩
 | exit id' =>
  have hx:exitTo id' (.inScope c :: k)=exitTo id' k:=by simp[exitTo]
  exact⟨.exit id',a₁,w₁,hq,fun k' hk=>.head h0 stepR_scope (harr.1 k' (by rw[hx];exact hk)),
   fun hr' hk=>let ⟨k₁,h1,h2⟩:=harr.2 hr' (by rw[hx];exact hk);⟨k₁,h1,.head h0 stepR_scope h2⟩⟩
 | goto l=>exact hq.elim
 | ret=>exact⟨_,a₁,w₁,hq,.of_steps (.one h0 stepR_scope) harr⟩
 | panic ch=>exact⟨_,a₁,w₁,hq,.of_steps (.one h0 stepR_scope) harr⟩
 | outgrown=>exact⟨_,a₁,w₁,hq,.of_steps (.one h0 stepR_scope) harr⟩
end
open Go.Proofs.Tryz
attribute [local go_sem] Oper.semAt_some
theorem keeps_of_below {V V':World}(h:Below V.heap.size V V')(B:Nat):KeepsFrom B V V':=⟨h.size,fun k _ _ hk _=>(h.block k (Array.getElem?_eq_some_iff.1 hk).1).trans hk⟩
theorem results_lat {fn:Func}{p u:Tmp}{ty:TypeId}(h:fn.results=#[.cell p ty,.tmp u])(tmps:Array Value)(w:World)(g:Nat)(t:TypeId)(cs:List Value)(d:TypeDesc)
  (hp:tmps.getD p undef=.pointer (some ⟨g,0,none⟩)) (hg:LAt t w g cs) (hu:prog.underlying ty=some d) (hd:d.isRow=true) (hi:(prog.info? ty).map (·.size)=some cs.length) :
  (results fn tmps).run prog w=.ok (.tuple #[.agg cs.toArray,tmps.getD u undef]) w:=by
 rw[results_cell_tmp h,hp]
 simp only[asAddr,Sem.run_pure,Result.andThen_ok,run_loadVar_mid w g 0 ty _ d (LAt.range hg) hu hd hi]
def scGo (st:Int→R.Rec × Bool)(mr:Int):List Int→Sc→Option Sc
 | [],s=>some s
 | p :: ps,s=>if (st p).2=true then (scStep mr s p (st p).1).bind (scGo st mr ps) else none
theorem scGo_snoc (st:Int→R.Rec × Bool)(mr:Int):∀(ps:List Int) (p:Int) (s:Sc),scGo st mr (ps++[p]) s=(scGo st mr ps s).bind fun s'=>if (st p).2=true then scStep mr s' p (st p).1 else none
 | [],p,s=>by
  show (if (st p).2=true then (scStep mr s p (st p).1).bind some else none)=(if (st p).2=true then scStep mr s p (st p).1 else none)
  by_cases h:(st p).2=true
  ·rw[if_pos h,if_pos h];cases scStep mr s p (st p).1 <;> rfl
  ·rw[if_neg h,if_neg h]
 | q :: ps,p,s=>by
  show (if (st q).2=true then (scStep mr s q (st q).1).bind (scGo st mr (ps++[p])) else none)=(if (st q).2=true then (scStep mr s q (st q).1).bind (scGo st mr ps) else none).bind _
  by_cases h:(st q).2=true
  ·rw[if_pos h,if_pos h]
   cases scStep mr s q (st q).1 with
   | none=>rfl
   | some s'=>exact scGo_snoc st mr ps p s'
  ·rw[if_neg h,if_neg h];rfl
theorem scGo_run {st:Int→R.Rec × Bool}{mr:Int}{t:Int}{s0:Sc}:∀(j:Nat) (s:Sc) (k:Nat),j≤k→scGo st mr (G.upto t j) s0=some s→scRun st mr k t s0=scRun st mr (k-j) (t+j) s
 | 0,s,k,_,h=>by
  obtain rfl:s0=s:=Option.some.inj h
  rw[Nat.sub_zero,show t+((0:Nat):Int)=t by omega]
 | j+1,s,k,hk,h=>by
  rw[G.upto_succ,scGo_snoc] at h
  cases e:scGo st mr (G.upto t j) s0 with
  | none=>rw[e] at h;cases h
  | some s1 =>
   rw[e] at h
   have h':(if (st (t+j)).2=true then scStep mr s1 (t+j) (st (t+j)).1 else none)=some s:=h
   by_cases c:(st (t+j)).2=true
   ·rw[if_pos c] at h'
    rw[scGo_run j s1 k (by omega) e,show k-j=k-(j+1)+1 by omega,scRun_go c h',show t+(j:Int)+1=t+((j+1:Nat):Int) by omega]
   ·rw[if_neg c] at h';cases h'
structure GoOk (mr:Int) (n:Nat) (s:Sc):Prop where
 tl:s.txs.length≤n
 cl:(s.come.length:Int)≤mr
 tw:TxsWf s.txs
 cw:ImsWf s.come
theorem GoOk.step {mr:Int}{n:Nat}{s s':Sc}(h:GoOk mr n s)(hm:0≤mr){p:Int}(hp:u64 p){r:R.Rec}(hw:r.Wf)(e:scStep mr s p r=some s'):GoOk mr (n+1) s':=by
 by_cases c1:r.kind=1∧Folls s.come r.block mr
 ·rw[scStep_img c1] at e
  cases e
  refine⟨Nat.le_succ_of_le h.tl,?_,h.tw,h.cw.snoc ⟨⟨hw.b0,hw.b1⟩,hw.len,hw.byte⟩⟩
  have:=c1.2.1
  simp only[List.length_append,List.length_singleton];omega
 ·by_cases c2:r.kind=2∧r.images=s.come.length
  ·rw[scStep_com c2] at e
   cases e
   refine⟨?_,hm,h.tw.snoc ⟨hp,h.cw⟩,ImsWf.nil⟩
   have:=h.tl
   simp only[List.length_append,List.length_singleton];omega
  ·rw[scStep_no c1 c2] at e;cases e
structure GoAt (st:Int→R.Rec × Bool) (mr t:Int) (pre:List G.U64) (s:Sc):Prop where
 go:scGo st mr (G.nums pre) ⟨[],t,[]⟩=some s
 ok:GoOk mr pre.length s
theorem GoAt.start (st:Int→R.Rec × Bool){mr:Int}(hm:0≤mr)(t:Int):GoAt st mr t [] ⟨[],t,[]⟩:=⟨rfl,Nat.le_refl _,hm,TxsWf.nil,ImsWf.nil⟩
theorem GoAt.step {st:Int→R.Rec × Bool}{mr t:Int}{pre:List G.U64}{s s':Sc}(h:GoAt st mr t pre s)(hm:0≤mr){u:G.U64}(hw:(st u.1).1.Wf)(h1:(st u.1).2=true)(h2:scStep mr s u.1 (st u.1).1=some s'):GoAt st mr t (pre++[u]) s':=by
 refine⟨?_,?_⟩
 ·rw[show G.nums (pre++[u])=G.nums pre++[u.1] by simp,scGo_snoc,h.go]
  show (if _ then _ else _)=_
  rw[if_pos h1,h2]
 ·rw[List.length_append,List.length_singleton]
  exact h.ok.step hm ⟨u.2.1,by have:=u.2.2;omega⟩ hw h2
theorem GoAt.done {st:Int→R.Rec × Bool}{mr t:Int}{pre:List G.U64}{s:Sc}(h:GoAt st mr t pre s){k:Nat}(hk:k≤64)(hp:G.nums pre=G.spanI t (t+k)):scRun st mr k t ⟨[],t,[]⟩=s:=by
 have hN:G.spanN t (t+k)=k:=by unfold G.spanN;omega
 have:=h.go
 rw[hp,← G.upto_span,hN] at this
 rw[scGo_run k s k (Nat.le_refl _) this,Nat.sub_self];rfl
theorem GoAt.stop {st:Int→R.Rec × Bool}{mr t:Int}{pre:List G.U64}{s:Sc}(h:GoAt st mr t pre s){k:Nat}(hk:k≤64){u:G.U64}(hp:G.nums (pre++[u]) <+: G.spanI t (t+k))(hs:(st u.1).2=false∨scStep mr s u.1 (st u.1).1=none):scRun st mr k t ⟨[],t,[]⟩=s:=by
 have hN:G.spanN t (t+k)=k:=by unfold G.spanN;omega
 have hl:pre.length<k:=by
  have:=hp.length_le
  rw[G.spanI_length,hN] at this
  simp at this
  omega
 have hu:u.1=t+pre.length:=by
  have h1:(G.nums (pre++[u]))[pre.length]?=some u.1:=by simp
  obtain ⟨r,hr⟩:=hp
  have h2:=G.spanI_get t (t+k) pre.length (by omega)
  rw[← hr,List.getElem?_append_left (by simp),h1] at h2
  exact Option.some.inj h2
 have hpre:G.nums pre=G.upto t pre.length:=by
  have hp':G.nums pre <+: G.spanI t (t+k):=List.IsPrefix.trans ⟨[u.1],by simp⟩ hp
  have h3:=List.prefix_iff_eq_take.1 hp'
  have h4:=List.prefix_iff_eq_take.1 (G.upto_prefix t (t+k) pre.length (by omega))
  rw[h3,h4,G.upto_length]
  simp
 have:=h.go
 rw[hpre] at this
 rw[scGo_run pre.length s k (by omega) this,← hu]
 rcases hs with hs | hs
 ·exact scRun_off hs
 ·exact scRun_stop hs
theorem read_nil10 (c:Sup)(w:World):Calls prog 76 #[.pointer none,.agg (ccells c).toArray] w fun e w'=>e=.returned (.tuple #[.agg (gcells 0 0 0 (.slice none 0 0)).toArray,.int .i64 1])∧Below w.heap.size w w':=by
 obtain ⟨wa,hwa⟩:∃y,y=w.alloc (.cells #[.pointer none] 30):=⟨_,rfl⟩
 obtain ⟨wb,hwb⟩:∃y,y=wa.alloc (.cells (ccells c).toArray 23):=⟨_,rfl⟩
 obtain ⟨wc,hwc⟩:∃y,y=wb.alloc (.cells (gcells 0 0 0 (.slice none 0 0)).toArray 165):=⟨_,rfl⟩
 have ewa:=hwa.symm
 have ewb:=hwb.symm
 have sa:wa.heap.size=w.heap.size+1:=by rw[hwa];simp
 have sb:wb.heap.size=w.heap.size+1+1:=by rw[hwb,← sa];simp
 have A1:Hid (_):=allocLg wb
 rw[← hwc,sb] at A1
 have Ba:Below w.heap.size w wa:=by rw[hwa];exact below_alloc w _
 have Bb:Below w.heap.size w wb:=by rw[hwb];exact below_then Ba (below_alloc wa _)
 have B0:Hid (Below w.heap.size w wc):=by rw[hwc];exact below_then Bb (below_alloc wb _)
 have bbc:Below wb.heap.size wb wc:=by rw[hwc];exact below_alloc wb _
 have bab:Below wa.heap.size wa wb:=by rw[hwb];exact below_alloc wa _
 have K0:Hid (Boxed wc w.heap.size 30 (.pointer none)):=by
  refine (bbc.block _ (by omega)).trans ((bab.block _ (by omega)).trans ?_)
  rw[hwa];exact heap_alloc_new w _
 have C0:Hid (CAt wc (w.heap.size+1) c):=by
  refine LAt.later ?_ bbc
  rw[hwb,← sa];exact LAt.new 23 wa _
 have V0:Hid (LAt 165 wc (w.heap.size+1+1) (gcells 0 0 0 (.slice none 0 0))):=by rw[hwc,← sb];exact LAt.new 165 wb _
 have L0:Hid (_):=CAt.load23 C0.out
 have z0:=K0.out.cell
 clear hwa hwb hwc Ba Bb bab bbc
 have hmo:prog.follows Departure.mixedOrders=true:=by kernel_rfl
 refine (callsIn_wide (n:=9)).1 ?_
 refine callsIn_of_wp func76 rfl trivial ?_ rfl
 simp only[ntmps76,List.size_toArray,List.length_cons,List.length_nil,Nat.reduceAdd,Nat.reduceSub,Array.replicate_succ,Array.replicate_zero,List.push_toArray,List.append_toArray,List.nil_append,List.cons_append]
 gi_wp2_with ((with_reducible refine in_ops ?_);(first | (refine in_alloc (by rfl) 165 rfl A1.out ?_) | (refine in_load (by rfl) 23 rfl rfl L0.out ?_));simp only[Act.put,zA,zB,zC])
 refine wpIn_scope ?_
 gi_wp2_with ((with_reducible refine in_ops ?_);(first | (refine in_alloc (by rfl) 165 rfl A1.out ?_) | (refine in_load (by rfl) 23 rfl rfl L0.out ?_));simp only[Act.put,zA,zB,zC])
 clear ewa ewb A1
 refine⟨trivial,(callsIn_wide.2 (superOf_nil c wc)).mono ?_⟩
 rintro e w1 ⟨rfl,b1⟩
 obtain ⟨r,hr⟩:∃r,r=sup0:=⟨_,rfl⟩
 rw[← hr]
 clear hr
 have B1:Hid (Below w.heap.size w w1):=below_then B0.out b1
 have V1:Hid (LAt 165 w1 (w.heap.size+1+1) (gcells 0 0 0 (.slice none 0 0))):=LAt.later V0.out b1
 obtain ⟨w2,hw2⟩:∃y,y=w1.alloc (.cells (scells r).toArray 121):=⟨_,rfl⟩
 have A2:Hid (_):=alloc29 w1
 have T2:Hid (_):=store_new29 w1 r
 rw[← hw2] at T2
 have b2:Below w1.heap.size w1 w2:=by rw[hw2];exact below_alloc w1 _
 have B2:Hid (Below w.heap.size w w2):=below_then B1.out b2
 have V2:Hid (LAt 165 w2 (w.heap.size+1+1) (gcells 0 0 0 (.slice none 0 0))):=LAt.later V1.out b2
 have U3:Hid (_):=buildL0 w2
 have T3:Hid (_):=LAt.store (ds:=gcells 0 0 0 (.slice none 0 0)) V2.out sizeLg rfl (all_oneCell_toArray (gcells_ones rfl 0 0 0))
 have F3:Hid (LAt 165 (w2.setRow (w.heap.size+1+1) (gcells 0 0 0 (.slice none 0 0)).toArray) (w.heap.size+1+1) (gcells 0 0 0 (.slice none 0 0))):=LAt.stored V2.out _
 have G3:Hid (Below w.heap.size w (w2.setRow (w.heap.size+1+1) (gcells 0 0 0 (.slice none 0 0)).toArray)):=below_setRow B2.out (by omega) _
 clear b1 hw2 b2 B0 C0 V0 K0 L0 B1 V1 z0
 gi_wp2_with ((with_reducible refine in_ops ?_);(first | (refine in_alloc (by rfl) 121 rfl A2.out ?_) | (refine in_store (by rfl) 121 rfl rfl rfl T2.out ?_) | (refine in_build (vs:=[]) (by rfl) 165 rfl (by rfl) U3.out ?_) | (refine in_store (by rfl) 165 rfl rfl rfl T3.out ?_));simp only[Act.put,zA,zB,zC])
 rw[Exit.noGoto_ret]
 exact bodyPost_ret (results_lat results76 _ _ (w.heap.size+1+1) 165 _ _ (by rfl) F3.out underlying165 rfl sizeLg) rfl ⟨rfl,G3.out⟩
theorem read_err10 {w:World}{S:Nat→Prop}{p n:Nat}{d:List Int}{ws:List Wr}(h:Dsk w S p n d ws)(ht:Tab w)(c:Sup)(hz:¬(supOf c n (newest ws d)).2=0):Calls prog 76 #[.pointer (some ⟨p,0,none⟩),.agg (ccells c).toArray] w fun e w'=>e=.returned (.tuple #[.agg (gcells 0 0 0 (.slice none 0 0)).toArray,.int .i64 (supOf c n (newest ws d)).2])∧Below w.heap.size w w':=by
 obtain ⟨wa,hwa⟩:∃y,y=w.alloc (.cells #[.pointer (some ⟨p,0,none⟩)] 30):=⟨_,rfl⟩
 obtain ⟨wb,hwb⟩:∃y,y=wa.alloc (.cells (ccells c).toArray 23):=⟨_,rfl⟩
 obtain ⟨wc,hwc⟩:∃y,y=wb.alloc (.cells (gcells 0 0 0 (.slice none 0 0)).toArray 165):=⟨_,rfl⟩
 have ewa:=hwa.symm
 have ewb:=hwb.symm
 have sa:wa.heap.size=w.heap.size+1:=by rw[hwa];simp
 have sb:wb.heap.size=w.heap.size+1+1:=by rw[hwb,← sa];simp
 have A1:Hid (_):=allocLg wb
 rw[← hwc,sb] at A1
 have Ba:Below w.heap.size w wa:=by rw[hwa];exact below_alloc w _
 have Bb:Below w.heap.size w wb:=by rw[hwb];exact below_then Ba (below_alloc wa _)
 have B0:Hid (Below w.heap.size w wc):=by rw[hwc];exact below_then Bb (below_alloc wb _)
 have bbc:Below wb.heap.size wb wc:=by rw[hwc];exact below_alloc wb _
 have bab:Below wa.heap.size wa wb:=by rw[hwb];exact below_alloc wa _
 have K0:Hid (Boxed wc w.heap.size 30 (.pointer (some ⟨p,0,none⟩))):=by
  refine (bbc.block _ (by omega)).trans ((bab.block _ (by omega)).trans ?_)
  rw[hwa];exact heap_alloc_new w _
 have C0:Hid (CAt wc (w.heap.size+1) c):=by
  refine LAt.later ?_ bbc
  rw[hwb,← sa];exact LAt.new 23 wa _
 have V0:Hid (LAt 165 wc (w.heap.size+1+1) (gcells 0 0 0 (.slice none 0 0))):=by rw[hwc,← sb];exact LAt.new 165 wb _
 have L0:Hid (_):=CAt.load23 C0.out
 have z0:=K0.out.cell
 clear hwa hwb hwc Ba Bb bab bbc
 have hmo:prog.follows Departure.mixedOrders=true:=by kernel_rfl
 refine (callsIn_wide (n:=9)).1 ?_
 refine callsIn_of_wp func76 rfl trivial ?_ rfl
 simp only[ntmps76,List.size_toArray,List.length_cons,List.length_nil,Nat.reduceAdd,Nat.reduceSub,Array.replicate_succ,Array.replicate_zero,List.push_toArray,List.append_toArray,List.nil_append,List.cons_append]
 gi_wp2_with ((with_reducible refine in_ops ?_);(first | (refine in_alloc (by rfl) 165 rfl A1.out ?_) | (refine in_load (by rfl) 23 rfl rfl L0.out ?_));simp only[Act.put,zA,zB,zC])
 refine wpIn_scope ?_
 gi_wp2_with ((with_reducible refine in_ops ?_);(first | (refine in_alloc (by rfl) 165 rfl A1.out ?_) | (refine in_load (by rfl) 23 rfl rfl L0.out ?_));simp only[Act.put,zA,zB,zC])
 clear ewa ewb A1
 refine⟨trivial,(callsIn_wide.2 (superOf_any (h.later B0.out) (ht.later B0.out) c)).mono ?_⟩
 rintro e w1 ⟨rfl,b1⟩
 obtain ⟨r,hr⟩:∃r,r=(supOf c n (newest ws d)).1:=⟨_,rfl⟩
 obtain ⟨k,hk⟩:∃k,k=(supOf c n (newest ws d)).2:=⟨_,rfl⟩
 rw[← hr,← hk]
 rw[← hk] at hz
 have HK:Hid (k=(supOf c n (newest ws d)).2):=hk
 have hq:(k != 0)=true:=by simp[hz]
 clear hr hk h ht
 have B1:Hid (Below w.heap.size w w1):=below_then B0.out b1
 have V1:Hid (LAt 165 w1 (w.heap.size+1+1) (gcells 0 0 0 (.slice none 0 0))):=LAt.later V0.out b1
 obtain ⟨w2,hw2⟩:∃y,y=w1.alloc (.cells (scells r).toArray 121):=⟨_,rfl⟩
 have A2:Hid (_):=alloc29 w1
 have T2:Hid (_):=store_new29 w1 r
 rw[← hw2] at T2
 have b2:Below w1.heap.size w1 w2:=by rw[hw2];exact below_alloc w1 _
 have B2:Hid (Below w.heap.size w w2):=below_then B1.out b2
 have V2:Hid (LAt 165 w2 (w.heap.size+1+1) (gcells 0 0 0 (.slice none 0 0))):=LAt.later V1.out b2
 have U3:Hid (_):=buildL0 w2
 have T3:Hid (_):=LAt.store (ds:=gcells 0 0 0 (.slice none 0 0)) V2.out sizeLg rfl (all_oneCell_toArray (gcells_ones rfl 0 0 0))
 have F3:Hid (LAt 165 (w2.setRow (w.heap.size+1+1) (gcells 0 0 0 (.slice none 0 0)).toArray) (w.heap.size+1+1) (gcells 0 0 0 (.slice none 0 0))):=LAt.stored V2.out _
 have G3:Hid (Below w.heap.size w (w2.setRow (w.heap.size+1+1) (gcells 0 0 0 (.slice none 0 0)).toArray)):=below_setRow B2.out (by omega) _
 clear b1 hw2 b2 B0 C0 V0 K0 L0 B1 V1 z0
 gi_wp2_with ((with_reducible refine in_ops ?_);(first | (refine in_alloc (by rfl) 121 rfl A2.out ?_) | (refine in_store (by rfl) 121 rfl rfl rfl T2.out ?_) | (refine in_build (vs:=[]) (by rfl) 165 rfl (by rfl) U3.out ?_) | (refine in_store (by rfl) 165 rfl rfl rfl T3.out ?_));simp only[Act.put,zA,zB,zC])
 rw[Exit.noGoto_ret]
 exact bodyPost_ret (results_lat results76 _ _ (w.heap.size+1+1) 165 _ _ (by rfl) F3.out underlying165 rfl sizeLg) rfl ⟨by rw[← HK.out];rfl,G3.out⟩
end Go.Proofs.YtdadpepfpiimgaaGreatDoor
namespace Go.Proofs.YtdadpepfpiimgaaGreatDoor
open Go.Proofs.Tryz
open Go.RowKit Go.Maps Go.Sort Go.Shelf
def keysA_ren:Go.Shelf.Ren:=⟨fun | 7=>110 | 10=>131 | n=>n,fun | 23=>208 | 26=>3 | 3=>39 | 28=>211 | 0=>0 | 27=>210 | 33=>88 | 4=>4 | n=>n,fun | n=>n⟩
theorem keysA:Go.Proofs.SlLaysZI.n7 prog keysA_ren:={
 mixed:=by kernel_rfl
 f7:=⟨Tryz.f110.name,by decide,func110.trans (congrArg some (by kernel_rfl))⟩
 f10:=⟨Tryz.f131.name,by decide,func131.trans (congrArg some (by kernel_rfl))⟩
 t0:=underlying0
 a0:=Tryz.isAgg0
 z0:=Tryz.sizeOf0
 v0:=Tryz.zeroValue0
 t4:=underlying4
 a4:=Tryz.isAgg4
 z4:=Tryz.sizeOf4
 v4:=Tryz.zeroValue4
 t23:=underlying208
 a23:=Tryz.isAgg208
 z23:=Tryz.sizeOf208
 v23:=Tryz.zeroValue208
 t26:=underlying3
 a26:=Tryz.isAgg3
 z26:=Tryz.sizeOf3
 v26:=Tryz.zeroValue3
 t27:=underlying210
 a27:=Tryz.isAgg210
 z27:=Tryz.sizeOf210
 v27:=Tryz.zeroValue210
 t28:=underlying211
 a28:=Tryz.isAgg211
 z28:=Tryz.sizeOf211
 v28:=Tryz.zeroValue211
 t33:=underlying88
 a33:=Tryz.isAgg88
 z33:=Tryz.sizeOf88
 v33:=Tryz.zeroValue88 }
def sortedA_ren:Go.Shelf.Ren:=⟨fun | 6=>109 | 8=>129 | 9=>130 | 11=>148 | 13=>150 | 12=>149 | 23=>163 | 24=>164 | 14=>154 | 15=>155 | 16=>156 | 17=>157 | 18=>158 | 19=>159 | 20=>160 | 21=>161 | 22=>162 | 25=>167 | 26=>168 | 27=>169 | 28=>170 | 29=>171 | 30=>172 | 31=>175 | n=>n,fun | 26=>3 | 28=>211 | 24=>40 | 0=>0 | 3=>3 | 37=>237 | 48=>178 | 50=>37 | 4=>4 | 40=>261 | 39=>260 | 45=>265 | 5=>5 | 9=>9 | 51=>270 | 55=>273 | 57=>277 | 58=>278 | 33=>88 | n=>n,fun | n=>n⟩
theorem sortedA:Go.Proofs.SlLaysZI.n6 prog sortedA_ren:={
 mixed:=by kernel_rfl
 f6:=⟨Tryz.f109.name,by decide,func109.trans (congrArg some (by kernel_rfl))⟩
 f8:=⟨Tryz.f129.name,by decide,func129.trans (congrArg some (by kernel_rfl))⟩
 f11:=⟨Tryz.f148.name,by decide,func148.trans (congrArg some (by kernel_rfl))⟩
 t0:=underlying0
 a0:=Tryz.isAgg0
 z0:=Tryz.sizeOf0
 v0:=Tryz.zeroValue0
 t24:=underlying40
 a24:=Tryz.isAgg40
 z24:=Tryz.sizeOf40
 v24:=Tryz.zeroValue40
 t26:=underlying3
 a26:=Tryz.isAgg3
 z26:=Tryz.sizeOf3
 v26:=Tryz.zeroValue3
 t28:=underlying211
 a28:=Tryz.isAgg211
 z28:=Tryz.sizeOf211
 v28:=Tryz.zeroValue211
 i26:=by kernel_rfl }
def sortA_ren:Go.Shelf.Ren:=⟨fun | 5=>130 | 8=>150 | 7=>149 | 19=>163 | 20=>164 | 10=>154 | 11=>155 | 12=>156 | 13=>157 | 14=>158 | 15=>159 | 16=>160 | 17=>161 | 18=>162 | 30=>167 | 31=>168 | 32=>169 | 33=>170 | 34=>171 | 35=>172 | 40=>175 | n=>n,fun | 23=>40 | 25=>3 | 3=>3 | 32=>237 | 22=>40 | 0=>0 | 44=>178 | 46=>37 | 4=>4 | 36=>261 | 35=>260 | 41=>265 | 5=>5 | 9=>9 | 53=>270 | 57=>273 | 63=>277 | 64=>278 | n=>n,fun | n=>n⟩
theorem sortA:Go.Proofs.SlLaysM.n5 prog sortA_ren:={
 mixed:=by kernel_rfl
 f5:=⟨Tryz.f130.name,by decide,func130.trans (congrArg some (by kernel_rfl))⟩
 f7:=⟨Tryz.f149.name,by decide,func149.trans (congrArg some (by kernel_rfl))⟩
 f8:=func150.trans (congrArg some (by kernel_rfl))
 f10:=⟨Tryz.f154.name,by decide,func154.trans (congrArg some (by kernel_rfl))⟩
 f11:=⟨Tryz.f155.name,by decide,func155.trans (congrArg some (by kernel_rfl))⟩
 f12:=⟨Tryz.f156.name,by decide,func156.trans (congrArg some (by kernel_rfl))⟩
 f13:=⟨Tryz.f157.name,by decide,func157.trans (congrArg some (by kernel_rfl))⟩
 f14:=⟨Tryz.f158.name,by decide,func158.trans (congrArg some (by kernel_rfl))⟩
 f15:=⟨Tryz.f159.name,by decide,func159.trans (congrArg some (by kernel_rfl))⟩
 f16:=⟨Tryz.f160.name,by decide,func160.trans (congrArg some (by kernel_rfl))⟩
 f17:=⟨Tryz.f161.name,by decide,func161.trans (congrArg some (by kernel_rfl))⟩
 f18:=⟨Tryz.f162.name,by decide,func162.trans (congrArg some (by kernel_rfl))⟩
 f19:=func163.trans (congrArg some (by kernel_rfl))
 f20:=func164.trans (congrArg some (by kernel_rfl))
 f30:=⟨Tryz.f167.name,by decide,func167.trans (congrArg some (by kernel_rfl))⟩
 f31:=func168.trans (congrArg some (by kernel_rfl))
 f32:=func169.trans (congrArg some (by kernel_rfl))
 f33:=⟨Tryz.f170.name,by decide,func170.trans (congrArg some (by kernel_rfl))⟩
 f34:=⟨Tryz.f171.name,by decide,func171.trans (congrArg some (by kernel_rfl))⟩
 f35:=⟨Tryz.f172.name,by decide,func172.trans (congrArg some (by kernel_rfl))⟩
 f40:=⟨Tryz.f175.name,by decide,func175.trans (congrArg some (by kernel_rfl))⟩
 t0:=underlying0
 a0:=Tryz.isAgg0
 z0:=Tryz.sizeOf0
 v0:=Tryz.zeroValue0
 t3:=underlying3
 a3:=Tryz.isAgg3
 z3:=Tryz.sizeOf3
 v3:=Tryz.zeroValue3
 t4:=underlying4
 a4:=Tryz.isAgg4
 z4:=Tryz.sizeOf4
 v4:=Tryz.zeroValue4
 t5:=underlying5
 a5:=Tryz.isAgg5
 z5:=Tryz.sizeOf5
 v5:=Tryz.zeroValue5
 t9:=underlying9
 a9:=Tryz.isAgg9
 z9:=Tryz.sizeOf9
 v9:=Tryz.zeroValue9
 t22:=underlying40
 a22:=Tryz.isAgg40
 z22:=Tryz.sizeOf40
 v22:=Tryz.zeroValue40
 t23:=underlying40
 a23:=Tryz.isAgg40
 z23:=Tryz.sizeOf40
 v23:=Tryz.zeroValue40
 t25:=underlying3
 a25:=Tryz.isAgg3
 z25:=Tryz.sizeOf3
 v25:=Tryz.zeroValue3
 t32:=underlying237
 a32:=Tryz.isAgg237
 z32:=Tryz.sizeOf237
 v32:=Tryz.zeroValue237
 t35:=underlying260
 a35:=Tryz.isAgg260
 z35:=Tryz.sizeOf260
 v35:=Tryz.zeroValue260
 t36:=underlying261
 a36:=Tryz.isAgg261
 z36:=Tryz.sizeOf261
 v36:=Tryz.zeroValue261
 t41:=underlying265
 a41:=Tryz.isAgg265
 z41:=Tryz.sizeOf265
 v41:=Tryz.zeroValue265
 t44:=underlying178
 a44:=Tryz.isAgg178
 z44:=Tryz.sizeOf178
 v44:=Tryz.zeroValue178
 t46:=underlying37
 a46:=Tryz.isAgg37
 z46:=Tryz.sizeOf37
 v46:=Tryz.zeroValue37
 t53:=underlying270
 a53:=Tryz.isAgg270
 z53:=Tryz.sizeOf270
 v53:=Tryz.zeroValue270
 t57:=underlying273
 a57:=Tryz.isAgg273
 z57:=Tryz.sizeOf273
 v57:=Tryz.zeroValue273
 t63:=underlying277
 a63:=Tryz.isAgg277
 z63:=Tryz.sizeOf277
 v63:=Tryz.zeroValue277
 t64:=underlying278
 a64:=Tryz.isAgg278
 z64:=Tryz.sizeOf278
 v64:=Tryz.zeroValue278 }
theorem sortsA (m:Nat):AnyZI.SortsIn prog sortedA_ren Fence.wide m :=
 ⟨fun blk off cap ss W hH hblk hsz=>callsIn_wide.2 (AnyM.slices_Sort_int sortA blk off cap ss W hH hblk hsz),fun p cap W=>callsIn_wide.2 (AnyM.slices_Sort_int_none sortA p cap W)⟩
theorem keys_any (mb:Option Nat)(W:World):Calls prog 110 #[.map mb] W fun e w'=>e=.returned (.func (.func 131) #[] #[.pointer (some ⟨W.heap.size,0,none⟩)])∧w'=W.alloc (.cells #[.map mb] 208) :=
 (callsIn_wide (n:=5)).1 (AnyZI.keys_in keysA Fence.wide 5 trivial rfl mb W)
theorem sorted_any {H:Type}(b nn:Nat)(D0:DataW H)(R:Value→Option (DataW H × List MemPlace))(w:World)(hown:w.ownsMap prog 3 R b nn D0)(hmax:Maps.size D0≤maxLen)(hbytes:Maps.size D0*8≤140737488355328) :
  Calls prog 109 #[.func (.func 131) #[] #[.pointer (some ⟨w.heap.size,0,none⟩)]] (w.alloc (.cells #[.map (some b)] 208)) fun e w'=>∃(v:Value) (ss:List Int),e=.returned v∧ss.Perm (intKeys D0) ∧
   w'.ownsRow w.heap.size 3 1 v ss.length ((ss.mergeSort (fun x y=>decide (x≤y))).map encZ)∧Below w.heap.size w w':=by
 have hbl:=hown.lt
 have hseq:SeqGives Fence.wide 2 prog 131 #[.pointer (some ⟨w.heap.size,0,none⟩)] encZ (fun ss=>ss.Perm (intKeys D0)) (Maps.size D0) (w.alloc (.cells #[.map (some b)] 208)) :=
  AnyZI.keys_gives (ρ:=keysA_ren) { keysA with } Fence.wide _ trivial rfl (by omega) w.heap.size b nn D0 _ (by simp) (by simp) (by
   obtain ⟨es,clock,hb,Ft,hs,hD⟩:=hown
   exact⟨es,clock,(Below.heap_alloc _ _ b hbl).trans hb,Ft,hs,hD⟩)
 have cS:=AnyZI.sorted_in sortedA Fence.wide 5 trivial trivial trivial trivial rfl (by omega) (sortsA _) (enters_of func130 (by kernel_rfl) rfl) 131 #[.pointer (some ⟨w.heap.size,0,none⟩)] trivial (enters_of func131 (by kernel_rfl) rfl) _ _ hmax hbytes _ hseq
 change CallsIn _ _ prog 109 _ _ _ at cS
 refine (callsIn_wide (n:=5)).1 (cS.mono ?_)
 rintro e w' ⟨v,ss,rfl,hS,hrow,_,hb⟩
 exact⟨v,ss,rfl,hS,ownsRow_base_a hrow (by simp),((Below.refl _ w).alloc (Nat.le_refl _) _).trans (hb.mono (by simp))⟩
end Go.Proofs.YtdadpepfpiimgaaGreatDoor
namespace Go.Proofs.YtdadpepfpiimgaaGreatDoor
open Go.Proofs.Tryz
open Go.RowKit Go.Maps
section
variable {P:Program} {ops:Array Oper} {rest:List Oper} {o:Oper} {a:Act} {w w':World} {Q:Exit→Act→World→Prop}
theorem wpList_slice_is (hgd:Region.wanted o (yielded ops a.tmps)=true)(ty:TypeId){x:Operand}(ho:o.op=.buildSlice ty 1 #[(0,x)]){u v:Value}(hx:a.eval x=u)(hrun:(Instr.buildSlice ty 1 #[(0,u)]).run P w=.ok v w')(h:wpList P ops Q rest (a.put o.dst v) w'):wpList P ops Q (o :: rest) a w :=
 wpList_val hgd (by
  have e:(#[(0,x)]:Array (Nat × Operand)).map (fun (i,y)=>(i,a.eval y))=#[(0,u)]:=by simp[hx]
  unfold execOp;simp only[ho];rw[e];simp only[Sem.run_bind,hrun,Result.andThen_ok,Sem.run_pure]) h
theorem wpList_append_is (hgd:Region.wanted o (yielded ops a.tmps)=true){s x:Operand}{t ty:TypeId}(ho:o.op=.call { callee:=.builtin .append,args:=#[s,x],argTypes:=#[t,t] })(hty:o.type=ty){u1 u2 v:Value}(hs:a.eval s=u1)(hx:a.eval x=u2)(hrun:(Builtin.append_ #[t,t] ty #[u1,u2]).run P w=.ok v w')(h:wpList P ops Q rest (a.put o.dst v) w'):wpList P ops Q (o :: rest) a w :=
 wpList_val hgd (by subst hty;simp[execOp,ho,resolve,invoke,builtin,hs,hx,hrun,Result.andThen]) h
theorem wpList_lookup_is (hgd:Region.wanted o (yielded ops a.tmps)=true)(ty:TypeId){m x:Operand}(ho:o.op=.lookup ty m x false){u1 u2 v:Value}(hm:a.eval m=u1)(hx:a.eval x=u2)(hrun:(Instr.lookup ty u1 u2 false).run P w=.ok v w)(h:wpList P ops Q rest (a.put o.dst v) w):wpList P ops Q (o :: rest) a w :=
 wpList_val hgd (by unfold execOp;simp only[ho,hm,hx,Sem.run_bind,hrun,Result.andThen_ok,Sem.run_pure]) h
end
abbrev kI (b:Int):Lit:=.int .i64 b
abbrev hV (v:List Int):DataW Value:=.held (.agg (U8 v).toArray)
def mapD (l:List Im):DataW Value:=l.foldl (fun D x=>D.put (kI x.b) (hV x.v)) (.map [])
theorem mapD_snoc (l:List Im)(x:Im):mapD (l++[x])=(mapD l).put (kI x.b) (hV x.v):=by simp[mapD]
theorem snoc_ind {α:Type}{p:List α→Prop}(h0:p [])(h1:∀l x,p l→p (l++[x]))(l:List α):p l:=by
 have:∀m:List α,p m.reverse:=fun m=>by
  induction m with
  | nil=>exact h0
  | cons x m ih=>rw[List.reverse_cons];exact h1 _ _ ih
 have e:=this l.reverse
 rwa [List.reverse_reverse] at e
theorem mem_ins (x:Lit × DataW Value)(p:Lit × DataW Value):∀l,p∈DataW.insert x l↔p=x∨p∈l
 | []=>by simp[DataW.insert]
 | y :: r=>by
  unfold DataW.insert
  by_cases h:x.1.before y.1=true
  ·rw[if_pos h];exact List.mem_cons
  ·rw[if_neg h,List.mem_cons,mem_ins x p r,List.mem_cons]
   exact or_left_comm
theorem mapD_es (l:List Im):∃es,mapD l=.map es∧∀p∈es,∃y,p.1=kI y:=by
 refine snoc_ind (p:=fun l=>∃es,mapD l=.map es∧∀p∈es,∃y,p.1=kI y) ⟨[],rfl,fun p h=>by cases h⟩ (fun l x h=>?_) l
 obtain ⟨es,e,hk⟩:=h
 refine⟨_,by rw[mapD_snoc,e];rfl,fun p hp=>?_⟩
 rcases (mem_ins _ _ _).1 hp with rfl | hp
 ·exact⟨x.b,rfl⟩
 ·exact hk p (List.mem_filter.1 hp).1
theorem mapD_isMap (l:List Im):IsMap (mapD l):=by obtain ⟨es,e,_⟩:=mapD_es l;exact⟨es,e⟩
theorem kI_ne {a b:Int}(h:a≠b):kI a≠kI b:=fun e=>h (by injection e)
theorem mapD_has (b:Int):∀l,Maps.has (mapD l) (kI b)=decide (b∈blks l):=by
 refine snoc_ind (by simp[mapD,Maps.has]) fun l x ih=>?_
 rw[mapD_snoc]
 by_cases h:x.b=b
 ·rw[← h,Maps.has_put_same (k:=kI x.b) (mapD_isMap l) trivial];simp
 ·rw[Maps.has_put_other (kI_ne fun e=>h e.symm),ih]
  simp only[blks,List.map_append,List.map_cons,List.map_nil,List.mem_append,List.mem_singleton]
  by_cases hb:b∈l.map (·.b)
  ·simp[hb]
  ·rw[decide_eq_false hb,decide_eq_false];rintro (k | k)
   ·exact hb k
   ·exact h k.symm
theorem mapD_at (b:Int)(z:DataW Value):∀l,b∈blks l→(mapD l).atKey (kI b) z=hV (lastV l b):=by
 refine snoc_ind (fun h=>by cases h) fun l x ih hb=>?_
 rw[mapD_snoc,lastV_snoc]
 by_cases h:x.b=b
 ·rw[if_pos h,← h,Maps.atKey_put_same (k:=kI x.b) (mapD_isMap l) trivial]
 ·rw[if_neg h,Maps.atKey_put_other (kI_ne fun e=>h e.symm)]
  refine ih ?_
  simp only[blks,List.map_append,List.map_cons,List.map_nil,List.mem_append,List.mem_singleton] at hb
  rcases hb with hb | hb
  ·exact hb
  ·exact absurd hb.symm h
theorem mapD_keys (l:List Im)(b:Int):b∈intKeys (mapD l)↔b∈blks l:=by
 have hh:=mapD_has b l
 obtain ⟨es,e,hk⟩:=mapD_es l
 rw[e] at hh ⊢
 rw[Maps.has_eq] at hh
 constructor
 ·intro hb
  obtain ⟨p,hp,e2⟩:=List.mem_map.1 (show b∈es.map fun p=>Go.intOf p.1 from hb)
  obtain ⟨y,hy⟩:=hk p hp
  have:(es.any fun p=>p.1.sameKey (kI b))=true:=List.any_eq_true.2 ⟨p,hp,by rw[hy] at e2 ⊢;have:y=b:=e2;subst this;exact WideAt.sameKey_self (a:=kI y) trivial⟩
  rw[this] at hh
  exact of_decide_eq_true hh.symm
 ·intro hb
  rw[decide_eq_true hb] at hh
  obtain ⟨p,hp,e2⟩:=List.any_eq_true.1 hh
  obtain ⟨y,hy⟩:=hk p hp
  refine List.mem_map.2 ⟨p,hp,?_⟩
  rw[hy] at e2 ⊢
  show y=b
  by_cases c:y=b
  ·exact c
  ·rw[Maps.sameKey_ne (kI_ne c)] at e2;cases e2
theorem intKeys_nodup {l:List Im}(h:Tidy (mapD l)):(intKeys (mapD l)).Nodup:=by
 obtain ⟨es,e,hk⟩:=mapD_es l
 obtain ⟨es',e',hp⟩:=h
 rw[e] at e' ⊢
 cases e'
 show (es.map fun p=>Go.intOf p.1).Pairwise (·≠·)
 refine List.pairwise_map.2 (hp.imp_of_mem fun {p q} hp' hq' hne e=>?_)
 obtain ⟨y,hy⟩:=hk p hp'
 obtain ⟨z,hz⟩:=hk q hq'
 rw[hy,hz] at e hne
 have:y=z:=e
 exact hne (by rw[this])
theorem up_of:∀{xs:List Int},xs.Pairwise (fun x y=>decide (x≤y)=true)→xs.Nodup→xs.Pairwise (· < ·)
 | [],_,_=>List.Pairwise.nil
 | x :: xs,h,hn=>List.pairwise_cons.2 ⟨fun y hy=>by
   have h1:=of_decide_eq_true ((List.pairwise_cons.1 h).1 y hy)
   have h2:x≠y:=fun e=>(List.nodup_cons.1 hn).1 (by rw[e];exact hy)
   omega,up_of (List.pairwise_cons.1 h).2 (List.nodup_cons.1 hn).2⟩
theorem sorted_up {l:List Im}{ss:List Int}(ht:Tidy (mapD l))(h:ss.Perm (intKeys (mapD l))):(ss.mergeSort fun x y=>decide (x≤y)).Pairwise (· < ·)∧∀b,b∈(ss.mergeSort fun x y=>decide (x≤y))↔b∈blks l:=by
 have hp:=List.mergeSort_perm ss fun x y=>decide (x≤y)
 have hs:(ss.mergeSort fun x y=>decide (x≤y)).Pairwise (fun x y=>decide (x≤y)=true):=List.pairwise_mergeSort (fun a b c h1 h2=>by have:=of_decide_eq_true h1;have:=of_decide_eq_true h2;exact decide_eq_true (by omega)) (fun a b=>by by_cases c:a≤b <;> simp <;> omega) ss
 have hn:(ss.mergeSort fun x y=>decide (x≤y)).Nodup:=(hp.trans h).nodup_iff.2 (intKeys_nodup ht)
 refine⟨up_of hs hn,fun b=>?_⟩
 ·rw[(hp.trans h).mem_iff,mapD_keys]
abbrev RV (v:Value):Option (DataW Value × List MemPlace):=some (.held v,[])
theorem law3:Keyed prog 3:=int_keyed underlying3
theorem zeroVal (w:World):(zeroValue 39).run prog w=.ok (.agg (U8 (zs 32)).toArray) w:=zv 39 _ zeroV w
theorem look_at {w:World}{B n:Nat}{l:List Im}(h:w.ownsMap prog 3 RV B n (mapD l)){b:Int}(hb:b∈blks l)(hw:i64 b):(Instr.lookup 208 (.map (some B)) (.int .i64 b) false).run prog w=.ok (.agg (U8 (lastV l b)).toArray) w:=by
 obtain ⟨v,ps,hrun,hv⟩:=h.lookup law3 underlying208 (zeroVal w) (zd:=.held (.agg (U8 (zs 32)).toArray)) (zp:=[]) rfl (keyOf_int_mk underlying3 (WalkArith.wf_i64 (by unfold i64 at hw;omega)):keyOf prog 3 (.int .i64 b)=some (kI b))
 rw[mapD_at b _ l hb] at hv
 simp only[RV,Option.some.injEq,Prod.mk.injEq,DataW.held.injEq] at hv
 rw[hrun,hv.1]
theorem lastV_wf {l:List Im}(h:ImsWf l){b:Int}(hb:b∈blks l):(lastV l b).length=32∧Bytes (lastV l b)∧i64 b:=by
 induction l with
 | nil=>cases hb
 | cons x xs ih =>
  by_cases c:b∈blks xs
  ·rw[lastV_in c];exact ih (fun y hy=>h y (List.mem_cons.2 (.inr hy))) c
  ·have e:b=x.b:=(List.mem_cons.1 (show b∈x.b :: blks xs from hb)).resolve_right c
   rw[e] at c ⊢
   rw[lastV_new c]
   have:=h x (List.mem_cons.2 (.inl rfl))
   exact⟨this.len,this.byte,this.b⟩
theorem sizeT:(prog.info? 207).map (·.size)=some 2:=by kernel_rfl
theorem allocT (w:World):(Instr.alloc 207 true (.tuple #[])).run prog w=.ok (.pointer (some ⟨w.heap.size,0,none⟩)) (w.alloc (.cells ([.int .u64 0,.slice none 0 0]:List Value).toArray 207)):=by
 simp only[Instr.alloc,Sem.run_bind,zv 207 _ zeroT,Result.andThen_ok]
 simp[newVar,newRow,Value.cells]
theorem store_newT (w:World)(p:Int)(q:Option Addr)(n m:Nat):(Instr.storeAt 207 (.pointer (some ⟨w.heap.size,0,none⟩)) (.agg #[.int .u64 p,.slice q n m])).run prog (w.alloc (.cells ([.int .u64 0,.slice none 0 0]:List Value).toArray 207))=.ok () (w.alloc (.cells #[.int .u64 p,.slice q n m] 207)):=by
 have:=(LAt.new 207 w [.int .u64 0,.slice none 0 0]).store (ds:=[.int .u64 p,.slice q n m]) sizeT rfl (all_oneCell_toArray fun v hv=>by
  simp only[List.mem_cons,List.not_mem_nil,or_false] at hv
  rcases hv with rfl | rfl <;> rfl)
 rw[setRow_alloc] at this
 exact this
theorem load_tx {w:World}{b o:Nat}{p:Int}{u:Value}(h0:w.cell? ⟨b,o,none⟩=some (.int .u64 p))(h1:w.cell? ⟨b,o+1,none⟩=some u):(Instr.loadAt 207 (.pointer (some ⟨b,o,none⟩))).run prog w=.ok (.agg #[.int .u64 p,u]) w:=by
 refine run_loadAt_mid w b o 207 [.int .u64 p,u] _ (fun j v hv=>?_) underlying207 rfl sizeT
 have hj:j<2:=(List.getElem?_eq_some_iff.1 hv).1
 have:j=0∨j=1:=by omega
 rcases this with rfl | rfl
 ·exact h0.trans hv
 ·exact h1.trans hv
theorem take_flat (l:List TX){k:Nat}{t:TX}(h:l[k]?=some t):flat (l.take (k+1))=flat (l.take k)++t.ims:=by
 have hk:=(List.getElem?_eq_some_iff.1 h).1
 have e:l.take (k+1)=l.take k++[t]:=by
  rw[List.take_add_one,h];rfl
 rw[e,flat_snoc]
theorem flat_le (l:List TX)(k:Nat):(flat (l.take k)).length≤(flat l).length:=by
 have e:flat l=flat (l.take k)++flat (l.drop k):=by
  have:=List.take_append_drop k l
  simp only[flat]
  rw[← List.flatMap_append,this]
 rw[e,List.length_append];omega
theorem flat_bd {l:List TX}{k:Nat}{t:TX}(h:l[k]?=some t)(j:Nat):(flat (l.take k)).length+(t.ims.take j).length≤(flat l).length:=by
 have h1:=flat_le l (k+1)
 rw[take_flat l h,List.length_append] at h1
 have h2:(t.ims.take j).length≤t.ims.length:=by rw[List.length_take];omega
 omega
theorem newest_any (q:Option Addr)(n c:Nat)(txs:List TX)(w:World)(h:XIn w q n txs)(hwf:TxsWf txs)(hn:n≤2000000)(hf:(flat txs).length≤2000000) :
  Calls prog 77 #[.slice q n c] w fun e w'=>∃v,e=.returned v∧IOwn w' w.heap.size v (nwS (flat txs))∧Below w.heap.size w w':=by
 have hmm:=@run_makeMap prog
 have HX:Hid (XIn w q n txs):=h
 have HW:Hid (TxsWf txs):=hwf
 have HF:Hid ((flat txs).length≤2000000):=hf
 have hlen:txs.length=n:=h.len
 clear h hwf hf
 go_enter func77,ntmps77
 go_wp2
 go_loopw [14] (fun i wr=>∃k:Nat,k≤n∧i=.int .i64 k∧Hid (wr.ownsMap prog 3 RV w.heap.size (flat (txs.take k)).length (mapD (flat (txs.take k)))∧Below w.heap.size w wr)) (fun i _=>n-(intOf i).toNat)
 case atStart=>exact⟨0,Nat.zero_le _,rfl,World.ownsMap_made _ _ _ _,(Below.refl _ _).alloc (Nat.le_refl _) _⟩
 case round =>
  obtain ⟨k,hk,rfl,HI⟩:=hrel
  by_cases hlt:k<n
  ·obtain ⟨t,htk⟩:∃t,txs[k]?=some t:=⟨_,List.getElem?_eq_getElem (by omega)⟩
   have HXr:XIn wr q n txs:=HX.out.later HI.out.2
   obtain ⟨g,o,rfl,hcell⟩:=HXr.cells (by omega)
   obtain ⟨q2,c2,e0,e1,mi,m1,m2⟩:=hcell k t htk
   have hm:t.ims.length≤2000000:=by have:=flat_bd htk t.ims.length;rw[List.take_length] at this;have:=HF.out;omega
   have L17:Hid (_):=load_tx e0 e1
   have A5:Hid (_):=allocT wr
   have T5:Hid (_):=store_newT wr t.p q2 t.ims.length c2
   obtain ⟨w5,hw5⟩:∃y,y=wr.alloc (.cells #[.int .u64 t.p,.slice q2 t.ims.length c2] 207):=⟨_,rfl⟩
   have l5:LAt 207 w5 wr.heap.size [.int .u64 t.p,.slice q2 t.ims.length c2]:=by rw[hw5];exact LAt.new 207 wr _
   have c51:w5.cell? ⟨wr.heap.size,1,none⟩=some (.slice q2 t.ims.length c2):=LAt.cell l5 1
   rw[← hw5] at T5
   have HM:Hid (∀W,Below w.heap.size w W→MIn W q2 t.ims.length t.ims):=by
    intro W hW
    obtain ⟨g',o',e',hcell'⟩:=(HX.out.later hW).cells (by omega)
    obtain ⟨q3,c3,f0,f1,mi3,-,-⟩:=hcell' k t htk
    cases e'
    have f2:=(HX.out.cells (by omega))
    obtain ⟨g4,o4,e4,hc4⟩:=f2
    cases e4
    obtain ⟨q5,c5,k0,k1,-,-,-⟩:=hc4 k t htk
    have a1:wr.cell? ⟨g,o+k*2+1,none⟩=some (.slice q5 t.ims.length c5):=(HI.out.2.cell (p:=⟨g,o+k*2+1,none⟩) (World.block_lt_of_cell? w _ k1)).trans k1
    have a2:W.cell? ⟨g,o+k*2+1,none⟩=some (.slice q5 t.ims.length c5):=(hW.cell (p:=⟨g,o+k*2+1,none⟩) (World.block_lt_of_cell? w _ k1)).trans k1
    rw[e1] at a1
    rw[f1] at a2
    cases a1;cases a2
    exact mi3
   have I5:Hid (w5.ownsMap prog 3 RV w.heap.size (flat (txs.take k)).length (mapD (flat (txs.take k)))∧Below w.heap.size w w5):=by
    rw[hw5];exact⟨HI.out.1.alloc _,HI.out.2.alloc HI.out.2.size _⟩
   clear HXr hcell e0 e1 mi hw5 l5 HI
   go_wp2_with ((with_reducible refine at_ops ?_);(first | (refine wpList_load_is (by rfl) 207 rfl rfl L17.out ?_) | (refine wpList_alloc_is (by rfl) 207 rfl A5.out ?_) | (refine wpList_store_is (by rfl) 207 rfl rfl rfl T5.out ?_));simp only[Act.put,zA,zB,zC])
   clear L17 A5 T5 c51
   go_loopw [21] (fun i wr=>∃j:Nat,j≤t.ims.length∧i=.int .i64 j∧Hid (wr.ownsMap prog 3 RV w.heap.size ((flat (txs.take k)).length+j) (mapD (flat (txs.take k)++t.ims.take j))∧Below w.heap.size w wr)) (fun i _=>t.ims.length-(intOf i).toNat)
   case atStart=>exact⟨0,Nat.zero_le _,rfl,by simpa using I5.out.1,I5.out.2⟩
   case round =>
    obtain ⟨j,hj,rfl,HJ⟩:=hrel
    clear I5
    by_cases hjl:j<t.ims.length
    ·obtain ⟨x,hx⟩:∃x,t.ims[j]?=some x:=⟨_,List.getElem?_eq_getElem hjl⟩
     have mi:=HM.out _ HJ.out.2
     have hxw:=mi.wf x (List.mem_of_getElem? hx)
     obtain ⟨g2,o2,rfl,-⟩:=mi.cells (by omega)
     have L24:Hid (_):=mi.load hx
     have A7:Hid (_):=allocI wr
     have T7:Hid (_):=store_newI wr x hxw.len
     obtain ⟨w7,hw7⟩:∃y,y=wr.alloc (.cells (icells x).toArray 155):=⟨_,rfl⟩
     have l7:LAt 155 w7 wr.heap.size (icells x):=by rw[hw7];exact LAt.new 155 wr _
     have c70:w7.cell? ⟨wr.heap.size,0,none⟩=some (.int .i64 x.b):=LAt.cell l7 0
     have LV:Hid (_):=LAt.loadIv l7 hxw.len
     rw[← hw7] at T7
     have O7:Hid (w7.ownsMap prog 3 RV w.heap.size ((flat (txs.take k)).length+j) (mapD (flat (txs.take k)++t.ims.take j))∧Below w.heap.size w w7):=by
      rw[hw7];exact⟨HJ.out.1.alloc _,HJ.out.2.alloc HJ.out.2.size _⟩
     have hkey:keyOf prog 3 (.int .i64 x.b)=some (kI x.b):=keyOf_int_mk underlying3 (WalkArith.wf_i64 (by have:=hxw.b;unfold i64 at this;omega))
     have hroom:(flat (txs.take k)).length+j<maxLen:=by
      have h1:=flat_bd htk j;rw[List.length_take] at h1;have:=HF.out
      have h65:(3000000:Nat)≤maxLen:=by decide
      omega
     have HD:Hid (mapD (flat (txs.take k)++t.ims.take (j+1))=(mapD (flat (txs.take k)++t.ims.take j)).put (kI x.b) (hV x.v)):=by
      show _=_
      rw[List.take_add_one,hx,← List.append_assoc];exact mapD_snoc _ x
     clear mi hw7 l7 HJ
     go_wp2_with ((with_reducible refine at_ops ?_);(first | (refine wpList_load_is (by rfl) 155 rfl rfl L24.out ?_;simp only[Act.put,zA,zB,zC]) | (refine wpList_load_is (by rfl) 39 rfl rfl LV.out ?_;simp only[Act.put,zA,zB,zC]) | (refine wpList_alloc_is (by rfl) 155 rfl A7.out ?_;simp only[Act.put,zA,zB,zC]) | (refine wpList_store_is (by rfl) 155 rfl rfl rfl T7.out ?_;simp only[Act.put]) | (refine wpList_mapUpdate_own _ rfl _ _ _ 208 rfl 3 39 law3 underlying208 RV w.heap.size ((flat (txs.take k)).length+j) _ rfl O7.out.1 hroom (.int .i64 x.b) (.agg (U8 x.v).toArray) (kI x.b) rfl rfl hkey (hV x.v) [] rfl ?_;intro w8 hown8 hgrow8;simp only[Act.put])))
     have F8:Hid (w8.ownsMap prog 3 RV w.heap.size ((flat (txs.take k)).length+(j+1)) (mapD (flat (txs.take k)++t.ims.take (j+1)))∧Below w.heap.size w w8):=by
      rw[HD.out];exact⟨hown8,O7.out.2.grown hgrow8 O7.out.2.size fun r hr=>by cases hr;exact Nat.le_refl _⟩
     clear hown8 hgrow8
     go_wp2_with fail
     go_roundw
     case rel=>exact⟨j+1,by omega,by go_num,F8.out⟩
     case measure=>simp[intOf];omega
    ·obtain rfl:j=t.ims.length:=by omega
     have F8:Hid (wr.ownsMap prog 3 RV w.heap.size (flat (txs.take (k+1))).length (mapD (flat (txs.take (k+1))))∧Below w.heap.size w wr):=by
      show _∧_
      rw[take_flat txs htk,List.length_append]
      have:=HJ.out
      rw[List.take_length] at this
      exact this
     clear HJ
     go_wp2_with fail
     go_roundw
     case rel=>exact⟨k+1,by omega,by go_num,F8.out⟩
     case measure=>simp[intOf];omega
  ·obtain rfl:n=k:=by omega
   have HO:Hid (wr.ownsMap prog 3 RV w.heap.size (flat txs).length (mapD (flat txs))∧Below w.heap.size w wr):=by
    show _∧_
    have:=HI.out
    rw[← hlen,List.take_length] at this
    exact this
   clear HI
   go_wp2_with fail
   refine (keys_any (some w.heap.size) wr).mono ?_
   rintro e w1 ⟨rfl,rfl⟩
   go_wp2_with fail
   have hsz:=HO.out.1.size_le
   refine (sorted_any w.heap.size _ (mapD (flat txs)) RV wr HO.out.1 (by have:=HF.out;have h65:(3000000:Nat)≤maxLen:=(by decide);omega) (by have:=HF.out;omega)).mono ?_
   rintro e w2 ⟨v2,ss,rfl,hS,hrow,hb2⟩
   obtain ⟨up,mem⟩:=sorted_up (HO.out.1.tidy law3) hS
   obtain ⟨Ks,hKs⟩:∃Ks,(ss.mergeSort fun x y=>decide (x≤y))=Ks:=⟨_,rfl⟩
   have hl2:Ks.length=ss.length:=by rw[← hKs];exact List.length_mergeSort ss
   have hle:ss.length≤2000000:=by
    have h1:=hS.length_eq
    have h2:(intKeys (mapD (flat txs))).length=Maps.size (mapD (flat txs)):=by
     obtain ⟨es,e',-⟩:=mapD_es (flat txs)
     rw[e'];simp[intKeys,Maps.size]
    have:=HF.out;omega
   rw[hKs] at up mem hrow
   have HUp:Hid (Ks.Pairwise (· < ·)∧∀b,b∈Ks↔b∈blks (flat txs)):=⟨up,mem⟩
   rw[← hl2] at hrow hle
   have HO2:Hid (w2.ownsMap prog 3 RV w.heap.size (flat txs).length (mapD (flat txs))∧Below w.heap.size w w2):=by
    refine⟨HO.out.1.kept (row:=none) ⟨hb2.os,hb2.tape,hb2.output,hb2.size,fun k hk _=>hb2.block k hk⟩ (by simp),HO.out.2.trans (hb2.mono HO.out.2.size)⟩
   have HR2:Hid (w2.ownsRow wr.heap.size 3 1 v2 Ks.length (Ks.map encZ)):=hrow
   obtain ⟨q2,c2,rfl,hcell2⟩:∃q2 c2,v2=.slice q2 Ks.length c2∧(0<Ks.length→∃g,q2=some ⟨g,0,none⟩):=by
    rcases hrow.2 with ⟨e,e2⟩ | ⟨g,cap,cur,e,-⟩
    ·exact⟨none,0,by rw[e,e2],fun h=>by omega⟩
    ·exact⟨_,cap,e,fun _=>⟨g,rfl⟩⟩
   obtain ⟨B2,hB2⟩:∃B2,B2=wr.heap.size:=⟨_,rfl⟩
   rw[← hB2] at HR2
   clear hB2
   clear HO hsz up mem hS hrow hb2 hKs hl2
   obtain ⟨B3,hB3⟩:∃B3,B3=w2.heap.size:=⟨_,rfl⟩
   have hB30:w.heap.size≤B3:=by rw[hB3];exact HO2.out.2.size
   go_wp2_with fail
   go_loopw [8,36] (fun out i wr'=>∃j:Nat,j≤Ks.length∧i=.int .i64 j∧Hid (IOwn wr' B3 out ((Ks.take j).map fun b=>(⟨b,lastV (flat txs) b⟩:Im))∧wr'.ownsMap prog 3 RV w.heap.size (flat txs).length (mapD (flat txs))∧wr'.ownsRow B2 3 1 (.slice q2 Ks.length c2) Ks.length (Ks.map encZ)∧Below w.heap.size w wr'∧B3≤wr'.heap.size)) (fun _ i _=>Ks.length-(intOf i).toNat)
   case atStart=>exact⟨0,Nat.zero_le _,rfl,World.ownsRow_nil _ _ _ _,HO2.out.1,HR2.out,HO2.out.2,by omega⟩
   case round =>
    obtain ⟨j,hj,rfl,HJ⟩:=hrel
    clear HO2 HR2
    by_cases hjl:j<Ks.length
    ·obtain ⟨g2,rfl⟩:=hcell2 (by omega)
     obtain ⟨b,hb⟩:∃b,Ks[j]?=some b:=⟨_,List.getElem?_eq_getElem hjl⟩
     have hbm:b∈blks (flat txs):=(HUp.out.2 b).1 (List.mem_of_getElem? hb)
     obtain ⟨lw1,lw2,lw3⟩:=lastV_wf (flat_wf HW.out) hbm
     have ck:wr.cell? ⟨g2,j,none⟩=some (.int .i64 b):=by
      have:=HJ.out.2.2.1.cells (g:=g2) rfl j (.int .i64 b) (by rw[List.getElem?_map,hb];rfl)
      rw[Addr.add_mid,Nat.zero_add] at this;exact this
     have LK:Hid (_):=look_at HJ.out.2.1 hbm lw3
     have UI:Hid (_):=buildI wr b (lastV (flat txs) b) lw1
     have SI:Hid (_):=build_im wr ⟨b,lastV (flat txs) b⟩ lw1
     have hlj:((Ks.take j).map fun b=>(⟨b,lastV (flat txs) b⟩:Im)).length=j:=by rw[List.length_map,List.length_take];omega
     obtain ⟨i0,hi0,hz0,hz1,hz2⟩:=info_parts infoI
     have h65:(3000000:Nat)≤maxLen:=by decide
     obtain ⟨v',w4,hrun,hown',hgrow,-⟩:=run_append_own (P:=prog) (wr.alloc (.cells (icells ⟨b,lastV (flat txs) b⟩).toArray 155)) B3 92 92 155 i0 _ 33 40 underlying92 hi0 hz0 hz1 hz2 rfl (by decide) u8 _ _ (HJ.out.1.alloc _) ⟨wr.heap.size,0,none⟩ 1 1 (icells ⟨b,lastV (flat txs) b⟩) (by rw[icells_len lw1]) (fun j u hu=>by
      rw[Addr.add_mid,Nat.zero_add,LAt.cell (LAt.new 155 wr (icells ⟨b,lastV (flat txs) b⟩)) j];exact hu) (icells_ones _) (by omega) (by omega) (by have:=HJ.out.2.2.2.2;simp;omega)
     have AP:Hid (_):=hrun
     have F4:Hid (IOwn w4 B3 v' ((Ks.take (j+1)).map fun b=>(⟨b,lastV (flat txs) b⟩:Im))∧w4.ownsMap prog 3 RV w.heap.size (flat txs).length (mapD (flat txs))∧w4.ownsRow B2 3 1 (.slice (some ⟨g2,0,none⟩) Ks.length c2) Ks.length (Ks.map encZ)∧Below w.heap.size w w4∧B3≤w4.heap.size):=by
      have hr:=HJ.out.1
      refine⟨?_,?_,?_,?_,?_⟩
      ·rw[List.take_add_one,hb]
       show IOwn w4 B3 v' (((Ks.take j)++[b]).map _)
       rw[List.map_append,List.map_cons,List.map_nil,IOwn,IC_snoc,List.length_append,List.length_singleton]
       exact hown'
      ·refine (HJ.out.2.1.alloc _).kept hgrow fun e=>?_
       have:=(hr.lt _ e.symm).1
       rcases hr.2 with ⟨e1,_⟩ | ⟨g5,cap5,cur5,e1,e2,e3,_⟩
       ·rw[e1] at e;cases e
       ·rw[e1] at e
        simp only[Value.ownBlock,Option.some.injEq] at e
        obtain ⟨es,clk,hm,-⟩:=HJ.out.2.1
        rw[e,e3] at hm;cases hm
      ·exact (HJ.out.2.2.1.alloc _).kept hgrow (own_ne HJ.out.2.2.1 hr (by decide))
      ·exact (HJ.out.2.2.2.1.alloc HJ.out.2.2.2.1.size _).grown hgrow (by have:=HJ.out.2.2.2.1.size;simp;omega) fun r er=>Nat.le_trans hB30 (hr.lt r er).1
      ·have:=hgrow.size;have:=HJ.out.2.2.2.2;simp at *;omega
     clear hrun hown' hgrow HJ hlj
     go_wp2_with ((with_reducible refine at_ops ?_);(first | (refine wpList_lookup_is (u1:=.map (some w.heap.size)) (u2:=.int .i64 b) (by rfl) 208 rfl rfl rfl LK.out ?_) | (refine wpList_build_is (vs:=[(0,.int .i64 b),(1,.agg (U8 (lastV (flat txs) b)).toArray)]) (by rfl) 155 rfl (by rfl) UI.out ?_) | (refine wpList_slice_is (u:=.agg (icells ⟨b,lastV (flat txs) b⟩).toArray) (by rfl) 92 rfl rfl SI.out ?_) | (refine wpList_append_is (u1:=u8) (u2:=.slice (some ⟨wr.heap.size,0,none⟩) 1 1) (by rfl) rfl rfl rfl rfl AP.out ?_));simp only[Act.put,zA,zB,zC])
     go_roundw
     case rel=>exact⟨j+1,by omega,by go_num,F4.out⟩
     case measure=>simp[intOf];omega
    ·obtain rfl:j=Ks.length:=by omega
     go_wp2_with fail
     go_ret
     have:=HJ.out.1
     rw[List.take_length,nw_eq (flat txs) Ks HUp.out.1 HUp.out.2] at this
     exact⟨_,rfl,own_at this (fun g hg=>Nat.le_trans hB30 (this.lt g hg).1) rfl,HJ.out.2.2.2.1⟩
end Go.Proofs.YtdadpepfpiimgaaGreatDoor
namespace Go.Proofs.YtdadpepfpiimgaaGreatDoor
open Go.Proofs.Tryz
open Go.RowKit
theorem fldsI:prog.underlying 155=some (.struct (prog.fieldsOf 155)):=by kernel_rfl
theorem heldI:prog.stoodInHeld 155=false:=by kernel_rfl
theorem eqgI:prog.eqGuardType prog.depth 155=false:=by kernel_rfl
def flI:List (Bool × TypeId × Nat):=[(true,3,0),(true,39,1)]
theorem flI_is:fl prog 155=flI:=by kernel_rfl
theorem sizeOfV (w:World):(sizeOf 39).run prog w=.ok 32 w:=by
 cases hi:prog.info? 39 with
 | none=>have:=sizeV;simp[hi] at this
 | some i =>
  have h:=sizeV
  simp only[hi,Option.map_some,Option.some.injEq] at h
  simp[sizeOf,typeInfo,hi,h]
theorem partV (w:World)(i:Im)(h:i.v.length=32):(part 39 (icells i).toArray 1).run prog w=.ok (.agg (U8 i.v).toArray) w:=by
 have hagg:(isAgg 39).run prog w=.ok true w:=by
  unfold isAgg
  rw[Sem.run_bind,run_underlying underlying39 w]
  rfl
 have hx:(icells i).toArray.extract 1 (1+32)=(U8 i.v).toArray:=by
  rw[List.extract_toArray]
  congr 1
  show ((icells i).drop 1).take (1+32-1)=_
  rw[show (icells i).drop 1=U8 i.v from rfl,List.take_of_length_le (by rw[U8_length,h];omega)]
 simp only[part,Sem.run_bind,hagg,Result.andThen_ok,if_true,sizeOfV,Sem.run_pure,hx]
def imB (i j:Im):Bool:=i.b == j.b && decide (i.v=j.v)
theorem imB_iff (i j:Im):imB i j=true↔i=j:=by
 obtain ⟨a,b⟩:=i;obtain ⟨c,d⟩:=j
 simp[imB]
theorem equalI (w:World)(d:Nat)(i j:Im)(hi:i.v.length=32)(hj:j.v.length=32):(Op.equalIn (d+3) 155 (.agg (icells i).toArray) (.agg (icells j).toArray)).run prog w=.ok (imB i j) w:=by
 rw [run_equalIn_struct w (d + 2) 155 _ _ fldsI heldI, eqParts_of, show (prog.fieldsOf 155).toList.map (fun f => (decide (f.name ≠ "_"), f.type, f.offset)) = flI from flI_is]
 unfold flI imB
 rw[eqParts_cons w _ _ _ 3 0 _ (part3 w (icells i) 0 i.b rfl) (part3 w (icells j) 0 j.b rfl) (run_equalIn_int w (d+1) 3 .i64 .i64 _ _ underlying3),
  eqParts_cons w _ _ _ 39 1 _ (partV w i hi) (partV w j hj) (equalV w d i.v j.v hi hj)]
 have e0:(eqParts (d+2) (icells i).toArray (icells j).toArray []).run prog w=.ok true w:=by rw[eqParts];exact Sem.run_pure ..
 rw[e0]
 cases (i.b == j.b) <;> cases decide (i.v=j.v) <;> simp
theorem neqI (w:World)(i j:Im)(hi:i.v.length=32)(hj:j.v.length=32):(binOp .neq 155 (.agg (icells i).toArray) (.agg (icells j).toArray)).run prog w=.ok (.bool (!imB i j)) w:=by
 rw[run_neq_struct,equalI w 9997 i j hi hj];rfl
theorem sameImages_eq (p q:Option Addr)(n c d:Nat)(l:List Im)(w:World)(h:MIn w p n l)(k:MIn w q n l)(hbig:n≤140737488355328) :
  Calls prog 67 #[.slice p n c,.slice q n d] w fun e w'=>e=.returned (.bool true)∧Below w.heap.size w w':=by
 have HP:Hid (MIn w p n l):=h
 have HQ:Hid (MIn w q n l):=k
 have e1:(((n:Nat):Int) != (n:Int))=false:=by simp
 clear h k
 go_enter func67,ntmps67
 go_wp2_with fail
 clear e1
 go_loopw [5] (fun i wr=>∃j:Nat,j≤n∧i=.int .i64 j∧Hid (Below w.heap.size w wr)) (fun i _=>n-(intOf i).toNat)
 case atStart=>exact⟨0,Nat.zero_le _,rfl,Below.refl _ _⟩
 case round =>
  obtain ⟨j,hj,rfl,Br⟩:=hrel
  by_cases hlt:j<n
  ·have h0:0<n:=by omega
   obtain ⟨x,hx⟩:∃x,l[j]?=some x:=⟨_,List.getElem?_eq_getElem (by rw[HP.out.len];exact hlt)⟩
   obtain ⟨b1,o1,rfl,-⟩:=HP.out.cells h0
   obtain ⟨b2,o2,rfl,-⟩:=HQ.out.cells h0
   have R1:Hid (w.rangeAt b1 (o1+j*33) (icells x)):=HP.out.at hx
   have R2:Hid (w.rangeAt b2 (o2+j*33) (icells x)):=HQ.out.at hx
   have L1:Hid (x.v.length=32):=(HP.out.wf x (List.mem_of_getElem? hx)).len
   have M1:Hid (b1<w.heap.size):=range_lt R1.out (by rw[icells_len L1.out];omega)
   have M2:Hid (b2<w.heap.size):=range_lt R2.out (by rw[icells_len L1.out];omega)
   have QE:Hid (∀w,(binOp .neq 155 (.agg (icells x).toArray) (.agg (icells x).toArray)).run prog w=.ok (.bool false) w):=fun w=>by rw[neqI w _ _ L1.out L1.out,(imB_iff x x).2 rfl];rfl
   have i1:(j:Int)<(n:Int):=by omega
   have i0:(0:Int)≤(j:Int):=by omega
   clear hx
   obtain ⟨wv,hwv⟩:∃wv,wv=wr:=⟨_,rfl⟩
   subst hwv
   go_wp2_with fail
   refine wp_region_noPanic ?_
   refine wp_region_held_drew (S:=fun w'=>Below wv.heap.size wv w') (by kernel_rfl) (below_drawn 1) (fun hHeld=>?_)
   have DD:Hid (Below wv.heap.size wv wv.drew):=hHeld
   generalize wv.drew=wd at *
   refine tk 0 hHeld ?_
   refine tk 1 hHeld ?_
   refine tk 2 hHeld ?_
   refine wpAnyH_take (i:=3) (v:=_) (by simp;rfl) (by kernel_rfl) (by kernel_rfl) (by kernel_rfl) (fun _ _ _ h=>h) (yieldsIf_load_mid (by rfl) 155 (.tmp 19) rfl b1 (o1+j*33) rfl (icells x) _ (fun _ h=>rangeAt_same R1.out ((Br.out.trans (h.mono Br.out.size)).block b1 M1.out)) underlying155 rfl (by rw[sizeI,icells_len L1.out])) hHeld ?_
   simp only[Act.put,zA,zB,zC]
   refine tk 4 hHeld ?_
   refine tk 5 hHeld ?_
   refine tk 6 hHeld ?_
   refine wpAnyH_take (i:=7) (v:=_) (by simp;rfl) (by kernel_rfl) (by kernel_rfl) (by kernel_rfl) (fun _ _ _ h=>h) (yieldsIf_load_mid (by rfl) 155 (.tmp 23) rfl b2 (o2+j*33) rfl (icells x) _ (fun _ h=>rangeAt_same R2.out ((Br.out.trans (h.mono Br.out.size)).block b2 M2.out)) underlying155 rfl (by rw[sizeI,icells_len L1.out])) hHeld ?_
   simp only[Act.put,zA,zB,zC]
   refine wpAnyH_take (i:=8) (v:=_) (by simp;rfl) (by kernel_rfl) (by kernel_rfl) (by kernel_rfl) (fun _ _ _ h=>h) (yields_neq_is (by rfl) 155 rfl rfl rfl eqgI QE.out) hHeld ?_
   simp only[Act.put,zA,zB,zC]
   clear hHeld
   refine wpAnyH_done (by kernel_rfl) (NoPanic.normal ?_) _
   have B3:Hid (Below w.heap.size w wd):=below_then Br.out DD.out
   clear Br QE R1 R2 L1 DD
   go_wp2_with fail
   go_roundw
   case rel=>exact⟨j+1,by omega,by go_num,B3.out⟩
   case measure=>simp[intOf];omega
  ·have hnl:¬(j:Int)<(n:Int):=by omega
   go_wp2_with fail
   go_ret
   exact⟨rfl,Br.out⟩
end Go.Proofs.YtdadpepfpiimgaaGreatDoor
