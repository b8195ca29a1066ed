import Derived.Test.YtcdjepkhdjpjcaaGreatDoorY26
import Derived.RangeFuncNested
import Derived.RangeFuncBound
import Derived.Shelf.RegionOpen
import Derived.OwnWalkIn
import Derived.LoopNIn
import Derived.LoopIn
import Derived.Laws.EntriesVeiled
set_option maxHeartbeats 20000000
set_option maxRecDepth 100000
namespace Go.Proofs.YtcdjepkhdjpjcaaGreatDoor.C
open Go.RowKit
open Go.Shelf
attribute [local go_sem] Oper.semAt_some
def SeqIn {α:Type}(F:Fence)(n:Nat)(P:Program)(g:Nat)(lb:Array Value)(encs:α→Array Value)(Kp:World→World→Prop)(S Sp:List α→Prop)(N:Nat)(w:World):Prop :=
 ∀(l:Nat) (J Jx:List α→World→Prop) (W:World),Below w.heap.size w W→OwnFrom W.heap.size J→OwnFrom W.heap.size Jx →
  (∀pre x V,J pre V→pre.length<N→YieldAt F (n-1) P l (encs x) V fun e V' =>
   KeepsFrom W.heap.size V V'∧((e=.returned (.bool true)∧J (pre++[x]) V'∧Kp V V')∨(e=.returned (.bool false)∧Jx (pre++[x]) V'))) →
  J [] W →
  CallsIn F n P g (#[.func (.yield l) #[] #[]]++lb) W fun e V=>(∃v,e=.returned v)∧((∃xs,S xs∧J xs V)∨(∃pre,Sp pre∧Jx pre V))
structure Laid2 (D:Nat) (r:Loop) (W:World):Prop where
 rcd:W.heap[D+1]?=some (.loop r)
 dfr:W.heap[D]?=some (.deferred (some []))
theorem Laid2.lt {D:Nat}{r:Loop}{W:World}(h:Laid2 D r W):D+1<W.heap.size:=(Array.getElem?_eq_some_iff.1 h.rcd).1
theorem Laid2.keeps {D:Nat}{r:Loop}{W W':World}(h:Laid2 D r W)(hk:KeepsFrom D W W'):Laid2 D r W':=⟨hk.same _ _ (by omega) h.rcd rfl,hk.same _ _ (Nat.le_refl _) h.dfr rfl⟩
theorem Laid2.put {D:Nat}{r:Loop}{W:World}(h:Laid2 D r W)(r':Loop):Laid2 D r' (W.putObj (D+1) (.loop r')):=⟨World.putObj_heap_same h.lt,(World.putObj_heap_other (by omega)).trans h.dfr⟩
theorem Laid2.own {D:Nat}{r:Loop}{β:Type}:OwnFrom (D+2) (fun (_:β) W=>Laid2 D r W):=fun _ W W' row hs hg hr=>by
 have e:∀k,k<D+2→k<W.heap.size→W'.heap[k]?=W.heap[k]?:=fun k h1 h2=>hg.block k h2 fun e=>by have:=(hr k e.symm).1;omega
 have:=hs.lt
 exact⟨(e _ (by omega) (by omega)).trans hs.rcd,(e _ (by omega) (by omega)).trans hs.dfr⟩
theorem keeps_put (D:Nat)(W:World)(r':Loop):KeepsFrom (D+2) W (W.putObj (D+1) (.loop r')) :=
 ⟨by simp,fun _ _ hk h1 _=>(World.putObj_heap_other (by omega)).trans h1⟩
theorem keeps_more {B C:Nat}{W W':World}(h:KeepsFrom B W W')(hb:B≤C):KeepsFrom C W W':=⟨h.size,fun k o hk=>h.same k o (by omega)⟩
section
variable {F:Fence} {n:Nat} {P:Program}
theorem range_in {α:Type}{g:Operand}{ps:Array Tmp}{assign body:Code}{Q:Exit→Act→World→Prop}{a:Act}{w:World}
  (hro:F.round=none) (h1:1≤n) {gf:Nat} {lb:Array Value} (hg:a.eval g=.func (.func gf) #[] lb) (hFg:F.fn gf) (eg:∀args w,(callFunc gf args).run P w=.ok (.enter gf args) w)
  {encs:α→Array Value} {Kp:World→World→Prop} {S Sp:List α→Prop} {N:Nat} {w0:World} (hseq:SeqIn F (n-1) P gf lb encs Kp S Sp N w0)
  (hKt:∀{A B C:World},Kp A B→Kp B C→Kp A C) (hKb:∀(W:World) (l:Nat) (o o':Obj),w.heap.size≤l→W.heap[l]?=some o→o.isCells=false→Kp W (W.putObj l o')) (hb0:Below w0.heap.size w0 w) (hps:∀x,(encs x).size=ps.size)
  (I:List α→World→Prop) (Ix:Code→List α→World→Prop) (hI:OwnFrom w.heap.size I) (hIx:∀c,OwnFrom w.heap.size (Ix c)) (h0:I [] w) (Ax:α→Act→World→Prop) (hAx:∀x a',OwnFrom w.heap.size (fun (_:Unit) W=>Ax x a' W))
  (hassign:∀(l:Nat) (pre:List α) (x:α) (W:World) (K:Act→World→Prop),I pre W→(∀a' W',KeepsFrom w.heap.size W W'→Kp W W'→I pre W'→Ax x a' W'→K a' W') →
   assign.wpIn (F.inRound l) (n-1-1) P (Exit.then K (fun _ _ _=>False)) { tmps:=(ps.zip (encs x)).foldl (fun t (p,v)=>t.setIfInBounds p v) a.tmps,defers:=[] } W)
  (hbody:∀(l:Nat) (pre:List α) (x:α) (a':Act) (W:World),I pre W→Ax x a' W→pre.length<N→body.wpIn (F.inRound l) (n-1-1) P (ownPostG w.heap.size Kp I Ix (pre++[x]) W) a' W)
  (hdone:∀(D:Nat) (xs:List α) (W:World),w.heap.size≤D→S xs→I xs W→W.heap[D]?=some (.deferred (some []))→Q .normal { a with defers:={ target:=.collected D,args:=#[] } :: a.defers } W)
  (hstop:∀(D:Nat) (c:Code) (pre:List α) (W:World),w.heap.size≤D→Sp pre→Ix c pre W→W.heap[D]?=some (.deferred (some []))→c.wpIn F n P Q { a with defers:={ target:=.collected D,args:=#[] } :: a.defers } W) :
  (Code.rangeFunc g ps assign body).wpIn F n P Q a w:=by
 obtain ⟨D,hD⟩:∃D,D=w.heap.size:=⟨_,rfl⟩
 refine wpIn_rangeFunc fun fn hfn=>?_
 rw[hro]
 let rec0:LoopState→Option Code→Loop:=fun st pe=>{ state:=st,pending:=pe,fn,tmps:=a.tmps,params:=ps,assign,body,defers:=w.heap.size }
 obtain ⟨V0,hV0⟩:∃V,(w.alloc (.deferred (some []))).alloc (.loop (rec0 .ready none))=V:=⟨_,rfl⟩
 have hs0:V0.heap.size=D+2:=by rw[← hV0,hD];simp
 have L0:Laid2 D (rec0 .ready none) V0:=by
  rw[← hV0,hD]
  refine⟨?_,(Below.heap_alloc _ _ _ (by simp)).trans (World.alloc_heap_new w _)⟩
  have:=World.alloc_heap_new (w.alloc (.deferred (some []))) (.loop (rec0 .ready none))
  rwa [World.size_alloc] at this
 have hb1:Below w0.heap.size w0 V0:=by
  rw[← hV0];exact hb0.trans ((((Below.refl _ w).alloc (Nat.le_refl _) _).alloc (by simp) _).mono hb0.size)
 refine⟨D+1,[{ target:=.collected D,args:=#[] }],V0,{ target:=.fn (.func gf) lb,args:=#[.func (.yield (D+1)) #[] #[]] },V0,gf,#[.func (.yield (D+1)) #[] #[]]++lb,V0,?_,?_,?_,?_,fun _=>h1,?_⟩
 ·rw[← hV0,hD];exact run_enterLoop_outer _ _ _ _ _
 ·simp only[resolve,hg];simp[go_sem]
 ·intro f' hf';simp[Target.leads] at hf';subst hf';exact hFg
 ·simp[invoke,go_sem,eg]
 have hIw:OwnFrom (D+2) I:=fun s A B row hs hg' hr=>hI s A B row hs hg' fun r e=>⟨by have:=(hr r e).1;omega,(hr r e).2⟩
 have hIxw:∀c,OwnFrom (D+2) (Ix c):=fun c s A B row hs hg' hr=>hIx c s A B row hs hg' fun r e=>⟨by have:=(hr r e).1;omega,(hr r e).2⟩
 refine (hseq (D+1) (fun pre W=>I pre W∧Laid2 D (rec0 .ready none) W) (fun pre W=>∃c,Ix c pre W∧Laid2 D (rec0 .done (some c)) W) V0 hb1 ?_ ?_ ?_ ⟨?_,L0⟩).mono ?_
 ·rw[hs0];exact OwnFrom.and hIw Laid2.own
 ·rw[hs0];intro s A B row hs hg' hr
  obtain ⟨c,hc,hl⟩:=hs
  exact⟨c,hIxw c s A B row hc hg' hr,Laid2.own () A B row hl hg' hr⟩
 ·rintro pre x W ⟨hi,hl⟩ hlen
  rw[hs0]
  refine⟨fn,_,assign,body,run_yield hl.rcd (hps x),roundIn_of_wpIn hfn (hassign _ pre x W _ hi ?_)⟩
  intro a' Wa ka kpa hia hax
  rw[← hD] at ka
  have la:=hl.keeps ka
  refine⟨_,run_beginRound la.rcd rfl,?_⟩
  have lb':=la.put { rec0 .ready none with state:=.busy }
  refine wpIn_mono (hbody _ pre x a' _ (hI.putObj _ hia (by omega) la.rcd rfl) ((hAx x a').putObj (s:=()) _ hax (by omega) la.rcd rfl) hlen) ?_
  have fin:∀(jump:Option Code) (W3:World),KeepsFrom w.heap.size (Wa.putObj (D+1) (.loop { rec0 .ready none with state:=.busy })) W3 →
    ∃r,W3.heap[D+1]?=some (.loop r)∧(Instr.endRound (D+1) jump).run P W3=.ok (.bool jump.isNone) (W3.putObj (D+1) (.loop (rec0 (if jump.isNone then .ready else .done) jump))) ∧
    Laid2 D (rec0 (if jump.isNone then .ready else .done) jump) (W3.putObj (D+1) (.loop (rec0 (if jump.isNone then .ready else .done) jump))) ∧
    KeepsFrom (D+2) W (W3.putObj (D+1) (.loop (rec0 (if jump.isNone then .ready else .done) jump))):=fun jump W3 k3=>by
   rw[← hD] at k3
   have l3:=lb'.keeps k3
   exact⟨_,l3.rcd,run_endRound jump l3.rcd,l3.put _,(((keeps_more ka (by omega)).trans (keeps_put D _ _)).trans (keeps_more k3 (by omega))).trans (keeps_put D _ _)⟩
  rintro e a3 W3 hp
  cases e with
  | normal =>
   obtain ⟨k3,kp3,i3⟩:=hp
   obtain ⟨r,hr,e3,l3,kk⟩:=fin none W3 k3
   exact⟨_,_,e3,kk,.inl ⟨rfl,⟨hI.putObj _ i3 (by omega) hr rfl,l3⟩,hKt kpa (hKt (hKt (hKb _ _ _ _ (by omega) la.rcd rfl) kp3) (hKb _ _ _ _ (by omega) hr rfl))⟩⟩
  | ret =>
   obtain ⟨k3,i3⟩:=hp
   obtain ⟨r,hr,e3,l3,kk⟩:=fin (some .ret) W3 k3
   exact⟨_,_,e3,kk,.inr ⟨rfl,.ret,(hIx _).putObj _ i3 (by omega) hr rfl,l3⟩⟩
  | exit id =>
   obtain ⟨k3,i3⟩:=hp
   obtain ⟨r,hr,e3,l3,kk⟩:=fin (some (.exit id)) W3 k3
   exact⟨_,_,e3,kk,.inr ⟨rfl,.exit id,(hIx _).putObj _ i3 (by omega) hr rfl,l3⟩⟩
  | goto t =>
   obtain ⟨k3,i3⟩:=hp
   obtain ⟨r,hr,e3,l3,kk⟩:=fin (some (.goto t)) W3 k3
   exact⟨_,_,e3,kk,.inr ⟨rfl,.goto t,(hIx _).putObj _ i3 (by omega) hr rfl,l3⟩⟩
  | panic ch=>exact hp.elim
  | outgrown=>exact hp.elim
 ·rw[← hV0];exact hI.alloc _ (hI.alloc _ h0)
 ·rintro e W2 ⟨⟨v,rfl⟩,(⟨xs,hS,hi,hl⟩ | ⟨pre,hSp,c,hi,hl⟩)⟩
  ·exact⟨none,_,run_endLoop hl.rcd (by simp[rec0]),hdone _ xs _ (by omega) hS (hI.putObj _ hi (by omega) hl.rcd rfl) ((World.putObj_heap_other (by omega)).trans hl.dfr)⟩
  ·exact⟨some c,_,run_endLoop hl.rcd (by simp[rec0]),hstop _ c pre _ (by omega) hSp ((hIx c).putObj _ hi (by omega) hl.rcd rfl) ((World.putObj_heap_other (by omega)).trans hl.dfr)⟩
end
section
variable {F:Fence} {n:Nat} {P:Program} {ops:Array Oper} {rest:List Oper} {o:Oper} {a:Act} {w w':World} {Q:Exit→Act→World→Prop}
theorem in_ops (h:wpListIn F n P ops Q (o :: rest) a w):wpListIn F n P ops Q (o :: rest) a w:=h
theorem in_val (hgd:Region.wanted o (yielded ops a.tmps)=true)(hab:o.about P w a.eval=none)(hop:∀c,o.op≠.defer c){v:Value}(hrun:(execOp a.eval o).run P w=.ok (.value v) w')(h:wpListIn F n P ops Q rest (a.put o.dst v) w'):wpListIn F n P ops Q (o :: rest) a w :=
 wpListIn_step fun K hK=>by
  rw[if_pos hgd]
  unfold Oper.wpIn
  refine⟨fun f hf=>(by rw[hab] at hf;cases hf),?_⟩
  rw[Oper.semAt_plain F _ _ hop,hrun]
  exact hK _ _ h
theorem in_skp (hgd:Region.wanted o (yielded ops a.tmps)=true)(hab:o.about P w a.eval=none)(hop:∀c,o.op≠.defer c)(hrun:(execOp a.eval o).run P w=.ok .skip w')(h:wpListIn F n P ops Q rest (a.put o.dst undef) w'):wpListIn F n P ops Q (o :: rest) a w :=
 wpListIn_step fun K hK=>by
  rw[if_pos hgd]
  unfold Oper.wpIn
  refine⟨fun f hf=>(by rw[hab] at hf;cases hf),?_⟩
  rw[Oper.semAt_plain F _ _ hop,hrun]
  exact hK _ _ h
theorem in_load (hgd:Region.wanted o (yielded ops a.tmps)=true)(ty:TypeId){x:Operand}(ho:o.op=.load ty x){p v:Value}(hx:a.eval x=p)(hrun:(Instr.loadAt ty p).run P w=.ok v w)(h:wpListIn F n P ops Q rest (a.put o.dst v) w):wpListIn F n P ops Q (o :: rest) a w :=
 in_val hgd (by simp[Oper.about,ho]) (by rw[ho];intro c e;cases e) (by unfold execOp;simp only[ho,hx,Sem.run_bind,hrun,Result.andThen_ok,Sem.run_pure]) h
theorem in_alloc (hgd:Region.wanted o (yielded ops a.tmps)=true)(ty:TypeId)(ho:o.op=.alloc ty){v:Value}(hrun:(Instr.alloc ty true (.tuple #[])).run P w=.ok v w')(h:wpListIn F n P ops Q rest (a.put o.dst v) w'):wpListIn F n P ops Q (o :: rest) a w :=
 in_val hgd (by simp[Oper.about,ho]) (by rw[ho];intro c e;cases e) (by unfold execOp;simp only[ho,Sem.run_bind,hrun,Result.andThen_ok,Sem.run_pure]) h
theorem in_store (hgd:Region.wanted o (yielded ops a.tmps)=true)(ty:TypeId){x y:Operand}(ho:o.op=.store ty x y){p v:Value}(hx:a.eval x=p)(hy:a.eval y=v)(hrun:(Instr.storeAt ty p v).run P w=.ok () w')(h:wpListIn F n P ops Q rest (a.put o.dst undef) w'):wpListIn F n P ops Q (o :: rest) a w :=
 in_skp hgd (by simp[Oper.about,ho]) (by rw[ho];intro c e;cases e) (by unfold execOp;simp only[ho,hx,hy,Sem.run_bind,hrun,Result.andThen_ok,Sem.run_pure]) h
end
theorem keeps_of_below {V V':World}(h:Below V.heap.size V V')(B:Nat):KeepsFrom B V V':=⟨h.size,fun k _ _ hk _=>(h.block k (Array.getElem?_eq_some_iff.1 hk).1).trans hk⟩
theorem own_below {β:Type}{B:Nat}{J:β→World→Prop}(h:OwnFrom B J){s:β}{V V':World}(hs:J s V)(hb:Below V.heap.size V V'):J s V':=h s V V' none hs (grown_of_below hb) (fun _ e=>by cases e)
end Go.Proofs.YtcdjepkhdjpjcaaGreatDoor.C
namespace Go.Proofs.YtcdjepkhdjpjcaaGreatDoor.C
open Go.Proofs.Tryz
open Go.RowKit
open Go.Shelf
attribute [local go_sem] Oper.semAt_some
abbrev WE:={ e:En // e.Wf }
abbrev ens (xs:List WE):List En:=xs.map (·.1)
abbrev seqV (B:Nat):Value:=.func (.func 82) #[] #[.pointer (some ⟨B,0,none⟩)]
theorem all_is (p:Option Addr)(w:World):Calls prog 34 #[.pointer p] w fun e w'=>e=.returned (seqV w.heap.size)∧w'=w.alloc (.cells #[.pointer p] 35):=by
 go_enter func34,ntmps34
 go_wp2
 go_ret
 exact⟨rfl,rfl⟩
def Stands (w:World)(p:Option Addr)(L:List En):Prop:=(p=none∧L=[])∨∃Q n ve nx,p=some ⟨Q,0,none⟩∧CAt w Q n ve L nx∧EnsWf L∧L.length≤64
theorem Stands.few {w:World}{p:Option Addr}{L:List En}(h:Stands w p L):L.length≤64:=by
 rcases h with ⟨_,rfl⟩ | ⟨Q,n,ve,nx,_,_,_,h2⟩
 ·simp
 ·exact h2
theorem ens_snoc (xs:List WE)(x:WE):ens (xs++[x])=ens xs++[x.1]:=by simp[ens]
theorem all1_nil_in (F:Fence)(n:Nat)(h7:F.fn 82)(hro:F.round=none)(l B:Nat)(J:List WE→World→Prop)(W:World)(hB:W.cell? ⟨B,0,none⟩=some (.pointer none))(h0:J [] W) :
  CallsIn F n prog 82 #[.func (.yield l) #[] #[],.pointer (some ⟨B,0,none⟩)] W fun e W'=>(∃v,e=.returned v)∧J [] W':=by
 refine callsIn_of_wp func82 rfl h7 ?_ hro
 simp only[ntmps82,List.size_toArray,List.length_cons,List.length_nil,Nat.reduceAdd,Nat.reduceSub,Array.replicate_succ,Array.replicate_zero,List.push_toArray,List.append_toArray,List.nil_append,List.cons_append]
 gi_wp2
 refine bodyPost_ret (results_none rfl _ _ _) rfl ?_
 exact⟨⟨_,rfl⟩,h0⟩
theorem all1_at_in (F:Fence)(n:Nat)(h7:F.fn 82)(hro:F.round=none)(_hn:1≤n)(l B Q n₀:Nat)(m nx:Int)(ve:Value)(L:List En)(w₀:World)(hz:w₀.heap.size=n₀)(hC:CAt w₀ Q m ve L nx)(hw:EnsWf L)(h64:L.length≤64)(J Jx:List WE→World→Prop)(W:World)(hJ:OwnFrom W.heap.size J)
  (hY:∀pre x V,J pre V→pre.length<L.length→YieldAt F (n-1) prog l #[.agg (ecells x.1).toArray] V fun e V'=>KeepsFrom W.heap.size V V'∧((e=.returned (.bool true)∧J (pre++[x]) V'∧Below n₀ V V')∨(e=.returned (.bool false)∧Jx (pre++[x]) V')))
  (hb:Below n₀ w₀ W) (hB:W.cell? ⟨B,0,none⟩=some (.pointer (some ⟨Q,0,none⟩))) (h0:J [] W) :
  CallsIn F n prog 82 #[.func (.yield l) #[] #[],.pointer (some ⟨B,0,none⟩)] W fun e W'=>(∃v,e=.returned v)∧((∃xs,ens xs=L∧J xs W')∨(∃pre,ens pre <+: L∧Jx pre W')):=by
 subst hz
 obtain ⟨p,c,rfl,hE,hc⟩:=(hC.later hb).ein hw
 have c1:=(hC.later hb).c1
 have HE:Hid (∀V,Below w₀.heap.size w₀ V→EIn V p L.length L):=fun V hV=>by
  obtain ⟨p',c',e',hE',-⟩:=(hC.later hV).ein hw
  cases e';exact hE'
 have HB0:Hid (Below w₀.heap.size w₀ W):=hb
 have HW:Hid (EnsWf L):=hw
 have HJ:Hid (OwnFrom W.heap.size J):=hJ
 have HY:Hid (∀pre x V,J pre V→pre.length<L.length→YieldAt F (n-1) prog l #[.agg (ecells x.1).toArray] V fun e V'=>KeepsFrom W.heap.size V V'∧((e=.returned (.bool true)∧J (pre++[x]) V'∧Below w₀.heap.size V V')∨(e=.returned (.bool false)∧Jx (pre++[x]) V'))):=hY
 clear hC hE hb hw hJ hY
 refine callsIn_of_wp func82 rfl h7 ?_ hro
 simp only[ntmps82,List.size_toArray,List.length_cons,List.length_nil,Nat.reduceAdd,Nat.reduceSub,Array.replicate_succ,Array.replicate_zero,List.push_toArray,List.append_toArray,List.nil_append,List.cons_append]
 gi_wp2
 gi_loopw [12] (fun i wr=>∃k:Nat,k≤L.length∧i=.int .i64 k∧Hid (∃xs:List WE,ens xs=L.take k∧J xs wr)∧Hid (Below w₀.heap.size w₀ wr)) (fun i _=>L.length-(intOf i).toNat)
 case atStart=>exact⟨0,Nat.zero_le _,rfl,(⟨[],rfl,h0⟩:∃xs:List WE,ens xs=L.take 0∧J xs W),HB0⟩
 case round =>
  obtain ⟨k,hk,rfl,HJs,HB⟩:=hrel
  by_cases hlt:k<L.length
  ·obtain ⟨xs,hxs,hJs⟩:=HJs.out
   obtain ⟨x,hx⟩:∃x,L[k]?=some x:=⟨_,List.getElem?_eq_getElem hlt⟩
   have hxw:x.Wf:=HW.out x (List.mem_of_getElem? hx)
   have hEr:=HE.out wr HB.out
   obtain ⟨b1,o1,rfl,-⟩:=hEr.cells (by omega)
   have HLd:Hid ((Instr.loadAt 54 (.pointer (some ⟨b1,o1+k*34,none⟩))).run prog wr=.ok (.agg (ecells x).toArray) wr):=EIn.load etC hEr hx
   obtain ⟨w3,hw3⟩:∃w3,w3=wr.alloc (.cells (ecells en0).toArray 54):=⟨_,rfl⟩
   obtain ⟨w4,hw4⟩:∃w4,w4=wr.alloc (.cells (ecells x).toArray 54):=⟨_,rfl⟩
   have HAL:Hid ((Instr.alloc 54 true (.tuple #[])).run prog wr=.ok (.pointer (some ⟨wr.heap.size,0,none⟩)) w3):=by rw[hw3];exact allocE etC wr
   have HST:Hid ((Instr.storeAt 54 (.pointer (some ⟨wr.heap.size,0,none⟩)) (.agg (ecells x).toArray)).run prog w3=.ok () w4):=by rw[hw3,hw4];exact store_newE etC wr x hxw.len
   have b4:Below wr.heap.size wr w4:=by rw[hw4];exact below_alloc wr _
   have HL4:Hid ((Instr.loadAt 54 (.pointer (some ⟨wr.heap.size,0,none⟩))).run prog w4=.ok (.agg (ecells x).toArray) w4):=by rw[hw4];exact LAt.loadE etC (LAt.new _ _ _) hxw.len
   have J4:J xs w4:=own_below HJ.out hJs b4
   have HB4:Hid (Below w₀.heap.size w₀ w4):=below_then HB.out b4
   have hlen:xs.length=k:=by
    have:=congrArg List.length hxs
    rw[List.length_map,List.length_take] at this
    omega
   obtain ⟨fn,tmps,assign,body,hy,hR⟩:=HY.out xs ⟨x,hxw⟩ w4 J4 (by omega)
   have HT:Hid (ens (xs++[⟨x,hxw⟩])=L.take (k+1)):=by
    obtain ⟨hk',ex⟩:=List.getElem?_eq_some_iff.1 hx
    show _=_
    rw[ens_snoc,hxs,List.take_succ_eq_append_getElem hk',ex]
   have i1:(k:Int)<(L.length:Int):=by omega
   dsimp only at hy
   clear hw3 hw4 b4 hx hEr HJs hJs hxs J4 hlen
   gi_wp2_with ((with_reducible refine in_ops ?_);(first | ((first | (refine in_load (by rfl) 54 rfl rfl HLd.out ?_) | (refine in_load (by rfl) 54 rfl rfl HL4.out ?_) | (refine in_alloc (by rfl) 54 rfl HAL.out ?_));simp only[Act.put,zA,zB,zC]) | ((refine in_store (by rfl) 54 rfl rfl rfl HST.out ?_);simp only[Act.put])))
   refine hR.mono ?_
   rintro e V3 ⟨-,(⟨rfl,hJ3,hk3⟩ | ⟨rfl,hJx3⟩)⟩
   ·have HJ3:Hid (∃ys:List WE,ens ys=L.take (k+1)∧J ys V3):=⟨_,HT.out,hJ3⟩
    have HB3:Hid (Below w₀.heap.size w₀ V3):=HB4.out.trans hk3
    clear hJ3 hk3
    gi_wp2
    go_roundw
    case rel=>exact⟨k+1,by omega,by simp,HJ3,HB3⟩
    case measure=>simp[intOf];omega
   ·have HJx:Hid (∃pre,ens pre <+: L∧Jx pre V3):=⟨_,by rw[HT.out];exact List.take_prefix _ _,hJx3⟩
    clear hJx3
    gi_wp2
    refine bodyPost_ret (results_none rfl _ _ _) rfl ?_
    exact⟨⟨_,rfl⟩,.inr HJx.out⟩
  ·have HF:Hid (∃xs:List WE,ens xs=L∧J xs wr):=by
    obtain ⟨xs,h1,h2⟩:=HJs.out
    exact⟨xs,by rw[h1,List.take_of_length_le (by omega)],h2⟩
   clear HJs
   gi_wp2
   go_end0
   exact⟨⟨_,rfl⟩,.inl HF.out⟩
theorem all1_seq (F:Fence)(n:Nat)(h7:F.fn 82)(hro:F.round=none)(hn:1≤n)(B n₀:Nat)(p:Option Addr)(L:List En)(w w₀:World)(hn₀:n₀≤w.heap.size)(hw₀:Below n₀ w₀ w)(hz₀:w₀.heap.size=n₀)
  (hB:Boxed w B 35 (.pointer p)) (hS:Stands w₀ p L) :
  SeqIn F n prog 82 #[.pointer (some ⟨B,0,none⟩)] (fun x:WE=>#[.agg (ecells x.1).toArray]) (Below n₀) (fun ys=>ens ys=L) (fun pre=>ens pre <+: L) L.length w:=fun l J Jx W hW hJ _ hY h0=>by
 have hc':=(hW.cell (p:=⟨B,0,none⟩) hB.lt).trans hB.cell
 have hb0:Below n₀ w₀ W:=hw₀.trans (hW.mono hn₀)
 rcases hS with ⟨rfl,rfl⟩ | ⟨Q,m,ve,nx,rfl,hC,h1,h2⟩
 ·exact (all1_nil_in F n h7 hro l B J W hc' h0).mono fun e W' ⟨he,hj⟩=>⟨he,.inl ⟨_,rfl,hj⟩⟩
 ·exact all1_at_in F n h7 hro hn l B Q n₀ m nx ve L w₀ hz₀ hC h1 h2 J Jx W hJ hY hb0 hc' h0
end Go.Proofs.YtcdjepkhdjpjcaaGreatDoor.C
namespace Go.Proofs.YtcdjepkhdjpjcaaGreatDoor.C
open Go.Proofs.Tryz
open Go.RowKit
open Go.Shelf
attribute [local go_sem] Oper.semAt_some
theorem cells_newE (w:World)(cs:List Value)(ty:TypeId):∀j u,cs[j]?=some u→(w.alloc (.cells cs.toArray ty)).cell? ((⟨w.heap.size,0,none⟩:Addr).add j)=some u:=fun j u hu=>by
 rw[Addr.add_mid,Nat.zero_add,cell_of_row _ w.heap.size j _ ty (0,0) (heap_alloc_new w _)]
 simpa using hu
section
variable {F:Fence} {n:Nat} {P:Program} {ops:Array Oper} {rest:List Oper} {o:Oper} {a:Act} {w w':World} {Q:Exit→Act→World→Prop}
theorem in_slice (hgd:Region.wanted o (yielded ops a.tmps)=true)(ty:TypeId){x:Operand}(ho:o.op=.buildSlice ty 1 #[(0,x)]){u v:Value}(hx:a.eval x=u)(hrun:(Instr.buildSlice ty 1 #[(0,u)]).run P w=.ok v w')(h:wpListIn F n P ops Q rest (a.put o.dst v) w'):wpListIn F n P ops Q (o :: rest) a w :=
 in_val hgd (by simp[Oper.about,ho]) (by rw[ho];intro c e;cases e) (by
  have e:(#[(0,x)]:Array (Nat × Operand)).map (fun (i,y)=>(i,a.eval y))=#[(0,u)]:=by simp[hx]
  unfold execOp;simp only[ho];rw[e];simp only[Sem.run_bind,hrun,Result.andThen_ok,Sem.run_pure]) h
theorem in_append (hgd:Region.wanted o (yielded ops a.tmps)=true){s x:Operand}{t ty:TypeId}(ho:o.op=.call { callee:=.builtin .append,args:=#[s,x],argTypes:=#[t,t] })(hty:o.type=ty){u1 u2 v:Value}(hs:a.eval s=u1)(hx:a.eval x=u2)(hrun:(Builtin.append_ #[t,t] ty #[u1,u2]).run P w=.ok v w')(h:wpListIn F n P ops Q rest (a.put o.dst v) w'):wpListIn F n P ops Q (o :: rest) a w:=by
 subst hty
 refine in_val hgd ?_ (by rw[ho];intro c e;cases e) (v:=v) (w':=w') ?_ h
 ·simp[Oper.about,ho,resolve,Target.leads,Sem.run_pure]
 ·simp[execOp,ho,resolve,invoke,builtin,hs,hx,hrun,Result.andThen]
end
theorem make_en (w:World)(m:Nat)(hm:m≤10000):∃cur:Array Value,(Instr.makeSlice 47 (.int .i64 0) (.int .i64 (m:Int))).run prog w=.ok (.slice (some ⟨w.heap.size,0,none⟩) 0 m) (w.alloc (.cells cur 54))∧cur.size=m*34:=by
 obtain ⟨i0,hi,h0,h1,h2⟩:=info_parts etC.inf
 have hmm:(i0.bytes:Int)*(m:Int)≤281474976710656:=by rw[h2];omega
 have:=run_make (P:=prog) w 47 54 i0 _ etC.ut hi h0 .i64 .i64 0 (m:Int) (by omega) (by omega) hmm (by omega)
 rw[Int.toNat_natCast,h1] at this
 exact⟨_,this,by simp[madeCells]⟩
theorem got_step {V:World}{n₀ B k cap:Nat}{q:Option Addr}{l:List En}{x:En}(hb:Boxed V B 47 (.slice q k cap))(hr:V.ownsRow n₀ 54 34 (.slice q k cap) k (EC l))(hx:x.Wf)(hn₀:n₀≤V.heap.size)(hB:n₀≤B)(hk:k≤9000) :
  ∃g' cap' V4,(Builtin.append_ #[47,47] 47 #[.slice q k cap,.slice (some ⟨V.heap.size,0,none⟩) 1 1]).run prog (V.alloc (.cells (ecells x).toArray 54))=.ok (.slice (some ⟨g',0,none⟩) (k+1) cap') V4∧Boxed V4 B 47 (.slice q k cap) ∧
   (Boxed (V4.setCell ⟨B,0,none⟩ (.slice (some ⟨g',0,none⟩) (k+1) cap')) B 47 (.slice (some ⟨g',0,none⟩) (k+1) cap')∧(V4.setCell ⟨B,0,none⟩ (.slice (some ⟨g',0,none⟩) (k+1) cap')).ownsRow n₀ 54 34 (.slice (some ⟨g',0,none⟩) (k+1) cap') (k+1) (EC (l++[x])) ∧
    KeepsOthers V (V4.setCell ⟨B,0,none⟩ (.slice (some ⟨g',0,none⟩) (k+1) cap'))∧Below n₀ V (V4.setCell ⟨B,0,none⟩ (.slice (some ⟨g',0,none⟩) (k+1) cap')) ∧
    ∀j t u,t≠54→j≠B→Boxed V j t u→Boxed (V4.setCell ⟨B,0,none⟩ (.slice (some ⟨g',0,none⟩) (k+1) cap')) j t u):=by
 obtain ⟨i0,hi,hz0,hz1,hz2⟩:=info_parts etC.inf
 have h65:(10000:Nat)≤maxLen:=by decide
 obtain ⟨v',V4,hrun,hown',hgrow,-⟩:=run_append_own (P:=prog) (V.alloc (.cells (ecells x).toArray 54)) n₀ 47 47 54 i0 _ 34 48 etC.ut hi hz0 hz1 hz2 rfl (by decide) (.slice q k cap) k (EC l) (hr.alloc _) ⟨V.heap.size,0,none⟩ 1 1 (ecells x) (by rw[ecells_len hx.len]) (cells_newE V (ecells x) 54) (ecells_ones x) (by omega) (by omega) (by simp;omega)
 have hsh:=O.own_some hown' (by omega)
 obtain ⟨g',cap',rfl,-,-,-⟩:=hsh
 obtain ⟨hv1,hv2,hr2,hk2,hb2⟩:=hb.appended (by decide) hr hn₀ hB hown' hgrow
 rw[← EC_snoc] at hr2
 exact⟨g',cap',V4,hrun,hv1,hv2,hr2,hk2,hb2,fun j t u ht hj hbj=>((hbj.alloc _).kept hgrow (hbj.not_row ht hr)).other hj _⟩
theorem put1 (t:Array Value)(k:Nat)(v:Value):(#[k].zip #[v]).foldl (fun t (p,v)=>t.setIfInBounds p v) t=t.setIfInBounds k v:=by simp
def Got (n₀ B K:Nat)(pre:List WE)(W:World):Prop:=∃v,Boxed W B 47 v∧W.ownsRow n₀ 54 34 v pre.length (EC (ens pre))∧pre.length≤K
theorem own_got (n₀ B K C:Nat):OwnFrom C (Got n₀ B K) :=
 Own.from (holdsRow_own (β:=List WE) n₀ B 47 54 34 (fun pre=>pre.length) (fun pre=>EC (ens pre)) (fun pre _=>pre.length≤K)) C
theorem ownsRow_putObj {W:World}{base n D:Nat}{e:TypeId}{size:Nat}{v:Value}{xs:List Value}{o:Obj}(h:W.ownsRow base e size v n xs)(o':Obj)(hK:W.heap[D]?=some o)(ho:o.isCells=false):(W.putObj D o').ownsRow base e size v n xs:=O.own_keeps h fun g hg=>by
 refine World.putObj_heap_other ?_
 rintro rfl
 obtain ⟨cur,hc⟩:=O.own_typ h hg
 rw[hK] at hc;cases hc;cases ho
section
variable {w:World} {p:Option Addr} {L:List En}
theorem len_any (hS:Stands w p L):Calls prog 20 #[.pointer p] w fun e w'=>e=.returned (.int .i64 (L.length:Int))∧w'=w:=by
 rcases hS with ⟨rfl,rfl⟩ | ⟨Q,n,ve,nx,rfl,h,-,-⟩
 ·exact len_nil w
 ·exact len_at h
theorem entries_any (hS:Stands w p L):Calls prog 12 #[.pointer p] w fun e w'=>∃v,e=.returned v∧EOwn 54 w' w.heap.size v L∧Below w.heap.size w w':=by
 have h64:=hS.few
 have HS:Hid (Stands w p L):=hS
 obtain ⟨cur,hmk,hcs⟩:=make_en w L.length (by omega)
 have h65:(10000:Nat)≤maxLen:=by decide
 obtain ⟨w1,hw1⟩:∃w1,w1=w.alloc (.cells cur 54):=⟨_,rfl⟩
 rw[← hw1] at hmk
 have B1:Below w.heap.size w w1:=by rw[hw1];exact below_alloc w _
 have s1:w1.heap.size=w.heap.size+1:=by rw[hw1];simp
 have r1:w1.ownsRow w.heap.size 54 34 (.slice (some ⟨w.heap.size,0,none⟩) 0 L.length) 0 []:=by rw[hw1];exact World.ownsRow_made w cur L.length (Nat.le_refl _) (by omega) hcs
 obtain ⟨w2,hw2⟩:∃w2,w2=w1.alloc (.cells #[.slice (some ⟨w.heap.size,0,none⟩) 0 L.length] 47):=⟨_,rfl⟩
 have hmk2:w1.alloc (.cells #[.slice (some ⟨w.heap.size,0,none⟩) 0 L.length] 47)=w2:=hw2.symm
 have B2:Below w1.heap.size w1 w2:=by rw[hw2];exact below_alloc w1 _
 have b2:Boxed w2 (w.heap.size+1) 47 (.slice (some ⟨w.heap.size,0,none⟩) 0 L.length):=by rw[← s1,hw2];exact Boxed.new w1 _ _
 have s2:w2.heap.size=w.heap.size+2:=by rw[hw2];simp[s1]
 obtain ⟨w3,hw3⟩:∃w3,w3=w2.alloc (.cells #[.pointer p] 35):=⟨_,rfl⟩
 have B3:Below w2.heap.size w2 w3:=by rw[hw3];exact below_alloc w2 _
 have b3:Boxed w3 (w.heap.size+2) 35 (.pointer p):=by rw[← s2,hw3];exact Boxed.new w2 _ _
 have s3:w3.heap.size=w.heap.size+3:=by rw[hw3];simp[s2]
 have HBX:Hid (Boxed w3 (w.heap.size+1) 47 (.slice (some ⟨w.heap.size,0,none⟩) 0 L.length)):=(B3.block _ b2.lt).trans b2
 have HBP:Hid (Boxed w3 (w.heap.size+2) 35 (.pointer p)):=b3
 have HRW:Hid (w3.ownsRow w.heap.size 54 34 (.slice (some ⟨w.heap.size,0,none⟩) 0 L.length) 0 []):=O.own_later (O.own_later r1 B2) B3
 have HB:Hid (Below w.heap.size w w3):=below_then B1 (below_then B2 B3)
 have HSZ:Hid (w3.heap.size=w.heap.size+3):=s3
 have HALL:Hid (Calls prog 34 #[.pointer p] w2 fun e w'=>e=.returned (seqV (w.heap.size+2))∧w'=w3):=by
  have:=all_is p w2
  rw[s2,← hw3] at this
  exact this
 have HAL:Hid ((Instr.alloc 47 true (.tuple #[])).run prog w1=.ok (.pointer (some ⟨w.heap.size+1,0,none⟩)) (w1.alloc (.cells #[.slice none 0 0] 47))):=by rw[← s1];rfl
 have HST:Hid ((Instr.storeAt 47 (.pointer (some ⟨w.heap.size+1,0,none⟩)) (.slice (some ⟨w.heap.size,0,none⟩) 0 L.length)).run prog (w1.alloc (.cells #[.slice none 0 0] 47))=.ok () w2):=by
  have b:Boxed (w1.alloc (.cells #[.slice none 0 0] 47)) (w.heap.size+1) 47 (.slice none 0 0):=by rw[← s1];exact Boxed.new w1 _ _
  have c1:=b.cell
  have f1:=b.frozen
  have e2:(w1.alloc (.cells #[.slice none 0 0] 47)).setCell ⟨w.heap.size+1,0,none⟩ (.slice (some ⟨w.heap.size,0,none⟩) 0 L.length)=w2:=by
   rw[setCell_eq_setRow _ (w.heap.size+1) 0 _ 47 (0,0) _ b,hw2,← s1]
   exact setRow_alloc w1 _ _ _
  show _=_
  rw[← e2]
  go_simp
 clear hw1 hw2 hw3 B1 B2 B3 b2 b3 s1 s2 s3 r1 hS hcs hmk2
 refine (callsIn_wide (n:=9)).1 ?_
 refine callsIn_of_wp_marks func12 rfl trivial ?_ rfl
 simp only[ntmps12,List.size_toArray,List.length_cons,List.length_nil,Nat.reduceAdd,Nat.reduceSub,Array.replicate_succ,Array.replicate_zero,List.push_toArray,List.append_toArray,List.nil_append,List.cons_append]
 gi_wp2_with fail
 refine⟨trivial,(callsIn_wide.2 (len_any HS.out)).mono ?_⟩
 rintro e w' ⟨rfl,rfl⟩
 gi_wp2_with ((with_reducible refine in_ops ?_);(first | ((refine in_alloc (by rfl) 47 rfl HAL.out ?_);simp only[Act.put,zA,zB,zC]) | ((refine in_store (by rfl) 47 rfl rfl rfl HST.out ?_);simp only[Act.put])))
 refine⟨trivial,(callsIn_wide.2 HALL.out).mono ?_⟩
 rintro e w4 ⟨rfl,rfl⟩
 clear hmk HAL HST HALL
 gi_wp2
 refine range_in (F:=Fence.wide) (n:=9) (P:=prog) rfl (by decide) (gf:=82) (lb:=#[.pointer (some ⟨w'.heap.size+2,0,none⟩)]) rfl trivial (enters_of func82 (by kernel_rfl) rfl)
  (all1_seq Fence.wide (9-1) trivial rfl (by decide) (w'.heap.size+2) w'.heap.size p L w4 w' HB.out.size HB.out rfl HBP.out HS.out) belowK_t (fun W l o o' hl h hc=>(Below.refl _ W).grown (grownBy_putObj' W l o') (by have:=HSZ.out;have:=(Array.getElem?_eq_some_iff.1 h).1;omega) (fun k e=>by cases e;have:=HSZ.out;omega)) (Below.refl _ _) (fun _=>rfl)
  (fun pre W=>Got w'.heap.size (w'.heap.size+1) 64 pre W∧Below w'.heap.size w' W) (fun _ _ _=>False) ?hI (fun _ _ _ _ _ h=>h.elim) ⟨⟨_,HBX.out,HRW.out,Nat.zero_le _⟩,HB.out⟩
  (fun x a' W=>∃Bx,LAt 54 W Bx (ecells x.1)∧a'={ tmps:=#[.pointer p,undef,.slice none 0 0,.pointer (some ⟨w'.heap.size+1,0,none⟩),.pointer (some ⟨Bx,0,none⟩),.pointer p,.int .i64 L.length,.slice (some ⟨w'.heap.size,0,none⟩) 0 L.length,.pointer p,seqV (w'.heap.size+2),.agg (ecells x.1).toArray,undef,undef,undef,undef,undef],defers:=[] })
  ?hAx ?assign ?body ?done ?stop
 case hI=>exact OwnFrom.and (own_got _ _ _ _) (ownFrom_below (Nat.le_refl _) HB.out.size)
 case hAx =>
  rintro x a' _ V V' row ⟨Bx,h1,h2⟩ hg hr
  exact⟨Bx,(grownBy_keeps_cells hg (fun r e=>(hr r e).2) h1 rfl).trans h1,h2⟩
 case assign =>
  rintro l1 pre x V K ⟨⟨v,h1,h2,h2'⟩,h6⟩ hK
  have A4:Hid ((Instr.alloc 54 true (.tuple #[])).run prog V=.ok (.pointer (some ⟨V.heap.size,0,none⟩)) (V.alloc (.cells (ecells en0).toArray 54))):=allocE etC V
  have T4:Hid ((Instr.storeAt 54 (.pointer (some ⟨V.heap.size,0,none⟩)) (.agg (ecells x.1).toArray)).run prog (V.alloc (.cells (ecells en0).toArray 54))=.ok () (V.alloc (.cells (ecells x.1).toArray 54))):=store_newE etC V x.1 x.2.len
  have hb:=below_alloc V (.cells (ecells x.1).toArray 54)
  have Y:=hK _ _ (keeps_of_below hb w4.heap.size) (hb.mono h6.size) ⟨⟨v,h1.alloc _,h2.alloc _,h2'⟩,h6.trans (hb.mono h6.size)⟩ ⟨V.heap.size,LAt.new 54 V (ecells x.1),rfl⟩
  have HY:Hid (K _ _):=Y
  clear hK h1 h2 h6 hb Y
  rw[put1]
  simp only[zA,zB,zC]
  gi_wp2_with ((with_reducible refine in_ops ?_);(first | ((refine in_alloc (by rfl) 54 rfl A4.out ?_);simp only[Act.put,zA,zB,zC]) | ((refine in_store (by rfl) 54 rfl rfl rfl T4.out ?_);simp only[Act.put])))
  exact HY.out
 case body =>
  rintro l1 pre x a' V ⟨⟨v,h1,h2,h2'⟩,h6⟩ ⟨Bx,hx,rfl⟩ hlt
  obtain ⟨q,cap,rfl⟩:=O.own_shape h2
  have c4:=h1.cell
  have HLd:Hid ((Instr.loadAt 54 (.pointer (some ⟨Bx,0,none⟩))).run prog V=.ok (.agg (ecells x.1).toArray) V):=LAt.loadE etC hx x.2.len
  have HBS:Hid ((Instr.buildSlice 47 1 #[(0,.agg (ecells x.1).toArray)]).run prog V=.ok (.slice (some ⟨V.heap.size,0,none⟩) 1 1) (V.alloc (.cells (ecells x.1).toArray 54))):=build_en etC V x.1 x.2.len
  obtain ⟨g',cap',V4,hrun,hv1,hv2⟩:=got_step h1 h2 x.2 h6.size (by omega) (by omega)
  have HRUN:Hid ((Builtin.append_ #[47,47] 47 #[.slice q pre.length cap,.slice (some ⟨V.heap.size,0,none⟩) 1 1]).run prog (V.alloc (.cells (ecells x.1).toArray 54))=.ok (.slice (some ⟨g',0,none⟩) (pre.length+1) cap') V4):=hrun
  have k1:=hv1.cell
  have k2:=hv1.frozen
  have HFIN:Hid (KeepsFrom w4.heap.size V (V4.setCell ⟨w'.heap.size+1,0,none⟩ (.slice (some ⟨g',0,none⟩) (pre.length+1) cap'))∧Below w'.heap.size V (V4.setCell ⟨w'.heap.size+1,0,none⟩ (.slice (some ⟨g',0,none⟩) (pre.length+1) cap'))∧(Got w'.heap.size (w'.heap.size+1) 64 (pre++[x]) (V4.setCell ⟨w'.heap.size+1,0,none⟩ (.slice (some ⟨g',0,none⟩) (pre.length+1) cap'))∧Below w'.heap.size w' (V4.setCell ⟨w'.heap.size+1,0,none⟩ (.slice (some ⟨g',0,none⟩) (pre.length+1) cap')))):=by
   refine⟨hv2.2.2.1.from _,hv2.2.2.2.1,⟨_,hv2.1,?_,?_⟩,h6.trans hv2.2.2.2.1⟩
   ·rw[ens_snoc,show (pre++[x]).length=pre.length+1 by simp];exact hv2.2.1
   ·simp;omega
  clear hrun hv1 hv2 h1 h2 h6 hx
  gi_wp2_with ((with_reducible refine in_ops ?_);(first | (refine in_load (by rfl) 54 rfl rfl HLd.out ?_) | (refine in_slice (u:=.agg (ecells x.1).toArray) (by rfl) 47 rfl rfl HBS.out ?_) | (refine in_append (u1:=.slice q pre.length cap) (u2:=.slice (some ⟨V.heap.size,0,none⟩) 1 1) (by rfl) rfl rfl rfl rfl HRUN.out ?_));simp only[Act.put,zA,zB,zC])
  exact HFIN.out
 case done =>
  rintro D ys W hD hSt ⟨⟨v,h1,h2,h2'⟩,h6⟩ hK
  obtain ⟨q,cap,rfl⟩:=O.own_shape h2
  have hb:=h1.cell
  have HZ:Hid (EOwn 54 (W.putObj D (.deferred none)) w'.heap.size (.slice q ys.length cap) L∧Below w'.heap.size w' (W.putObj D (.deferred none))):=by
   have e1:ens ys=L:=hSt
   have e2:ys.length=L.length:=by rw[← e1,List.length_map]
   refine⟨?_,h6.trans (belowK_b (w:=w') (Nat.le_refl _) _ D _ _ (by have:=HSZ.out;omega) hK rfl rfl)⟩
   have:=ownsRow_putObj h2 (.deferred none) hK rfl
   show World.ownsRow _ _ _ _ _ _ _
   rw[e1,e2] at this
   rw[e2]
   exact this
  clear h1 h2 h6 hSt
  gi_wp2
  refine⟨by simp,.inl ⟨_,_,rfl,run_takeDeferred hK,?_⟩⟩
  exact⟨_,by simp[results,results12,go_sem],_,rfl,HZ.out⟩
 case stop =>
  rintro D c pre W hD hpre h hK
  exact h.elim
end
end Go.Proofs.YtcdjepkhdjpjcaaGreatDoor.C
namespace Go.Proofs.YtcdjepkhdjpjcaaGreatDoor.C
open Go.RowKit
theorem own_mono {w:World}{base base':Nat}{e:TypeId}{size:Nat}{v:Value}{n:Nat}{xs:List Value}(h:w.ownsRow base e size v n xs)(hb:base'≤base):w.ownsRow base' e size v n xs:=by
 refine⟨h.1,?_⟩
 rcases h.2 with h | ⟨g,cap,cur,e1,h1,r⟩
 ·exact .inl h
 ·exact .inr ⟨g,cap,cur,e1,Nat.le_trans hb h1,r⟩
open Go.Proofs.Tryz
section
variable {P:Program} {ops:Array Oper} {S:World→Prop} {o:Oper} {a:Act}
theorem yields_build_is (hgd:Region.wanted o (yielded ops a.tmps)=true)(ty:TypeId){ps:Array (Nat × Operand)}(ho:o.op=.build ty ps){vs:List (Nat × Value)}{v:Value}(hx:ps.toList.map (fun (i,x)=>(i,a.eval x))=vs)(hrun:∀w,(Instr.build ty vs.toArray).run P w=.ok v w):YieldsIf P ops S o v a :=
 .inl ⟨hgd,fun w _=>by unfold execOp;simp only[ho];rw[show ps.map (fun (i,x)=>(i,a.eval x))=vs.toArray by rw[← hx,← Array.toList_map]];simp only[Sem.run_bind,hrun,Result.andThen_ok,Sem.run_pure]⟩
theorem step_slice_is {w w':World}{K:Act→World→Prop}{Q:Exit→Act→World→Prop}{E:Prop}(hw:Region.wanted o (yielded ops a.tmps)=true)(ty n:Nat){ps:Array (Nat × Operand)}(ho:o.op=.buildSlice ty n ps){vs:List (Nat × Value)}{v:Value}(hx:ps.toList.map (fun (i,x)=>(i,a.eval x))=vs)(hrun:(Instr.buildSlice ty n vs.toArray).run P w=.ok v w')(hK:K (a.put o.dst v) w') :
  if Region.wanted o (yielded ops a.tmps)=true then Oper.wp P o a w K Q else E:=by
 rw[if_pos hw]
 have hr:(execOp a.eval o).run P w=.ok (.value v) w':=by unfold execOp;simp only[ho];rw[show ps.map (fun (i,x)=>(i,a.eval x))=vs.toArray by rw[← hx,← Array.toList_map]];simp only[Sem.run_bind,hrun,Result.andThen_ok,Sem.run_pure]
 unfold Oper.wp
 rw[hr]
 exact hK
end
section
variable {P:Program} {ops:Array Oper} {o:Oper} {a:Act}
theorem step_append_is {w w':World}{K:Act→World→Prop}{Q:Exit→Act→World→Prop}{E:Prop}(hw:Region.wanted o (yielded ops a.tmps)=true){s x:Operand}{t ty:TypeId}(ho:o.op=.call { callee:=.builtin .append,args:=#[s,x],argTypes:=#[t,t] })(hty:o.type=ty){u1 u2 v:Value}(hs:a.eval s=u1)(hx:a.eval x=u2)(hrun:(Builtin.append_ #[t,t] ty #[u1,u2]).run P w=.ok v w')(hK:K (a.put o.dst v) w') :
  if Region.wanted o (yielded ops a.tmps)=true then Oper.wp P o a w K Q else E:=by
 rw[if_pos hw]
 have hr:(execOp a.eval o).run P w=.ok (.value v) w':=by subst hty;simp[execOp,ho,resolve,invoke,builtin,hs,hx,hrun,Result.andThen]
 unfold Oper.wp
 rw[hr]
 exact hK
end
theorem app_big {ts te:TypeId}(T:ET ts te){W:World}{B:Nat}{v:Value}{l0 l:List En}{q:Option Addr}{m c:Nat}(h0:EOwn te W B v l0)(hw0:EnsWf l0)(h:EIn W q m l)(hp:0<m)(hm:(l0.length+m)*48≤140737488355328)(hB:B≤W.heap.size):∃q' c' W',(Builtin.append_ #[ts,ts] ts #[v,.slice q m c]).run prog W=.ok (.slice q' (l0.length+m) c') W'∧EOwn te W' B (.slice q' (l0.length+m) c') (l0++l)∧W.grownBy W' v.ownBlock∧((Value.slice q' (l0.length+m) c').ownBlock=v.ownBlock∨(Value.slice q' (l0.length+m) c').ownBlock=some W.heap.size):=by
 obtain ⟨i0,hi0,hz0,hz1,hz2⟩:=info_parts T.inf
 have h65:(140737488355328:Nat)≤maxLen:=by decide
 have hwf:EnsWf (l0++l):=fun x hx=>(List.mem_append.1 hx).elim (hw0 x) (h.wf x)
 obtain ⟨b,o,e,hr⟩:=h.cells hp
 subst e
 obtain ⟨v',W',hrun,hown',hgrow,-,hat⟩:=run_append_own_at (P:=prog) W B ts ts te i0 _ 34 48 T.ut hi0 hz0 hz1 hz2 rfl (by decide) v l0.length (EC l0) h0 ⟨b,o,none⟩ m c (EC l) (by rw[EC_len h.wf,h.len]) (fun j u hu=>by rw[Addr.add_mid];exact hr j u hu) (EC_ones l) (by omega) hm hB
 have hown2:EOwn te W' B v' (l0++l):=by
  rw[EOwn,List.length_append,h.len,EC_append];exact hown'
 have el:(l0++l).length=l0.length+m:=by rw[List.length_append,h.len]
 obtain ⟨q',c',rfl,-,-,-⟩:=EOwn.in hown2 hwf
 rw[el] at hrun hown2 hat
 exact⟨q',c',W',hrun,hown2,hgrow,hat⟩
theorem one_ein {W:World}{g:Nat}{x:En}{te:TypeId}(h:LAt te W g (ecells x))(hx:x.Wf):EIn W (some ⟨g,0,none⟩) 1 [x]:=⟨rfl,fun y hy=>by rw[List.mem_singleton.1 hy];exact hx,fun _=>⟨g,0,rfl,fun j u hj=>by rw[Nat.zero_add,LAt.cell h];simpa [EC] using hj⟩⟩
theorem EIn.len_lt {w:World}{p:Option Addr}{m k:Nat}{l:List En}(h:EIn w p m l)(hk:k<m):∃x,l[k]?=some x∧x.Wf:=⟨_,List.getElem?_eq_getElem (by rw[h.len];exact hk),h.wf _ (List.getElem_mem (by rw[h.len];exact hk))⟩
structure RAt (w:World) (R:Nat) (n:Int) (v:Value) (L:List En) (s:Bool) (p:Int):Prop where
 st:w.heap[R]?=some (.cells #[.int .i64 n,v,.bool s,.int .u64 p] 219 (0,0))
 row:EOwn 241 w 0 v L
def nxR (s:Bool)(p:Int):Int:=if s=true then p+1 else 0
section
variable {w w':World} {R:Nat} {n p:Int} {v:Value} {L:List En} {s:Bool}
theorem RAt.lt (h:RAt w R n v L s p):R<w.heap.size:=(Array.getElem?_eq_some_iff.1 h.st).1
theorem RAt.c0 (h:RAt w R n v L s p):w.cell? ⟨R,0,none⟩=some (.int .i64 n):=by rw[cell_of_row _ R 0 _ 219 (0,0) h.st];rfl
theorem RAt.c1 (h:RAt w R n v L s p):w.cell? ⟨R,1,none⟩=some v:=by rw[cell_of_row _ R 1 _ 219 (0,0) h.st];rfl
theorem RAt.c2 (h:RAt w R n v L s p):w.cell? ⟨R,2,none⟩=some (.bool s):=by rw[cell_of_row _ R 2 _ 219 (0,0) h.st];rfl
theorem RAt.c3 (h:RAt w R n v L s p):w.cell? ⟨R,3,none⟩=some (.int .u64 p):=by rw[cell_of_row _ R 3 _ 219 (0,0) h.st];rfl
theorem RAt.free (h:RAt w R n v L s p)(o:Nat):w.frozen? ⟨R,o,none⟩=false:=by simp[World.frozen?,h.st]
theorem RAt.later (h:RAt w R n v L s p)(hb:Below w.heap.size w w'):RAt w' R n v L s p:=⟨(hb.block R h.lt).trans h.st,O.own_later h.row hb⟩
theorem RAt.far {S:Nat→Prop}(h:RAt w R n v L s p)(hk:Kept S w w')(hR:¬S R)(hi:∀g,v.ownBlock=some g→¬S g):RAt w' R n v L s p:=⟨(hk.block R h.lt hR).trans h.st,O.own_far h.row hk hi⟩
theorem RAt.ne (h:RAt w R n v L s p):v.ownBlock≠some R:=O.own_not h.row h.st (by decide)
theorem RAt.ein (h:RAt w R n v L s p)(hw:EnsWf L):∃q c,v=.slice q L.length c∧EIn w q L.length L∧L.length≤c:=by
 obtain ⟨q,c,e,hm,hc,_⟩:=EOwn.in h.row hw
 exact⟨q,c,e,hm,hc⟩
theorem rnew_at {n:Int}(h1:1≤n)(h2:n≤64)(w:World):Calls prog 62 #[.int .i64 n] w fun e w'=>e=.returned (.tuple #[.pointer (some ⟨w.heap.size,0,none⟩),.int .i64 0])∧RAt w' w.heap.size n (.slice none 0 0) [] false 0∧Below w.heap.size w w':=by
 go_enter func62,ntmps62
 go_wp2
 go_ret2
 exact⟨rfl,⟨heap_alloc_new w _,World.ownsRow_nil _ _ _ _⟩,below_alloc w _⟩
theorem any_no {n:Int}{l:List Im}{m:Nat}(hm:l.length=m)(h:∀j y,j<m→l[j]?=some y→outI n y=false):l.any (outI n)=false:=by
 rw[List.any_eq_false]
 intro x hx
 obtain ⟨j,hj⟩:=List.getElem?_of_mem hx
 have:=h j x (by rw[← hm];exact (List.getElem?_eq_some_iff.1 hj).1) hj
 simp[this]
theorem any_yes {n:Int}{l:List Im}{x:Im}{k:Nat}(hx:l[k]?=some x)(h:outI n x=true):l.any (outI n)=true:=List.any_eq_true.2 ⟨x,List.mem_of_getElem? hx,h⟩
theorem rmay_at (h:RAt w R n v L s p)(hp:0≤p∧p≤4611686018427387904){q:Option Addr}{m c:Nat}{l:List Im}(hM:MIn w q m l)(hm:m≤140737488355328){ps:Int}(hps:0≤ps∧ps<18446744073709551616):Calls prog 186 #[.pointer (some ⟨R,0,none⟩),.slice q m c,.int .u64 ps] w fun e w'=>e=.returned (.int .i64 (putE n (nxR s p) l ps))∧Below w.heap.size w w':=by
 have HM:Hid (MIn w q m l):=hM
 have HL:Hid (l.length=m):=hM.len
 have HC:Hid (∀W,Below w.heap.size w W→W.cell? ⟨R,0,none⟩=some (.int .i64 n)∧W.cell? ⟨R,2,none⟩=some (.bool s)∧W.cell? ⟨R,3,none⟩=some (.int .u64 p)):=fun W hW=>⟨(h.later hW).c0,(h.later hW).c2,(h.later hW).c3⟩
 have hp0:=hp.1;have hp1:=hp.2;have hps0:=hps.1;have hps1:=hps.2
 clear h hM hp hps
 go_enter func186,ntmps186
 go_wp2_with fail
 go_loopw [7] (fun v W=>∃k:Nat,v=.int .i64 (k:Int)∧k≤m∧Hid (Below w.heap.size w W)∧Hid (∀j y,j<k→l[j]?=some y→outI n y=false)) (fun v _=>m-(intOf v).toNat)
 case atStart=>exact⟨0,rfl,by omega,Below.refl _ _,(fun j y hj=>absurd hj (Nat.not_lt_zero _):∀j y,j<0→l[j]?=some y→outI n y=false)⟩
 case round =>
  obtain ⟨k,rfl,hk,HB,HI⟩:=hrel
  by_cases hlt:k<m
  ·obtain ⟨x,hx⟩:∃x,l[k]?=some x:=⟨_,List.getElem?_eq_getElem (by rw[HL.out];omega)⟩
   obtain ⟨b1,o1,rfl,-⟩:=HM.out.cells (by omega)
   have z0:∀t,(wr.drewN t).cell? ⟨b1,o1+k*33,none⟩=some (.int .i64 x.b):=fun t=>(HM.out.later HB.out).c0 hx
   have y0:∀t,(wr.drewN t).cell? ⟨R,0,none⟩=some (.int .i64 n):=fun t=>(HC.out wr HB.out).1
   have HB2:Hid (∀t,Below w.heap.size w (wr.drewN t)):=fun t=>below_then HB.out (below_drawn _)
   have i1:(k:Int)<(m:Int):=by omega
   have HX:Hid (l[k]?=some x):=hx
   clear hx
   by_cases h1:x.b<0
   ·have d1:decide (x.b<0)=true:=decide_eq_true h1
    have HE:Hid (putE n (nxR s p) l ps=51):=putE_block (any_yes HX.out (by simp[outI,h1]))
    clear h1
    go_wp2_with fail
    go_quiet (fail)
    go_wp2
    go_ret
    exact⟨by rw[HE.out];rfl,HB2.out _⟩
   ·have d1:decide (x.b<0)=false:=decide_eq_false h1
    by_cases h2:n≤x.b
    ·have d2:decide (n≤x.b)=true:=decide_eq_true h2
     have HE:Hid (putE n (nxR s p) l ps=51):=putE_block (any_yes HX.out (by simp[outI,h2]))
     clear h1 h2
     go_wp2_with fail
     go_quiet (fail)
     go_wp2
     go_ret
     exact⟨by rw[HE.out];rfl,HB2.out _⟩
    ·have d2:decide (n≤x.b)=false:=decide_eq_false h2
     have HI2:Hid (∀j y,j<k+1→l[j]?=some y→outI n y=false):=fun j y hj hy=>by
      by_cases e:j=k
      ·subst e;have:=HX.out;rw[hy] at this;cases this;simp[outI,h1,h2]
      ·exact HI.out j y (by omega) hy
     clear h1 h2
     go_wp2_with fail
     go_quiet (fail)
     go_wp2_with fail
     go_roundw
     case rel=>exact⟨k+1,by congr 1,by omega,HB2.out _,HI2⟩
     case measure=>simp[intOf];omega
  ·have HO:Hid (l.any (outI n)=false):=any_no HL.out fun j y hj=>HI.out j y (by omega)
   have HBo:Hid (Below w.heap.size w wr):=HB
   clear HI HB hk
   go_wp2_with fail
   clear hlt
   go_loopw [8] (fun v W=>∃k:Nat,v=.int .i64 ((k:Int)+1)∧k≤m∧Hid (Below w.heap.size w W)∧Hid (∀j x y,j<k→l[j]?=some x→l[j+1]?=some y→x.b<y.b)) (fun v _=>m+2-(intOf v).toNat)
   case atStart=>exact⟨0,rfl,by omega,HBo,(fun j x y hj=>absurd hj (Nat.not_lt_zero _):∀j x y,j<0→l[j]?=some x→l[j+1]?=some y→x.b<y.b)⟩
   case round =>
    obtain ⟨k,rfl,hk,HB,HI⟩:=hrel
    by_cases hlt:(k:Int)+1<(m:Int)
    ·obtain ⟨x,hx⟩:∃x,l[k]?=some x:=⟨_,List.getElem?_eq_getElem (by rw[HL.out];omega)⟩
     obtain ⟨y,hy⟩:∃y,l[k+1]?=some y:=⟨_,List.getElem?_eq_getElem (by rw[HL.out];omega)⟩
     obtain ⟨b1,o1,rfl,-⟩:=HM.out.cells (by omega)
     have x0d:∀t,(wr.drewN t).cell? ⟨b1,o1+k*33,none⟩=some (.int .i64 x.b):=fun t=>(HM.out.later HB.out).c0 hx
     have y0d:∀t,(wr.drewN t).cell? ⟨b1,o1+(k+1)*33,none⟩=some (.int .i64 y.b):=fun t=>(HM.out.later HB.out).c0 hy
     have i0:(0:Int)≤(k:Int)+1:=by omega
     have i1:(k:Int)<(m:Int):=by omega
     have htn:((k:Int)+1).toNat=k+1:=by omega
     have HX:Hid (l[k]?=some x∧l[k+1]?=some y):=⟨hx,hy⟩
     have HB2:Hid (∀t,Below w.heap.size w (wr.drewN t)):=fun t=>below_then HB.out (below_drawn _)
     clear hx hy
     by_cases hle:y.b≤x.b
     ·have hd:decide (y.b≤x.b)=true:=decide_eq_true hle
      have HE:Hid (putE n (nxR s p) l ps=53):=putE_form HO.out (upI_no HX.out.1 HX.out.2 hle)
      clear hle
      go_wp2_with fail
      go_quiet (fail)
      go_wp2
      go_ret
      exact⟨by rw[HE.out];rfl,HB2.out _⟩
     ·have hd:decide (y.b≤x.b)=false:=decide_eq_false hle
      have HI2:Hid (∀j x y,j<k+1→l[j]?=some x→l[j+1]?=some y→x.b<y.b):=fun j x' y' hj hx' hy'=>by
       by_cases e:j=k
       ·subst e
        have a:=HX.out.1;have b:=HX.out.2
        rw[hx'] at a;rw[hy'] at b
        cases a;cases b
        omega
       ·exact HI.out j x' y' (by omega) hx' hy'
      clear hle
      go_wp2_with fail
      go_quiet (fail)
      go_wp2_with fail
      go_roundw
      case rel=>exact⟨k+1,by congr 1,by omega,HB2.out _,HI2⟩
      case measure=>simp[intOf];omega
    ·have HU:Hid (upI l=true):=upI_yes fun j x y hx hy=>HI.out j x y (by have:=(List.getElem?_eq_some_iff.1 hy).1;have:=HL.out;omega) hx hy
     have k2:=(HC.out wr HB.out).2.1
     have k3:=(HC.out wr HB.out).2.2
     clear HI
     by_cases h3:4611686018427387904<ps
     ·have HE:Hid (putE n (nxR s p) l ps=30):=putE_ring HO.out HU.out (.inr h3)
      have d3:decide (4611686018427387904<ps)=true:=decide_eq_true h3
      go_wp2
      go_ret
      exact⟨by rw[HE.out];rfl,HB.out⟩
     ·have d3:decide (4611686018427387904<ps)=false:=decide_eq_false h3
      cases s with
      | false =>
       have HE:Hid (putE n (nxR false p) l ps=0):=putE_ok HO.out HU.out (by simp[nxR];omega)
       go_wp2
       go_ret
       exact⟨by rw[HE.out];rfl,HB.out⟩
      | true =>
       by_cases h4:ps≤p
       ·have HE:Hid (putE n (nxR true p) l ps=30):=putE_ring HO.out HU.out (.inl (by simp[nxR];omega))
        go_wp2
        go_ret
        exact⟨by rw[HE.out];rfl,HB.out⟩
       ·have HE:Hid (putE n (nxR true p) l ps=0):=putE_ok HO.out HU.out (by simp[nxR];omega)
        go_wp2
        go_ret
        exact⟨by rw[HE.out];rfl,HB.out⟩
end
end Go.Proofs.YtcdjepkhdjpjcaaGreatDoor.C
