import Derived.Test.YtcdjepkhdjpjcaaGreatDoorV25
set_option maxHeartbeats 20000000
set_option maxRecDepth 100000
namespace Go.Proofs.YtcdjepkhdjpjcaaGreatDoor.C
open Go.Proofs.Tryz
open Go.RowKit
section
variable {w w':World} {Q:Nat} {n nx:Int} {ve:Value} {L:List En}
theorem MIn.far {S:Nat→Prop}{p:Option Addr}{m:Nat}{l:List Im}(h:MIn w p m l)(hk:Kept S w w')(hs:∀a,p=some a→0<m→¬S a.block):MIn w' p m l:=by
 refine⟨h.len,h.wf,fun h0=>?_⟩
 obtain ⟨b,o,e,hr⟩:=h.cells h0
 exact⟨b,o,e,range_block hr (hk.block b (range_lt hr (by rw[IC_len h.wf,h.len];omega)) (hs _ e h0))⟩
theorem lacks_at (h:CAt w Q n ve L nx)(i:Im)(hi:i.Wf)(_hn:i64 n):Calls prog 74 #[.pointer (some ⟨Q,0,none⟩),.agg (icells i).toArray] w fun e w'=>e=.returned (.bool (outI n i))∧Below w.heap.size w w':=by
 obtain ⟨w1,hw1⟩:∃w1,w1=w.alloc (.cells (icells i).toArray 84):=⟨_,rfl⟩
 have B1:Below w.heap.size w w1:=by rw[hw1];exact below_alloc w _
 have HB1:Hid (Below w.heap.size w w1):=B1
 have k0:w1.cell? ⟨w.heap.size,0,none⟩=some (.int .i64 i.b):=by rw[hw1];exact LAt.cell (LAt.new 84 w (icells i)) 0
 have c0:w1.cell? ⟨Q,0,none⟩=some (.int .i64 n):=(h.later B1).c0
 have k0d:w1.drew.cell? ⟨w.heap.size,0,none⟩=some (.int .i64 i.b):=k0
 have c0d:w1.drew.cell? ⟨Q,0,none⟩=some (.int .i64 n):=c0
 have hw1':=hw1.symm
 have HO:Hid (∀r:Bool,(i.b<0→r=true)→(¬i.b<0→r=decide (n≤i.b))→outI n i=r):=fun r h1 h2=>by
  unfold outI
  by_cases c:i.b<0
  ·rw[h1 c];simp[c]
  ·rw[h2 c];simp[c]
 have hb:=hi.b
 obtain ⟨ib,iv⟩:=i
 clear h hi hw1 B1
 go_enter func74,ntmps74
 by_cases hc:ib<0
 ·have hd:decide (ib<0)=true:=decide_eq_true hc
  have HR:Hid (outI n ⟨ib,iv⟩=true):=HO.out true (fun _=>rfl) (fun h=>absurd hc h)
  go_wp2_with ((with_reducible refine at_ops ?_);(refine wpList_box_is (by rfl) 84 rfl _ rfl hw1' ?_);simp only[Act.put,zA,zB,zC])
  go_quiet (fail)
  go_wp2
  go_ret
  exact⟨by rw[HR.out];rfl,below_then HB1.out (below_drawn _)⟩
 ·have hd:decide (ib<0)=false:=decide_eq_false hc
  have HR:Hid (outI n ⟨ib,iv⟩=decide (n≤ib)):=HO.out _ (fun h=>absurd h hc) (fun _=>rfl)
  go_wp2_with ((with_reducible refine at_ops ?_);(refine wpList_box_is (by rfl) 84 rfl _ rfl hw1' ?_);simp only[Act.put,zA,zB,zC])
  go_quiet (fail)
  go_wp2
  go_ret
  exact⟨by rw[HR.out];rfl,below_then HB1.out (below_drawn _)⟩
abbrev lackV (Q:Nat):Value:=.func (.func 74) #[.pointer (some ⟨Q,0,none⟩)] #[]
theorem index_at (h:CAt w Q n ve L nx)(hn:i64 n){p:Option Addr}{m c:Nat}{l:List Im}(hM:MIn w p m l)(hm:m≤140737488355328):Calls prog 134 #[.slice p m c,lackV Q] w fun e w'=>∃r:Int,e=.returned (.int .i64 r)∧decide (0≤r)=l.any (outI n)∧Below w.heap.size w w':=by
 have HA:Hid (CAt w Q n ve L nx):=h
 have HM:Hid (MIn w p m l):=hM
 have HL:Hid (l.length=m):=hM.len
 clear h hM
 go_enter func134,ntmps134
 go_wp2_with fail
 go_loopw [8] (fun v W=>∃k:Nat,v=.int .i64 (k:Int)∧k≤m∧Hid (Below w.heap.size w W)∧Hid (∀j x,j<k→l[j]?=some x→outI n x=false)) (fun v _=>m-(intOf v).toNat)
 case atStart=>exact⟨0,rfl,by omega,Below.refl _ _,(fun j x hj=>absurd hj (Nat.not_lt_zero _):∀j x,j<0→l[j]?=some x→outI n x=false)⟩
 case round =>
  obtain ⟨k,rfl,hk,HB,HI⟩:=hrel
  by_cases hlt:k<m
  ·obtain ⟨x,hx⟩:∃x,l[k]?=some x:=⟨_,List.getElem?_eq_getElem (by rw[HL.out];omega)⟩
   obtain ⟨b1,o1,rfl,-⟩:=HM.out.cells (by omega)
   have HLd:Hid ((Instr.loadAt 84 (.pointer (some ⟨b1,o1+k*33,none⟩))).run prog wr=.ok (.agg (icells x).toArray) wr):=(HM.out.later HB.out).load hx
   have HX:Hid (l[k]?=some x):=hx
   have i1:(k:Int)<(m:Int):=by omega
   clear hx
   go_wp2_with (first | ((with_reducible refine at_ops ?_);(refine wpList_load_is (by rfl) 84 rfl rfl HLd.out ?_);simp only[Act.put,zA,zB,zC]))
   refine (lacks_at (HA.out.later HB.out) x (HM.out.wf x (List.mem_of_getElem? HX.out)) hn).mono ?_
   rintro e w2 ⟨rfl,bn⟩
   have HB2:Hid (Below w.heap.size w w2):=below_then HB.out bn
   cases hz:outI n x with
   | true =>
    have HZ:Hid (outI n x=true):=hz
    clear hz HLd
    go_wp2_with fail
    go_ret
    refine⟨_,rfl,?_,HB2.out⟩
    rw[decide_eq_true (by omega),eq_comm,List.any_eq_true]
    exact⟨x,List.mem_of_getElem? HX.out,HZ.out⟩
   | false =>
    have HI2:Hid (∀j y,j<k+1→l[j]?=some y→outI n y=false):=fun j y hj hy=>by
     by_cases e:j=k
     ·subst e;have:=HX.out;rw[hy] at this;cases this;exact hz
     ·exact HI.out j y (by omega) hy
    clear hz HLd
    go_wp2_with fail
    go_roundw
    case rel=>exact⟨k+1,by congr 1,by omega,HB2,HI2⟩
    case measure=>simp[intOf];omega
  ·go_wp2_with fail
   go_ret
   refine⟨_,rfl,?_,HB.out⟩
   rw[decide_eq_false (by omega),eq_comm,List.any_eq_false]
   intro x hx
   obtain ⟨j,hj,e⟩:=List.getElem_of_mem hx
   have:=HI.out j x (by rw[HL.out] at hj;omega) (by rw[List.getElem?_eq_getElem hj,e])
   rw[this];decide
theorem contains_at (h:CAt w Q n ve L nx)(hn:i64 n){p:Option Addr}{m c:Nat}{l:List Im}(hM:MIn w p m l)(hm:m≤140737488355328):Calls prog 73 #[.slice p m c,lackV Q] w fun e w'=>e=.returned (.bool (l.any (outI n)))∧Below w.heap.size w w':=by
 have HC:Hid (Calls prog 134 #[.slice p m c,lackV Q] w fun e w'=>∃r:Int,e=.returned (.int .i64 r)∧decide (0≤r)=l.any (outI n)∧Below w.heap.size w w'):=index_at h hn hM hm
 clear h hM
 generalize l.any (outI n)=q at *
 go_enter func73,ntmps73
 go_wp2_with fail
 refine HC.out.mono ?_
 rintro e w1 ⟨r,rfl,hr,hb⟩
 have HR:Hid (decide (0≤r)=q):=hr
 have HB:Hid (Below w.heap.size w w1):=hb
 clear hr hb
 go_wp2
 go_ret
 exact⟨by rw[← HR.out];rfl,HB.out⟩
theorem upI_no {l:List Im}{k:Nat}{x y:Im}(hx:l[k]?=some x)(hy:l[k+1]?=some y)(h:y.b≤x.b):upI l=false:=by
 have hk:=(List.getElem?_eq_some_iff.1 hy).1
 refine decide_eq_false fun h2=>?_
 have:=h2 k (by omega)
 simp[List.getD,hx,hy] at this
 omega
theorem upI_yes {l:List Im}(h:∀k x y,l[k]?=some x→l[k+1]?=some y→x.b<y.b):upI l=true:=by
 refine decide_eq_true fun k hk=>?_
 have e1:=List.getElem?_eq_getElem (show k<l.length by omega)
 have e2:=List.getElem?_eq_getElem (show k+1<l.length by omega)
 have:=h k _ _ e1 e2
 simpa [List.getD,e1,e2] using this
theorem rise_at {p:Option Addr}{m c:Nat}{l:List Im}(hM:MIn w p m l)(hm:m≤140737488355328):Calls prog 75 #[.slice p m c] w fun e w'=>e=.returned (.bool (upI l))∧Below w.heap.size w w':=by
 have HM:Hid (MIn w p m l):=hM
 have HL:Hid (l.length=m):=hM.len
 clear hM
 go_enter func75,ntmps75
 go_wp2_with fail
 go_loopw [3] (fun v W=>∃k:Nat,v=.int .i64 ((k:Int)+1)∧k≤m∧Hid (Below w.heap.size w W)∧Hid (∀j x y,j<k→l[j]?=some x→l[j+1]?=some y→x.b<y.b)) (fun v _=>m+2-(intOf v).toNat)
 case atStart=>exact⟨0,rfl,by omega,Below.refl _ _,(fun j x y hj=>absurd hj (Nat.not_lt_zero _):∀j x y,j<0→l[j]?=some x→l[j+1]?=some y→x.b<y.b)⟩
 case round =>
  obtain ⟨k,rfl,hk,HB,HI⟩:=hrel
  by_cases hlt:(k:Int)+1<(m:Int)
  ·obtain ⟨x,hx⟩:∃x,l[k]?=some x:=⟨_,List.getElem?_eq_getElem (by rw[HL.out];omega)⟩
   obtain ⟨y,hy⟩:∃y,l[k+1]?=some y:=⟨_,List.getElem?_eq_getElem (by rw[HL.out];omega)⟩
   obtain ⟨b1,o1,rfl,-⟩:=HM.out.cells (by omega)
   have x0:=(HM.out.later HB.out).c0 hx
   have y0:=(HM.out.later HB.out).c0 hy
   have x0d:wr.drew.cell? ⟨b1,o1+k*33,none⟩=some (.int .i64 x.b):=x0
   have y0d:wr.drew.cell? ⟨b1,o1+(k+1)*33,none⟩=some (.int .i64 y.b):=y0
   have i0:(0:Int)≤(k:Int)+1:=by omega
   have i1:(k:Int)<(m:Int):=by omega
   have htn:((k:Int)+1).toNat=k+1:=by omega
   have HX:Hid (l[k]?=some x∧l[k+1]?=some y):=⟨hx,hy⟩
   clear hx hy
   by_cases hle:y.b≤x.b
   ·have hd:decide (y.b≤x.b)=true:=decide_eq_true hle
    have HU:Hid (upI l=false):=upI_no HX.out.1 HX.out.2 hle
    clear hle
    go_wp2_with fail
    go_quiet (fail)
    go_wp2
    go_ret
    exact⟨by rw[HU.out];rfl,below_then HB.out (below_drawn _)⟩
   ·have hd:decide (y.b≤x.b)=false:=decide_eq_false hle
    have HI2:Hid (∀j x y,j<k+1→l[j]?=some x→l[j+1]?=some y→x.b<y.b):=fun j x' y' hj hx' hy'=>by
     by_cases e:j=k
     ·subst e
      have a:=HX.out.1;have b:=HX.out.2
      rw[hx'] at a;rw[hy'] at b
      cases a;cases b
      omega
     ·exact HI.out j x' y' (by omega) hx' hy'
    clear hle
    go_wp2_with fail
    go_quiet (fail)
    have HB2:Hid (Below w.heap.size w (wr.drewN 1)):=below_then HB.out (below_drawn _)
    go_wp2
    go_roundw
    case rel=>exact⟨k+1,by congr 1,by omega,below_then HB.out (below_drawn _),HI2⟩
    case measure=>simp[intOf];omega
  ·have HU:Hid (upI l=true):=upI_yes fun j x y hx hy=>HI.out j x y (by have:=(List.getElem?_eq_some_iff.1 hy).1;rw[HL.out] at this;omega) hx hy
   go_wp2_with fail
   go_ret
   exact⟨by rw[HU.out];rfl,HB.out⟩
end
section
variable {P:Program}
theorem step_store_is {ops:Array Oper}{o:Oper}{a:Act}{w w':World}{K:Act→World→Prop}{Q:Exit→Act→World→Prop}{E:Prop}
  (hg:o.guard=none) (ty:TypeId) {x y:Operand} (ho:o.op=.store ty x y) {p v:Value} (hx:a.eval x=p) (hy:a.eval y=v) (hr:(Instr.storeAt ty p v).run P w=.ok () w') (hK:K (a.put o.dst undef) w') :
  if Region.wanted o (yielded ops a.tmps)=true then Oper.wp P o a w K Q else E:=by
 have hw:Region.wanted o (yielded ops a.tmps)=true:=by simp[Region.wanted,hg]
 rw[if_pos hw]
 have hrun:(execOp a.eval o).run P w=.ok .skip w':=by unfold execOp;simp only[ho,hx,hy,Sem.run_bind,hr,Result.andThen_ok,Sem.run_pure]
 unfold Oper.wp
 rw[hrun]
 exact hK
theorem step_slice1_is {ops:Array Oper}{o:Oper}{a:Act}{w w':World}{K:Act→World→Prop}{Q:Exit→Act→World→Prop}{E:Prop}
  (hg:o.guard=none) (ty:TypeId) {x:Operand} (ho:o.op=.buildSlice ty 1 #[(0,x)]) {u v:Value} (hx:a.eval x=u) (hr:(Instr.buildSlice ty 1 #[(0,u)]).run P w=.ok v w') (hK:K (a.put o.dst v) w') :
  if Region.wanted o (yielded ops a.tmps)=true then Oper.wp P o a w K Q else E:=by
 have hw:Region.wanted o (yielded ops a.tmps)=true:=by simp[Region.wanted,hg]
 rw[if_pos hw]
 have e:(#[(0,x)]:Array (Nat × Operand)).map (fun (i,y)=>(i,a.eval y))=#[(0,u)]:=by simp[hx]
 have hrun:(execOp a.eval o).run P w=.ok (.value v) w':=by unfold execOp;simp only[ho];rw[e];simp only[Sem.run_bind,hr,Result.andThen_ok,Sem.run_pure]
 unfold Oper.wp
 rw[hrun]
 exact hK
theorem yields_load_is {ops:Array Oper}{S:World→Prop}{o:Oper}{a:Act}(hw:Region.wanted o (yielded ops a.tmps)=true)(ty:TypeId){x:Operand}(ho:o.op=.load ty x){p v:Value}(hx:a.eval x=p)(hrun:∀w,S w→(Instr.loadAt ty p).run P w=.ok v w):YieldsIf P ops S o v a :=
 .inl ⟨hw,fun w hS=>by unfold execOp;simp only[ho,hx,Sem.run_bind,hrun w hS,Result.andThen_ok,Sem.run_pure]⟩
end
structure Wrt (w w':World) (Q:Nat) (n:Int) (ve ve':Value) (L':List En) (nx':Int):Prop where
 at':CAt w' Q n ve' L' nx'
 kept:Kept (fun k=>k=Q∨ve.ownBlock=some k) w w'
 new:∀g,ve'.ownBlock=some g→ve.ownBlock=some g∨w.heap.size≤g
section
variable {w w':World} {Q:Nat} {n nx:Int} {ve:Value} {L:List En}
theorem Wrt.refl (h:CAt w Q n ve L nx):Wrt w w Q n ve ve L nx:=⟨h,Kept.refl _ _,fun _ h=>.inl h⟩
theorem Wrt.below (h:CAt w Q n ve L nx)(hb:Below w.heap.size w w'):Wrt w w' Q n ve ve L nx:=⟨h.later hb,Kept.of_below _ hb,fun _ h=>.inl h⟩
theorem Wrt.trans {w1 w2:World}{v1 v2:Value}{L1 L2:List En}{n1 n2:Int}(h:Wrt w w1 Q n ve v1 L1 n1)(k:Wrt w1 w2 Q n v1 v2 L2 n2):Wrt w w2 Q n ve v2 L2 n2 :=
 ⟨k.at',h.kept.trans k.kept (fun x hx e=>e.elim .inl fun e=>(h.new x e).elim .inr fun e=>by omega),fun g hg=>(k.new g hg).elim (fun e=>h.new g e) fun e=>.inr (Nat.le_trans h.kept.size e)⟩
theorem Wrt.later {w1 w2:World}{v1:Value}{L1:List En}{n1:Int}(h:Wrt w w1 Q n ve v1 L1 n1)(hb:Below w1.heap.size w1 w2):Wrt w w2 Q n ve v1 L1 n1:=h.trans (Wrt.below h.at' hb)
theorem CAt.lay {W:World}{v':Value}{L':List En}(st:W.heap[Q]?=some (.cells #[.int .i64 n,ve,.int .u64 nx] 105 (0,0)))(hr:EOwn 54 W 0 v' L'):CAt (W.setCell ⟨Q,1,none⟩ v') Q n v' L' nx:=by
 refine⟨?_,O.own_far hr (Kept.setCell (w:=W) Q 1 v') (fun g hg e=>O.own_not hr st (by decide) (by rw[hg];exact congrArg some e))⟩
 rw[setCell_eq_setRow W Q 1 _ 105 (0,0) v' st]
 exact setRow_heap W Q _ _ 105 _ st
theorem CAt.next {W:World}{nx':Int}(h:CAt W Q n ve L nx):CAt (W.setCell ⟨Q,2,none⟩ (.int .u64 nx')) Q n ve L nx':=by
 refine⟨?_,O.own_far h.row (Kept.setCell (w:=W) Q 2 _) (fun g hg e=>h.ne (by rw[hg];exact congrArg some e))⟩
 rw[setCell_eq_setRow W Q 2 _ 105 (0,0) _ h.st]
 exact setRow_heap W Q _ _ 105 _ h.st
theorem Wrt.row {w1 w2:World}{v':Value}{L':List En}(h:CAt w1 Q n ve L nx)(hb:Below w.heap.size w w1)(hO:EOwn 54 w2 0 v' L')(hK:Kept (fun k=>ve.ownBlock=some k) w1 w2)(hN:v'.ownBlock=ve.ownBlock∨v'.ownBlock=some w1.heap.size):Wrt w (w2.setCell ⟨Q,1,none⟩ v') Q n ve v' L' nx:=by
 have st2:=(hK.block Q h.lt h.ne).trans h.st
 refine⟨CAt.lay st2 hO,((Kept.of_below _ hb).trans hK (fun x _ e=>.inr e)).trans (Kept.setCell Q 1 v') (fun x _ e=>.inl e),fun g hg=>?_⟩
 rcases hN with e | e
 ·exact .inl (e ▸ hg)
 ·rw[e] at hg;cases hg;exact .inr hb.size
theorem Wrt.cells {w1 w2:World}(h:CAt w1 Q n ve L nx)(hK:Kept (fun k=>ve.ownBlock=some k) w1 w2):w2.cell? ⟨Q,1,none⟩=some ve∧w2.frozen? ⟨Q,1,none⟩=false:=by
 have st2:=(hK.block Q h.lt h.ne).trans h.st
 exact⟨by rw[cell_of_row _ Q 1 _ 105 (0,0) st2];rfl,by simp[World.frozen?,st2]⟩
theorem lay_call (h:CAt w Q n ve L nx)(hk:Okc n L nx){x:En}(hx:x.Wf):Calls prog 76 #[.pointer (some ⟨Q,0,none⟩),.agg (ecells x).toArray] w fun e w'=>e=.returned (.tuple #[])∧∃ve',Wrt w w' Q n ve ve' (layE L x) nx:=by
 have hfew:=hk.few
 obtain ⟨w1,hw1⟩:∃w1,w1=w.alloc (.cells (ecells x).toArray 54):=⟨_,rfl⟩
 have B1:Below w.heap.size w w1:=by rw[hw1];exact below_alloc w _
 have HV1:Hid (LAt 54 w1 w.heap.size (ecells x)):=by rw[hw1];exact LAt.new _ _ _
 have HA1:Hid (CAt w1 Q n ve L nx):=h.later B1
 have HB1:Hid (Below w.heap.size w w1):=B1
 have HNE:Hid (¬ve.ownBlock=some w.heap.size):=fun e=>by have:=(h.row.lt _ e).2;omega
 have HQN:Hid (Q<w.heap.size):=h.lt
 have HK:Hid (Okc n L nx):=hk
 have HX:Hid x.Wf:=hx
 have k0:w1.cell? ⟨w.heap.size,0,none⟩=some (.int .i64 x.b):=LAt.cell HV1.out 0
 have hw1':=hw1.symm
 clear B1 h hk hx hw1
 go_enter func76,ntmps76
 go_wp2_with fail
 refine (find_at HA1.out HK.out x.b).mono ?_
 rintro e w2 ⟨rfl,bn⟩
 have A2:CAt w2 Q n ve L nx:=HA1.out.later bn
 have HV2:Hid (LAt 54 w2 w.heap.size (ecells x)):=LAt.later HV1.out bn
 have HB2:Hid (Below w.heap.size w w2):=below_then HB1.out bn
 clear HV1 HA1 HB1 bn hw1' k0
 have hpl0:=ple_le L x.b
 cases hat:isE L x.b with
 | true =>
  obtain ⟨y,hy,hyb⟩:=isE_some hat
  have hpl:ple L x.b<L.length:=(List.getElem?_eq_some_iff.1 hy).1
  have HPT:Hid (L.take (ple L x.b)++[x]++L.drop (ple L x.b+1)=layE L x):=by
   show _=_
   rw[← lay_at HK.out.up hat,List.set_eq_take_append_cons_drop,if_pos hpl];simp
  obtain ⟨p,c,rfl,hc,hg⟩:=O.own_form A2.row
  obtain ⟨g,rfl⟩:=hg (by omega)
  have rD:EOwn 54 w2.drew 0 (.slice (some ⟨g,0,none⟩) L.length c) L:=A2.row
  obtain ⟨W',hst,ho,hgr⟩:=EOwn.put etC rD HK.out.wf x HX.out (ple L x.b) hpl
  have HST:Hid ((Instr.storeAt 54 (.pointer (some ⟨g,ple L x.b*34,none⟩)) (.agg (ecells x).toArray)).run prog w2.drew=.ok () W'):=hst
  have hb2:Below w.heap.size w w2.drew:=below_then HB2.out (show Below w2.heap.size w2 w2.drew from below_drawn 1)
  have kg:=O.kept_grown (v:=.slice (some ⟨g,0,none⟩) L.length c) hgr
  have AD:CAt w2.drew Q n (.slice (some ⟨g,0,none⟩) L.length c) L nx:=A2.later (show Below w2.heap.size w2 w2.drew from below_drawn 1)
  have HFIN:Hid (Wrt w W' Q n (.slice (some ⟨g,0,none⟩) L.length c) (.slice (some ⟨g,0,none⟩) L.length c) (layE L x) nx):=by
   refine⟨⟨(kg.block Q AD.lt AD.ne).trans AD.st,?_⟩,(Kept.of_below _ hb2).trans kg (fun y _ e=>.inr e),fun g' hg'=>.inl hg'⟩
   rw[← HPT.out];exact ho
  have HS1:Hid (w2.drew.cell? ⟨Q,1,none⟩=some (.slice (some ⟨g,0,none⟩) L.length c)∧LAt 54 w2.drew w.heap.size (ecells x)):=⟨A2.c1,HV2.out⟩
  have HS2:Hid (W'.cell? ⟨Q,1,none⟩=some (.slice (some ⟨g,0,none⟩) L.length c)∧LAt 54 W' w.heap.size (ecells x)):=⟨HFIN.out.at'.c1,(kg.block _ (LAt.lt HV2.out) HNE.out).trans HV2.out⟩
  have i1:((ple L x.b:Nat):Int)<(L.length:Int):=by omega
  have i0:(0:Int)≤((ple L x.b:Nat):Int):=by omega
  clear hst ho hgr rD hy hyb A2 HPT HV2 HB2 kg AD hb2 HNE hpl0 hpl
  generalize ple L x.b=k at *
  go_wp2_with fail
  refine wp_region_noPanic ?_
  refine wp_region_held_drew (S:=fun W=>W.cell? ⟨Q,1,none⟩=some (.slice (some ⟨g,0,none⟩) L.length c)∧LAt 54 W w.heap.size (ecells x)) (by kernel_rfl) HS1.out (fun hHeld=>?_)
  refine tk 0 hHeld ?_
  refine tk 1 hHeld ?_
  refine tk 2 hHeld ?_
  refine tkl 3 hHeld (fun _ hSw=>hSw.1) ?_
  refine tk 4 hHeld ?_
  refine wpAnyH_take (i:=5) (v:=_) (by simp;rfl) (by kernel_rfl) (by kernel_rfl) (by kernel_rfl) (fun _ _ _ h=>h) (yields_load_is (x:=.tmp 3) (p:=.pointer (some ⟨w.heap.size,0,none⟩)) (v:=.agg (ecells x).toArray) (by rfl) 54 rfl rfl (fun W hW=>LAt.loadE etC hW.2 HX.out.len)) hHeld ?_
  simp only[Act.put,zA,zB,zC]
  refine tk 6 hHeld ?_
  refine wpAnyH_ready (rs:=[7]) (by kernel_rfl) (by simp) ?_
  refine AllReadyH.cons (by simp;rfl) (fun Kc hKc=>?_) AllReadyH.nil
  refine step_store_is rfl 54 rfl rfl rfl HST.out ?_
  refine hKc.out _ _ HS2.out (fun hHeld=>?_)
  clear hKc Kc hHeld
  simp only[Act.put]
  refine wpAnyH_done (by kernel_rfl) (NoPanic.normal ?_) _
  go_wp2
  refine bodyPost_ret (results_none rfl _ _ _) rfl ?_
  exact⟨rfl,_,HFIN.out⟩
 | false =>
  have HPT:Hid (L.take (ple L x.b)++[x]++L.drop (ple L x.b)=layE L x):=lay_no HK.out.up hat
  have AD:CAt w2.drew Q n ve L nx:=A2.later (show Below w2.heap.size w2 w2.drew from below_drawn 1)
  obtain ⟨w3,hw3⟩:∃w3,w3=w2.drew.alloc (.cells (ecells x).toArray 54):=⟨_,rfl⟩
  have HBS:Hid ((Instr.buildSlice 47 1 #[(0,.agg (ecells x).toArray)]).run prog w2.drew=.ok (.slice (some ⟨w2.heap.size,0,none⟩) 1 1) w3):=by rw[hw3];exact build_en etC w2.drew x HX.out.len
  have b23:Below w2.drew.heap.size w2.drew w3:=by rw[hw3];exact below_alloc w2.drew _
  have l3:LAt 54 w3 w2.heap.size (ecells x):=by rw[hw3];exact LAt.new _ w2.drew _
  have A3:CAt w3 Q n ve L nx:=AD.later b23
  have HA3:Hid (CAt w3 Q n ve L nx):=A3
  have HV3:Hid (LAt 54 w3 w.heap.size (ecells x)):=LAt.later (w:=w2.drew) HV2.out b23
  have HB3:Hid (Below w.heap.size w w3):=below_then HB2.out (below_then (show Below w2.heap.size w2 w2.drew from below_drawn 1) b23)
  have hins:=insert_at A3.row HK.out.wf HX.out l3 (fun e=>by have:=(AD.row.lt _ e).2;simp at this) hpl0 (by omega) (Nat.zero_le _)
  have HINS:Hid (Calls prog 135 #[ve,.int .i64 ((ple L x.b:Nat):Int),.slice (some ⟨w2.heap.size,0,none⟩) 1 1] w3 fun e w'=>∃v',e=.returned v'∧EOwn 54 w' 0 v' (L.take (ple L x.b)++[x]++L.drop (ple L x.b))∧Kept (fun k=>ve.ownBlock=some k) w3 w'∧(v'.ownBlock=ve.ownBlock∨v'.ownBlock=some w3.heap.size)):=hins
  have HS1:Hid (w2.drew.cell? ⟨Q,1,none⟩=some ve∧LAt 54 w2.drew w.heap.size (ecells x)):=⟨A2.c1,HV2.out⟩
  have HS3:Hid (w3.cell? ⟨Q,1,none⟩=some ve∧LAt 54 w3 w.heap.size (ecells x)):=⟨A3.c1,HV3.out⟩
  obtain ⟨g2,hg2⟩:∃g2,g2=w2.heap.size:=⟨_,rfl⟩
  rw[← hg2] at HINS HBS
  have mixed:prog.follows Departure.mixedOrders=true:=by kernel_rfl
  clear hw3 b23 l3 A3 A2 AD hins HB2 HV2 hg2
  go_wp2_with fail
  refine wp_region_noPanic ?_
  refine wp_region_last 11 (fun W=>W.cell? ⟨Q,1,none⟩=some ve∧LAt 54 W w.heap.size (ecells x)) mixed ?_
  have hHeld:=HS1.out
  refine tkL 0 hHeld ?_
  refine tkL 1 hHeld ?_
  refine tkL 2 hHeld ?_
  refine tkL 3 hHeld ?_
  refine wpAnyL_take (i:=4) (v:=?va11) (by simp;rfl) (by kernel_rfl) (by kernel_rfl) (by kernel_rfl) (by kernel_rfl) (fun _ _ _ h=>h) (Or.inl ⟨by rfl,?ya11⟩) hHeld ?ra11
  case ya11=>intro w hSw;have z:=hSw.1;clear hSw;go_simp;with_reducible rfl
  simp only[Act.put,zA,zB,zC]
  refine tkL 5 hHeld ?_
  refine wpAnyL_take (i:=6) (v:=_) (by simp;rfl) (by kernel_rfl) (by kernel_rfl) (by kernel_rfl) (by kernel_rfl) (fun _ _ _ h=>h) (yields_load_is (x:=.tmp 3) (p:=.pointer (some ⟨w.heap.size,0,none⟩)) (v:=.agg (ecells x).toArray) (by rfl) 54 rfl rfl (fun W hW=>LAt.loadE etC hW.2 HX.out.len)) hHeld ?_
  simp only[Act.put,zA,zB,zC]
  refine wpAnyL_ready (rs:=[7]) (by kernel_rfl) (by simp) ?_
  refine AllReadyL.cons (by simp;rfl) (fun Kc hKc=>?_) AllReadyL.nil
  refine step_slice1_is (by rfl) 47 rfl rfl HBS.out ?_
  refine hKc.out _ _ (fun _=>HS3.out) ?_
  clear hHeld
  have hHeld:=HS3.out
  clear hKc Kc
  simp only[Act.put,zA,zB,zC]
  refine wpAnyL_ready (rs:=[8]) (by kernel_rfl) (by simp) ?_
  refine AllReadyL.cons (by simp;rfl) (fun Kc hKc=>?_) AllReadyL.nil
  go_simp
  refine HINS.out.mono ?_
  rintro e w4 ⟨v',rfl,hO,hK,hN⟩
  obtain ⟨p4,m4,c4,rfl⟩:∃p4 m4 c4,v'=.slice p4 m4 c4:=by obtain ⟨p4,c4,e4,-,-⟩:=O.own_form hO;exact⟨p4,_,c4,e4⟩
  have HFIN:Hid (Wrt w (w4.setCell ⟨Q,1,none⟩ (.slice p4 m4 c4)) Q n ve (.slice p4 m4 c4) (layE L x) nx):=Wrt.row HA3.out HB3.out (by rw[← HPT.out];exact hO) hK hN
  have HQ:Hid (w4.cell? ⟨Q,1,none⟩=some ve∧w4.frozen? ⟨Q,1,none⟩=false):=Wrt.cells HA3.out hK
  have HS4:Hid (w4.cell? ⟨Q,1,none⟩=some ve∧LAt 54 w4 w.heap.size (ecells x)):=⟨HQ.out.1,(hK.block _ (LAt.lt HV3.out) HNE.out).trans HV3.out⟩
  refine hKc.out _ _ (fun _=>HS4.out) ?_
  clear hHeld
  have hHeld:=HS4.out
  clear hKc Kc hO hK hN
  refine wpAnyL_ready (rs:=[9]) (by kernel_rfl) (by simp) ?_
  refine AllReadyL.cons (by simp;rfl) (fun Kc hKc=>?_) AllReadyL.nil
  go_simp
  refine hKc.out _ _ (fun _=>HS4.out) ?_
  clear hHeld
  have hHeld:=HS4.out
  clear hKc Kc
  refine tkL 10 hHeld ?_
  refine wpAnyL_ready (rs:=[11]) (by kernel_rfl) (by simp) ?_
  refine AllReadyL.cons (by simp;rfl) (fun Kc hKc=>?_) AllReadyL.nil
  have q1:=HQ.out.1
  have q2:=HQ.out.2
  go_simp
  refine hKc.out _ _ (fun h=>absurd rfl h) ?_
  clear hKc Kc hHeld q1 q2
  refine wpAnyL_done (by kernel_rfl) (NoPanic.normal ?_) _
  go_wp2
  go_end0
  exact⟨rfl,_,HFIN.out⟩
end
def putL (n:Int)(L:List En)(nx:Int)(l:List Im)(p:Int):List En:=if putE n nx l p=0 then lays L l p else L
def putX (n nx:Int)(l:List Im)(p:Int):Int:=if putE n nx l p=0 then p+1 else nx
theorem putE_block {n nx:Int}{l:List Im}{p:Int}(h:l.any (outI n)=true):putE n nx l p=51:=if_pos h
theorem putE_form {n nx:Int}{l:List Im}{p:Int}(h:l.any (outI n)=false)(h2:upI l=false):putE n nx l p=53:=by
 unfold putE;rw[if_neg (by rw[h];decide),if_pos h2]
theorem putE_ring {n nx:Int}{l:List Im}{p:Int}(h:l.any (outI n)=false)(h2:upI l=true)(h3:p<nx∨4611686018427387904<p):putE n nx l p=30:=by
 unfold putE;rw[if_neg (by rw[h];decide),if_neg (by rw[h2];decide),if_pos h3]
theorem putE_ok {n nx:Int}{l:List Im}{p:Int}(h:l.any (outI n)=false)(h2:upI l=true)(h3:¬(p<nx∨4611686018427387904<p)):putE n nx l p=0:=by
 unfold putE;rw[if_neg (by rw[h];decide),if_neg (by rw[h2];decide),if_neg h3]
theorem Okc.put {n nx p:Int}{L:List En}{l:List Im}(h:Okc n L nx)(hw:ImsWf l)(hp:0≤p∧p<18446744073709551616):Okc n (putL n L nx l p) (putX n nx l p):=by
 unfold putL putX
 by_cases e:putE n nx l p=0
 ·rw[if_pos e,if_pos e]
  have h1:l.any (outI n)=false:=by
   cases k:l.any (outI n) with
   | false=>rfl
   | true=>rw[putE_block k] at e;cases e
  have h2:upI l=true:=by
   cases k:upI l with
   | true=>rfl
   | false=>rw[putE_form h1 k] at e;cases e
  have h3:¬(p<nx∨4611686018427387904<p):=fun k=>by rw[putE_ring h1 h2 k] at e;cases e
  exact (h.lays hp l hw (fun i hi=>by simpa using List.any_eq_false.1 h1 i hi)).next hp.1 (by omega)
 ·rw[if_neg e,if_neg e];exact h
section
variable {w w':World} {Q:Nat} {n nx:Int} {ve:Value} {L:List En}
theorem put_at (h:CAt w Q n ve L nx)(hk:Okc n L nx){p:Option Addr}{m c:Nat}{l:List Im}(hM:MIn w p m l)(hm:m≤140737488355328)(hsep:∀a,p=some a→0<m→¬(a.block=Q∨ve.ownBlock=some a.block)){ps:Int}(hp:0≤ps∧ps<18446744073709551616) :
  Calls prog 32 #[.pointer (some ⟨Q,0,none⟩),.slice p m c,.int .u64 ps] w fun e w'=>e=.returned (.int .i64 (putE n nx l ps))∧∃ve',Wrt w w' Q n ve ve' (putL n L nx l ps) (putX n nx l ps):=by
 have hn1:=hk.n1;have hn2:=hk.n64
 have HA:Hid (CAt w Q n ve L nx):=h
 have HK:Hid (Okc n L nx):=hk
 have HM:Hid (MIn w p m l):=hM
 have HSP:Hid (∀a,p=some a→0<m→¬(a.block=Q∨ve.ownBlock=some a.block)):=hsep
 have HNO:Hid (∀e,putE n nx l ps=e→e≠0→putL n L nx l ps=L∧putX n nx l ps=nx):=fun e h1 h2=>⟨if_neg (by rw[h1];exact h2),if_neg (by rw[h1];exact h2)⟩
 have HYES:Hid (putE n nx l ps=0→putL n L nx l ps=lays L l ps∧putX n nx l ps=ps+1):=fun h1=>⟨if_pos h1,if_pos h1⟩
 have hp0:=hp.1;have hp1:=hp.2
 have hnx0:=hk.nx0;have hnx1:=hk.nx1
 clear h hk hM hsep hp
 go_enter func32,ntmps32
 go_wp2_with fail
 refine (contains_at HA.out (by constructor <;> omega) HM.out hm).mono ?_
 rintro e w1 ⟨rfl,b1⟩
 cases ho:l.any (outI n) with
 | true =>
  have HE:Hid (putE n nx l ps=51):=putE_block ho
  have HB:Hid (Below w.heap.size w w1):=b1
  clear ho b1
  go_wp2_with fail
  go_ret
  exact⟨by rw[HE.out];rfl,ve,by rw[(HNO.out _ HE.out (by decide)).1,(HNO.out _ HE.out (by decide)).2];exact Wrt.below HA.out HB.out⟩
 | false =>
  have HO:Hid (l.any (outI n)=false):=ho
  have HB1:Hid (Below w.heap.size w w1):=b1
  clear ho b1
  go_wp2_with fail
  refine (rise_at (HM.out.later HB1.out) hm).mono ?_
  rintro e w2 ⟨rfl,b2⟩
  have HB2:Hid (Below w.heap.size w w2):=below_then HB1.out b2
  clear b2 HB1
  cases hu:upI l with
  | false =>
   have HE:Hid (putE n nx l ps=53):=putE_form HO.out hu
   clear hu
   go_wp2_with fail
   go_ret
   exact⟨by rw[HE.out];rfl,ve,by rw[(HNO.out _ HE.out (by decide)).1,(HNO.out _ HE.out (by decide)).2];exact Wrt.below HA.out HB2.out⟩
  | true =>
   have HU:Hid (upI l=true):=hu
   have c2:=(HA.out.later HB2.out).c2
   clear hu
   by_cases hr:ps<nx
   ·have HE:Hid (putE n nx l ps=30):=putE_ring HO.out HU.out (.inl hr)
    go_wp2_with fail
    go_ret
    exact⟨by rw[HE.out];rfl,ve,by rw[(HNO.out _ HE.out (by decide)).1,(HNO.out _ HE.out (by decide)).2];exact Wrt.below HA.out HB2.out⟩
   ·by_cases hr2:4611686018427387904<ps
    ·have HE:Hid (putE n nx l ps=30):=putE_ring HO.out HU.out (.inr hr2)
     go_wp2_with fail
     go_ret
     exact⟨by rw[HE.out];rfl,ve,by rw[(HNO.out _ HE.out (by decide)).1,(HNO.out _ HE.out (by decide)).2];exact Wrt.below HA.out HB2.out⟩
    ·have HE:Hid (putE n nx l ps=0):=putE_ok HO.out HU.out (fun h=>h.elim hr hr2)
     have HY:Hid (putL n L nx l ps=lays L l ps∧putX n nx l ps=ps+1):=HYES.out HE.out
     have HL:Hid (l.length=m):=HM.out.len
     have HOK:Hid (∀k,Okc n (lays L (l.take k) ps) nx):=fun k=>HK.out.lays ⟨hp0,hp1⟩ _ (fun x hx=>HM.out.wf x (List.mem_of_mem_take hx)) (fun i hi=>by simpa using List.any_eq_false.1 HO.out i (List.mem_of_mem_take hi))
     go_wp2_with fail
     go_loopw [34] (fun v W=>∃(k:Nat) (ve':Value),v=.int .i64 (k:Int)∧k≤m∧Hid (Wrt w W Q n ve ve' (lays L (l.take k) ps) nx)) (fun v _=>m-(intOf v).toNat)
     case atStart=>exact⟨0,ve,rfl,by omega,(by rw[List.take_zero];exact Wrt.below HA.out HB2.out:Wrt w w2 Q n ve ve (lays L (l.take 0) ps) nx)⟩
     case round =>
      obtain ⟨k,ve',rfl,hk,HW⟩:=hrel
      by_cases hlt:k<m
      ·obtain ⟨x,hx⟩:∃x,l[k]?=some x:=⟨_,List.getElem?_eq_getElem (by rw[HL.out];omega)⟩
       obtain ⟨b1,o1,e1,-⟩:=HM.out.cells (by omega)
       have hMr:MIn wr p m l:=HM.out.far HW.out.kept HSP.out
       subst e1
       have hxw:x.Wf:=hMr.wf x (List.mem_of_getElem? hx)
       have HTK:Hid (l.take (k+1)=l.take k++[x]):=by
        show _=_
        obtain ⟨hk',ex⟩:=List.getElem?_eq_some_iff.1 hx
        rw[List.take_succ_eq_append_getElem hk',ex]
       have HLd:Hid ((Instr.loadAt 84 (.pointer (some ⟨b1,o1+k*33,none⟩))).run prog wr=.ok (.agg (icells x).toArray) wr):=hMr.load hx
       obtain ⟨w3,hw3⟩:∃w3,w3=wr.alloc (.cells (icells im0).toArray 84):=⟨_,rfl⟩
       obtain ⟨w4,hw4⟩:∃w4,w4=wr.alloc (.cells (icells x).toArray 84):=⟨_,rfl⟩
       have HAL:Hid ((Instr.alloc 84 true (.tuple #[])).run prog wr=.ok (.pointer (some ⟨wr.heap.size,0,none⟩)) w3):=by rw[hw3];exact allocI wr
       have HST:Hid ((Instr.storeAt 84 (.pointer (some ⟨wr.heap.size,0,none⟩)) (.agg (icells x).toArray)).run prog w3=.ok () w4):=by rw[hw3,hw4];exact store_newI wr x hxw.len
       have b4:Below wr.heap.size wr w4:=by rw[hw4];exact below_alloc wr _
       have l4:LAt 84 w4 wr.heap.size (icells x):=by rw[hw4];exact LAt.new _ _ _
       have HW4:Hid (Wrt w w4 Q n ve ve' (lays L (l.take k) ps) nx):=HW.out.later b4
       have z0:w4.cell? ⟨wr.heap.size,0,none⟩=some (.int .i64 x.b):=LAt.cell l4 0
       have HLV:Hid ((Instr.loadAt 51 (.pointer (some ⟨wr.heap.size,1,none⟩))).run prog w4=.ok (.agg (U8 x.v).toArray) w4):=LAt.loadIv l4 hxw.len
       have HBU:Hid ((Instr.build 54 #[(0,.int .i64 x.b),(1,.agg (U8 x.v).toArray),(2,.int .u64 ps)]).run prog w4=.ok (.agg (ecells ⟨x.b,x.v,ps⟩).toArray) w4):=buildE etC w4 x.b x.v ps hxw.len
       have HXW:Hid (En.Wf ⟨x.b,x.v,ps⟩):=⟨hxw.b,hxw.len,hxw.byte,hp0,hp1⟩
       have i1:(k:Int)<(m:Int):=by omega
       clear hw3 hw4 b4 l4 hxw hx hMr HW
       go_wp2_with ((with_reducible refine at_ops ?_);(first | ((first | (refine wpList_load_is (by rfl) 84 rfl rfl HLd.out ?_) | (refine wpList_load_is (by rfl) 51 rfl rfl HLV.out ?_) | (refine wpList_alloc_is (by rfl) 84 rfl HAL.out ?_) | (refine wpList_build_is (vs:=[(0,.int .i64 x.b),(1,.agg (U8 x.v).toArray),(2,.int .u64 ps)]) (by rfl) 54 rfl (by rfl) HBU.out ?_));simp only[Act.put,zA,zB,zC]) | (refine stI 84 HST.out ?_)))
       refine (lay_call HW4.out.at' (HOK.out k) HXW.out).mono ?_
       rintro e w5 ⟨rfl,ve5,hW5⟩
       have HW5:Hid (Wrt w w5 Q n ve ve5 (lays L (l.take (k+1)) ps) nx):=by
        show Wrt _ _ _ _ _ _ _ _
        rw[HTK.out,lays_snoc];exact HW4.out.trans hW5
       clear hW5 HW4 HLd HLV HAL HST HBU HTK z0
       go_wp2_with fail
       go_roundw
       case rel=>exact⟨k+1,ve5,by congr 1,by omega,HW5⟩
       case measure=>simp[intOf];omega
      ·have HW2:Hid (Wrt w wr Q n ve ve' (lays L l ps) nx):=by
        have:=HW.out
        rw[List.take_of_length_le (by rw[HL.out];omega)] at this
        exact this
       have q2:=HW2.out.at'.c2
       have f2:=HW2.out.at'.free 2
       have hwp:IntKind.u64.wrap (ps+1)=ps+1:=by rw[IntKind.wrap_u64];omega
       clear HW
       go_wp2
       go_ret
       refine⟨by rw[HE.out];rfl,ve',?_⟩
       rw[HY.out.1,HY.out.2]
       exact⟨HW2.out.at'.next,HW2.out.kept.trans (Kept.setCell Q 2 _) (fun x _ e=>.inl e),HW2.out.new⟩
end
section
variable {w w':World} {Q:Nat} {n nx:Int} {ve:Value} {L:List En}
theorem EIn.far {S:Nat→Prop}{p:Option Addr}{m:Nat}{l:List En}(h:EIn w p m l)(hk:Kept S w w')(hs:∀a,p=some a→0<m→¬S a.block):EIn w' p m l:=by
 refine⟨h.len,h.wf,fun h0=>?_⟩
 obtain ⟨b,o,e,hr⟩:=h.cells h0
 exact⟨b,o,e,range_block hr (hk.block b (range_lt hr (by rw[EC_len h.wf,h.len];omega)) (hs _ e h0))⟩
theorem take_snocE {l:List En}{k:Nat}{x:En}(hx:l[k]?=some x):l.take (k+1)=l.take k++[x]:=by
 obtain ⟨hk',ex⟩:=List.getElem?_eq_some_iff.1 hx
 rw[List.take_succ_eq_append_getElem hk',ex]
theorem drpsN_le (L l:List En):drpsN L l≤L.length:=by have:=drps_len L l;omega
theorem drop_call (h:CAt w Q n ve L nx)(hk:Okc n L nx){p:Option Addr}{m c:Nat}{l:List En}(hM:EIn w p m l)(hm:m≤140737488355328)(hsep:∀a,p=some a→0<m→¬(a.block=Q∨ve.ownBlock=some a.block)) :
  Calls prog 106 #[.pointer (some ⟨Q,0,none⟩),.slice p m c] w fun e w'=>e=.returned (.int .i64 (drpsN L l:Int))∧∃ve',Wrt w w' Q n ve ve' (drps L l) nx:=by
 have HK:Hid (Okc n L nx):=hk
 have HM:Hid (EIn w p m l):=hM
 have HL:Hid (l.length=m):=hM.len
 have HA:Hid (CAt w Q n ve L nx):=h
 have HSP:Hid (∀a,p=some a→0<m→¬(a.block=Q∨ve.ownBlock=some a.block)):=hsep
 have hfew:=hk.few
 clear h hk hM hsep
 go_enter func106,ntmps106
 go_wp2_with fail
 go_loopw [12,5] (fun v v2 W=>∃(k t:Nat) (ve':Value),v=.int .i64 (k:Int)∧v2=.int .i64 (t:Int)∧k≤m∧t≤64∧Hid (t=drpsN L (l.take k))∧Hid (Wrt w W Q n ve ve' (drps L (l.take k)) nx)) (fun v _ _=>m-(intOf v).toNat)
 case atStart=>exact⟨0,0,ve,rfl,rfl,by omega,by omega,(rfl:0=drpsN L (l.take 0)),(Wrt.refl HA.out:Wrt w w Q n ve ve (drps L (l.take 0)) nx)⟩
 case round =>
  obtain ⟨k,t,ve',rfl,rfl,hk,ht,HT,HW⟩:=hrel
  by_cases hlt:k<m
  ·obtain ⟨x,hx⟩:∃x,l[k]?=some x:=⟨_,List.getElem?_eq_getElem (by rw[HL.out];omega)⟩
   obtain ⟨b1,o1,e1,-⟩:=HM.out.cells (by omega)
   have hMr:EIn wr p m l:=HM.out.far HW.out.kept HSP.out
   subst e1
   have hxw:x.Wf:=hMr.wf x (List.mem_of_getElem? hx)
   have HTK:Hid (l.take (k+1)=l.take k++[x]):=take_snocE hx
   have HOK:Hid (Okc n (drps L (l.take k)) nx):=HK.out.drops _
   have HLd:Hid ((Instr.loadAt 54 (.pointer (some ⟨b1,o1+k*34,none⟩))).run prog wr=.ok (.agg (ecells x).toArray) wr):=EIn.load etC hMr hx
   obtain ⟨w3,hw3⟩:∃w3,w3=wr.alloc (.cells (ecells en0).toArray 54):=⟨_,rfl⟩
   obtain ⟨w4,hw4⟩:∃w4,w4=wr.alloc (.cells (ecells x).toArray 54):=⟨_,rfl⟩
   have HAL:Hid ((Instr.alloc 54 true (.tuple #[])).run prog wr=.ok (.pointer (some ⟨wr.heap.size,0,none⟩)) w3):=by rw[hw3];exact allocE etC wr
   have HST:Hid ((Instr.storeAt 54 (.pointer (some ⟨wr.heap.size,0,none⟩)) (.agg (ecells x).toArray)).run prog w3=.ok () w4):=by rw[hw3,hw4];exact store_newE etC wr x hxw.len
   have b4:Below wr.heap.size wr w4:=by rw[hw4];exact below_alloc wr _
   have l4:LAt 54 w4 wr.heap.size (ecells x):=by rw[hw4];exact LAt.new _ _ _
   have HL4:Hid (LAt 54 w4 wr.heap.size (ecells x)):=l4
   have HXL:Hid (x.v.length=32):=hxw.len
   have HW4:Hid (Wrt w w4 Q n ve ve' (drps L (l.take k)) nx):=HW.out.later b4
   have z0:w4.cell? ⟨wr.heap.size,0,none⟩=some (.int .i64 x.b):=LAt.cell l4 0
   have i1:(k:Int)<(m:Int):=by omega
   clear hw3 hw4 b4 l4 hxw hx hMr HW
   obtain ⟨D,hD⟩:∃D,D=drps L (l.take k):=⟨_,rfl⟩
   have HD1:Hid (drps L (l.take (k+1))=drpE D x):=by show _=_;rw[HTK.out,drps_snoc,hD]
   have HD2:Hid (drpsN L (l.take (k+1))=t+drpN D x):=by show _=_;rw[HTK.out,drpsN_snoc,hD,HT.out]
   rw[← hD] at HW4 HOK
   have hfD:=HOK.out.few
   have HT64:Hid (drpsN L (l.take (k+1))≤64):=Nat.le_trans (drpsN_le _ _) hfew
   clear hD HTK HT
   go_wp2_with ((with_reducible refine at_ops ?_);(first | ((first | (refine wpList_load_is (by rfl) 54 rfl rfl HLd.out ?_) | (refine wpList_alloc_is (by rfl) 54 rfl HAL.out ?_));simp only[Act.put,zA,zB,zC]) | (refine stI 54 HST.out ?_)))
   refine (find_at HW4.out.at' HOK.out x.b).mono ?_
   rintro e w5 ⟨rfl,b5⟩
   have HW5:Hid (Wrt w w5 Q n ve ve' D nx):=HW4.out.later b5
   have HL5:Hid (LAt 54 w5 wr.heap.size (ecells x)):=LAt.later HL4.out b5
   clear b5 HW4 HL4 HLd HAL HST z0
   generalize wr.heap.size=bx at *
   have p5:w5.cell? ⟨bx,33,none⟩=some (.int .u64 x.p):=by rw[LAt.cell HL5.out];exact ecells_p HXL.out
   have p5d:w5.drew.cell? ⟨bx,33,none⟩=some (.int .u64 x.p):=p5
   have q5:=HW5.out.at'.c1
   have q5d:w5.drew.cell? ⟨Q,1,none⟩=some ve':=q5
   cases hat:isE D x.b with
   | false =>
    have HN:Hid (drpE D x=D∧drpN D x=0):=drp_no HOK.out.up (fun y h1=>by rw[hat] at h1;cases h1)
    have HTN:Hid (t=drpsN L (l.take (k+1))):=by show _=_;rw[HD2.out,HN.out.2];rfl
    have HWN:Hid (∀q,Wrt w (w5.drewN q) Q n ve ve' (drps L (l.take (k+1))) nx):=by
     intro q
     rw[HD1.out,HN.out.1];exact HW5.out.later (below_drawn q)
    clear hat q5 q5d p5 p5d
    go_wp2_with fail
    go_quiet (fail)
    go_wp2
    go_roundw
    case rel=>exact⟨k+1,t,ve',by congr 1,rfl,by omega,ht,HTN,HWN.out _⟩
    case measure=>simp[intOf];omega
   | true =>
    obtain ⟨y,hy,hyb⟩:=isE_some hat
    have hpl:ple D x.b<D.length:=(List.getElem?_eq_some_iff.1 hy).1
    obtain ⟨p6,c6,rfl,hc6,hg6⟩:=O.own_form HW5.out.at'.row
    obtain ⟨g,rfl⟩:=hg6 (by omega)
    obtain ⟨p7,c7,e7,hE7,-⟩:=HW5.out.at'.ein HOK.out.wf
    cases e7
    have y5:=hE7.cp hy
    rw[Nat.zero_add] at y5
    have y5d:w5.drew.cell? ⟨g,ple D x.b*34+33,none⟩=some (.int .u64 y.p):=y5
    have j1:((ple D x.b:Nat):Int)<(D.length:Int):=by omega
    have j0:(0:Int)≤((ple D x.b:Nat):Int):=by omega
    by_cases hpp:y.p=x.p
    ·have HC:Hid (D.take (ple D x.b)++D.drop (ple D x.b+1)=drpE D x∧drpN D x=1):=drp_at HOK.out.up hat hy hpp
     have hpq:(y.p == x.p)=true:=by rw[beq_iff_eq];exact hpp
     have HTN:Hid (t+1=drpsN L (l.take (k+1))):=by show _=_;rw[HD2.out,HC.out.2]
     have ht1:t+1≤64:=by have:=HTN.out;have:=HT64.out;omega
     clear hat hpp hE7 HT64 hy hyb
     generalize ple D x.b=kp at *
     go_wp2_with fail
     go_quiet (fail)
     have HD5:Hid (Below w5.heap.size w5 (w5.drewN nq)):=below_drawn nq
     have A6:CAt (w5.drewN nq) Q n (.slice (some ⟨g,0,none⟩) D.length c6) D nx:=HW5.out.at'.later (below_drawn nq)
     have q6:=A6.c1
     have hdel:=delete_at A6.row HOK.out.wf rfl hpl (by omega)
     have HDEL:Hid (Calls prog 167 #[.slice (some ⟨g,0,none⟩) D.length c6,.int .i64 (kp:Int),.int .i64 ((kp:Int)+1)] (w5.drewN nq) fun e w'=>e=.returned (.slice (some ⟨g,0,none⟩) (D.length-1) c6)∧EOwn 54 w' 0 (.slice (some ⟨g,0,none⟩) (D.length-1) c6) (D.take kp++D.drop (kp+1))∧Kept (·=g) (w5.drewN nq) w'):=hdel
     have HA6:Hid (CAt (w5.drewN nq) Q n (.slice (some ⟨g,0,none⟩) D.length c6) D nx):=A6
     clear hdel A6 y5 y5d q5 q5d p5 p5d
     generalize w5.drewN nq=w6 at *
     go_wp2_with fail
     refine HDEL.out.mono ?_
     rintro e w7 ⟨rfl,hO,hK7⟩
     have hK8:Kept (fun k=>(Value.slice (some ⟨g,0,none⟩) D.length c6).ownBlock=some k) w6 w7:=hK7.wider (fun x _ e=>by subst e;rfl)
     have HFIN:Hid (Wrt w (w7.setCell ⟨Q,1,none⟩ (.slice (some ⟨g,0,none⟩) (D.length-1) c6)) Q n ve (.slice (some ⟨g,0,none⟩) (D.length-1) c6) (drps L (l.take (k+1))) nx):=by
      show Wrt _ _ _ _ _ _ _ _
      rw[HD1.out]
      exact HW5.out.trans (Wrt.row HA6.out HD5.out (by rw[← HC.out.1];exact hO) hK8 (.inl rfl))
     have r1:=(Wrt.cells HA6.out hK8).1
     have r2:=(Wrt.cells HA6.out hK8).2
     clear hO hK7 hK8 HDEL HA6 q6
     go_wp2
     go_roundw
     case rel=>exact⟨k+1,t+1,_,by congr 1,by congr 1,by omega,ht1,HTN,HFIN⟩
     case measure=>simp[intOf];omega
    ·have HN:Hid (drpE D x=D∧drpN D x=0):=drp_no HOK.out.up (fun z _ h1=>by rw[hy] at h1;cases h1;exact hpp)
     have hpq:(y.p == x.p)=false:=by rw[beq_eq_false_iff_ne];exact hpp
     have HTN:Hid (t=drpsN L (l.take (k+1))):=by show _=_;rw[HD2.out,HN.out.2];rfl
     have HWN:Hid (∀q,Wrt w (w5.drewN q) Q n ve (.slice (some ⟨g,0,none⟩) D.length c6) (drps L (l.take (k+1))) nx):=by
      intro q
      rw[HD1.out,HN.out.1];exact HW5.out.later (below_drawn q)
     clear hat hpp hE7 HT64 hy hyb
     generalize ple D x.b=kp at *
     go_wp2_with fail
     go_quiet (fail)
     clear y5 y5d q5 q5d p5 p5d
     go_wp2
     go_roundw
     case rel=>exact⟨k+1,t,_,by congr 1,rfl,by omega,ht,HTN,HWN.out _⟩
     case measure=>simp[intOf];omega
  ·have HE:Hid (l.take k=l):=List.take_of_length_le (by rw[HL.out];omega)
   have HT2:Hid (t=drpsN L l):=by have:=HT.out;rw[HE.out] at this;exact this
   have HW2:Hid (Wrt w wr Q n ve ve' (drps L l) nx):=by have:=HW.out;rw[HE.out] at this;exact this
   clear HT HW HE
   go_wp2
   go_ret
   exact⟨by rw[← HT2.out];rfl,ve',HW2.out⟩
end
end Go.Proofs.YtcdjepkhdjpjcaaGreatDoor.C
