import Derived.Test.YtcdjepkhdjpjcaaGreatDoorV27
set_option maxHeartbeats 20000000
set_option maxRecDepth 100000
namespace Go.Proofs.YtcdjepkhdjpjcaaGreatDoor.C
open Go.Proofs.Tryz
open Go.RowKit
structure RWrt (w w':World) (R:Nat) (n:Int) (v v':Value) (L':List En) (s':Bool) (p':Int):Prop where
 at':RAt w' R n v' L' s' p'
 kept:Kept (fun k=>k=R∨v.ownBlock=some k) w w'
 new:∀g,v'.ownBlock=some g→v.ownBlock=some g∨w.heap.size≤g
section
variable {w w':World} {R:Nat} {n p:Int} {v:Value} {L:List En} {s:Bool}
theorem RWrt.below (h:RAt w R n v L s p)(hb:Below w.heap.size w w'):RWrt w w' R n v v L s p:=⟨h.later hb,Kept.of_below _ hb,fun _ h=>.inl h⟩
theorem RWrt.trans {w1 w2:World}{v1 v2:Value}{L1 L2:List En}{s1 s2:Bool}{p1 p2:Int}(h:RWrt w w1 R n v v1 L1 s1 p1)(k:RWrt w1 w2 R n v1 v2 L2 s2 p2):RWrt w w2 R n v v2 L2 s2 p2 :=
 ⟨k.at',h.kept.trans k.kept (fun x hx e=>e.elim .inl fun e=>(h.new x e).elim .inr fun e=>by omega),fun g hg=>(k.new g hg).elim (fun e=>h.new g e) fun e=>.inr (Nat.le_trans h.kept.size e)⟩
theorem RWrt.later {w1 w2:World}{v1:Value}{L1:List En}{s1:Bool}{p1:Int}(h:RWrt w w1 R n v v1 L1 s1 p1)(hb:Below w1.heap.size w1 w2):RWrt w w2 R n v v1 L1 s1 p1:=h.trans (RWrt.below h.at' hb)
theorem RAt.lay {W:World}{v':Value}{L':List En}(st:W.heap[R]?=some (.cells #[.int .i64 n,v,.bool s,.int .u64 p] 219 (0,0)))(hr:EOwn 241 W 0 v' L'):RAt (W.setCell ⟨R,1,none⟩ v') R n v' L' s p:=by
 refine⟨?_,O.own_far hr (Kept.setCell (w:=W) R 1 v') (fun g hg e=>O.own_not hr st (by decide) (by rw[hg];exact congrArg some e))⟩
 rw[setCell_eq_setRow W R 1 _ 219 (0,0) v' st]
 exact setRow_heap W R _ _ 219 _ st
theorem RAt.some {W:World}{s':Bool}(h:RAt W R n v L s p):RAt (W.setCell ⟨R,2,none⟩ (.bool s')) R n v L s' p:=by
 refine⟨?_,O.own_far h.row (Kept.setCell (w:=W) R 2 _) (fun g hg e=>h.ne (by rw[hg];exact congrArg Option.some e))⟩
 rw[setCell_eq_setRow W R 2 _ 219 (0,0) _ h.st]
 exact setRow_heap W R _ _ 219 _ h.st
theorem RAt.last {W:World}{p':Int}(h:RAt W R n v L s p):RAt (W.setCell ⟨R,3,none⟩ (.int .u64 p')) R n v L s p':=by
 refine⟨?_,O.own_far h.row (Kept.setCell (w:=W) R 3 _) (fun g hg e=>h.ne (by rw[hg];exact congrArg Option.some e))⟩
 rw[setCell_eq_setRow W R 3 _ 219 (0,0) _ h.st]
 exact setRow_heap W R _ _ 219 _ h.st
theorem RWrt.row {w1:World}{v':Value}{L':List En}(h:RAt w R n v L s p)(hb:Below w.heap.size w w1)(hO:EOwn 241 w1 w.heap.size v' L'):RWrt w (w1.setCell ⟨R,1,none⟩ v') R n v v' L' s p :=
 ⟨RAt.lay (h.later hb).st (own_mono hO (Nat.zero_le _)),(Kept.of_below _ hb).trans (Kept.setCell R 1 v') (fun _ _ e=>.inl e),fun g hg=>.inr (hO.lt g hg).1⟩
theorem RWrt.some {w1:World}{v1:Value}{L1:List En}{s1 s2:Bool}{p1:Int}(h:RWrt w w1 R n v v1 L1 s1 p1):RWrt w (w1.setCell ⟨R,2,none⟩ (.bool s2)) R n v v1 L1 s2 p1:=⟨h.at'.some,h.kept.trans (Kept.setCell R 2 _) (fun _ _ e=>.inl e),h.new⟩
theorem RWrt.last {w1:World}{v1:Value}{L1:List En}{s1:Bool}{p1 p2:Int}(h:RWrt w w1 R n v v1 L1 s1 p1):RWrt w (w1.setCell ⟨R,3,none⟩ (.int .u64 p2)) R n v v1 L1 s1 p2:=⟨h.at'.last,h.kept.trans (Kept.setCell R 3 _) (fun _ _ e=>.inl e),h.new⟩
structure Ga (w W:World) (v:Value) (m:Nat) (l:List En):Prop where
 own:EOwn 241 W w.heap.size v l
 below:Below w.heap.size w W
 len:m=l.length
 wf:EnsWf l
theorem Ga.later {W W':World}{l:List En}{m:Nat}(h:Ga w W v m l)(hb:Below W.heap.size W W'):Ga w W' v m l:=⟨O.own_later h.own hb,below_then h.below hb,h.len,h.wf⟩
theorem Ga.nil (w:World):Ga w w (.slice none 0 0) 0 []:=⟨World.ownsRow_nil _ _ _ _,Below.refl _ _,rfl,EnsWf.nil⟩
theorem Ga.app {W:World}{l:List En}{q:Option Addr}{m c:Nat}(h:Ga w W (.slice q m c) m l){x:En}(hx:x.Wf)(hm:m≤9000):∃q' c' W',(Builtin.append_ #[160,160] 160 #[.slice q m c,.slice (some ⟨W.heap.size,0,none⟩) 1 1]).run prog (W.alloc (.cells (ecells x).toArray 241))=.ok (.slice q' (m+1) c') W'∧Ga w W' (.slice q' (m+1) c') (m+1) (l++[x]):=by
 have bB:=below_alloc W (.cells (ecells x).toArray 241)
 have k:=h.later bB
 have hl:=h.len
 subst hl
 obtain ⟨q',c',W',hap,ho,hg,hat⟩:=app_big etR (c:=1) k.own h.wf (one_ein (LAt.new 241 W (ecells x)) hx) (by omega) (by omega) k.below.size
 exact⟨q',c',W',hap,ho,(O.kept_grown hg).into k.below (fun b hb e=>by have:=(k.own.lt b e).1;omega) (Nat.le_refl _),by simp,h.wf.snoc hx⟩
theorem filter_yes {P:En→Bool}{D:List En}{j:Nat}{y:En}(hy:D[j]?=some y)(h:P y=true):(D.take (j+1)).filter P=(D.take j).filter P++[y]:=by rw[take_snocE hy,List.filter_append];simp[h]
theorem filter_no {P:En→Bool}{D:List En}{j:Nat}{y:En}(hy:D[j]?=some y)(h:P y=false):(D.take (j+1)).filter P=(D.take j).filter P:=by rw[take_snocE hy,List.filter_append];simp[h]
theorem MIn.loadv {w:World}{b o n:Nat}{l:List Im}(h:MIn w (some ⟨b,o,none⟩) n l){k:Nat}{i:Im}(hk:l[k]?=some i):(Instr.loadAt 51 (.pointer (some ⟨b,o+k*33+1,none⟩))).run prog w=.ok (.agg (U8 i.v).toArray) w :=
 run_loadAt_mid w b (o+k*33+1) 51 (U8 i.v) _ (fun j u hj=>by have:=h.at hk (j+1) u (by simpa [icells] using hj);rw[show o+k*33+1+j=o+k*33+(j+1) by omega];exact this) underlying51 rfl (by rw[sizeV,U8_length,(h.wf i (List.mem_of_getElem? hk)).len])
theorem step_alloc_is {P:Program}{ops:Array Oper}{o:Oper}{a:Act}{w w':World}{K:Act→World→Prop}{Q:Exit→Act→World→Prop}{E:Prop}
  (hg:o.guard=none) (ty:TypeId) (ho:o.op=.alloc ty) {v:Value} (hr:(Instr.alloc ty true (.tuple #[])).run P w=.ok v w') (hK:K (a.put o.dst v) w') :
  if Region.wanted o (yielded ops a.tmps)=true then Oper.wp P o a w K Q else E:=by
 have hw:Region.wanted o (yielded ops a.tmps)=true:=by simp[Region.wanted,hg]
 rw[if_pos hw]
 have hrun:(execOp a.eval o).run P w=.ok (.value v) w':=by unfold execOp;simp only[ho,Sem.run_bind,hr,Result.andThen_ok,Sem.run_pure]
 unfold Oper.wp
 rw[hrun]
 exact hK
def putS (n:Int)(s:Bool)(p:Int)(l:List Im)(ps:Int):Bool:=if putE n (nxR s p) l ps=0 then true else s
def putP (n:Int)(s:Bool)(p:Int)(l:List Im)(ps:Int):Int:=if putE n (nxR s p) l ps=0 then ps else p
theorem rput_at (h:RAt w R n v L s p)(hk:Okc n L (nxR s p))(hp:0≤p∧p≤4611686018427387904){q:Option Addr}{m c:Nat}{l:List Im}(hM:MIn w q m l)(hm:m≤140737488355328)(hsep:∀a,q=some a→0<m→¬(a.block=R∨v.ownBlock=some a.block)){ps:Int}(hps:0≤ps∧ps<18446744073709551616):Calls prog 133 #[.pointer (some ⟨R,0,none⟩),.slice q m c,.int .u64 ps] w fun e w'=>e=.returned (.int .i64 (putE n (nxR s p) l ps))∧∃v',RWrt w w' R n v v' (putL n L (nxR s p) l ps) (putS n s p l ps) (putP n s p l ps):=by
 have HA:Hid (RAt w R n v L s p):=h
 have HK:Hid (Okc n L (nxR s p)):=hk
 have HM:Hid (MIn w q m l):=hM
 have HSP:Hid (∀a,q=some a→0<m→¬(a.block=R∨v.ownBlock=some a.block)):=hsep
 have hps0:=hps.1;have hps1:=hps.2
 go_enter func133,ntmps133
 go_wp2_with fail
 refine (rmay_at HA.out hp HM.out hm hps).mono ?_
 rintro e w1 ⟨rfl,b1⟩
 have HB1:Hid (Below w.heap.size w w1):=b1
 clear b1 h hk hM hsep hp hps
 by_cases he:putE n (nxR s p) l ps=0
 ·have HE:Hid (putE n (nxR s p) l ps=0):=he
  have HY:Hid (putL n L (nxR s p) l ps=lays L l ps∧putS n s p l ps=true∧putP n s p l ps=ps):=⟨if_pos he,if_pos he,if_pos he⟩
  have HO:Hid (l.any (outI n)=false):=by
   cases k:l.any (outI n) with
   | false=>exact rfl
   | true=>rw[putE_block k] at he;cases he
  have HL:Hid (l.length=m):=HM.out.len
  have HOK:Hid (∀k,Okc n (lays L (l.take k) ps) (nxR s p)):=fun k=>HK.out.lays ⟨hps0,hps1⟩ _ (fun x hx=>HM.out.wf x (List.mem_of_mem_take hx)) (fun i hi=>by simpa using List.any_eq_false.1 HO.out i (List.mem_of_mem_take hi))
  rw[he]
  go_wp2_with fail
  go_loopw [8] (fun u W=>∃(k:Nat) (vD:Value),u=.int .i64 (k:Int)∧k≤m∧Hid (RWrt w W R n v vD (lays L (l.take k) ps) s p)) (fun u _=>m-(intOf u).toNat)
  case atStart=>exact⟨0,v,rfl,by omega,(by rw[List.take_zero];exact RWrt.below HA.out HB1.out:RWrt w w1 R n v v (lays L (l.take 0) ps) s p)⟩
  case round =>
   obtain ⟨k,vD,rfl,hk,HW⟩:=hrel
   by_cases hlt:k<m
   ·obtain ⟨x,hx⟩:∃x,l[k]?=some x:=⟨_,List.getElem?_eq_getElem (by rw[HL.out];omega)⟩
    obtain ⟨b1,o1,e1,-⟩:=HM.out.cells (by omega)
    have hMr:MIn wr q m l:=HM.out.far HW.out.kept HSP.out
    subst e1
    have hxw:x.Wf:=hMr.wf x (List.mem_of_getElem? hx)
    have HTK:Hid (l.take (k+1)=l.take k++[x]):=by
     show _=_
     obtain ⟨hk',ex⟩:=List.getElem?_eq_some_iff.1 hx
     rw[List.take_succ_eq_append_getElem hk',ex]
    have HX:Hid (l[k]?=some x):=hx
    have HXW:Hid (En.Wf ⟨x.b,x.v,ps⟩):=⟨hxw.b,hxw.len,hxw.byte,hps0,hps1⟩
    obtain ⟨D,hD⟩:∃D,D=lays L (l.take k) ps:=⟨_,rfl⟩
    have HD:Hid (D=lays L (l.take k) ps):=hD
    have HOD:Hid (Okc n D (nxR s p)):=by rw[hD];exact HOK.out k
    have hD64:=HOD.out.few
    obtain ⟨w3,hw3⟩:∃w3,w3=wr.drew.alloc (.cells (ecells en0).toArray 241):=⟨_,rfl⟩
    obtain ⟨w4,hw4⟩:∃w4,w4=wr.drew.alloc (.cells (ecells ⟨x.b,x.v,ps⟩).toArray 241):=⟨_,rfl⟩
    obtain ⟨g,hg⟩:∃g,g=wr.drew.heap.size:=⟨_,rfl⟩
    have HAL:Hid ((Instr.alloc 241 true (.tuple #[])).run prog wr.drew=.ok (.pointer (some ⟨g,0,none⟩)) w3):=by rw[hw3,hg];exact allocE etR wr.drew
    have HST:Hid ((Instr.storeAt 241 (.pointer (some ⟨g,0,none⟩)) (.agg (ecells ⟨x.b,x.v,ps⟩).toArray)).run prog w3=.ok () w4):=by rw[hw3,hw4,hg];exact store_newE etR wr.drew ⟨x.b,x.v,ps⟩ hxw.len
    have bD:Below wr.heap.size wr wr.drew:=below_drawn 1
    have b3:Below wr.drew.heap.size wr.drew w3:=by rw[hw3];exact below_alloc _ _
    have b4:Below wr.drew.heap.size wr.drew w4:=by rw[hw4];exact below_alloc _ _
    have HL4:Hid (LAt 241 w4 g (ecells ⟨x.b,x.v,ps⟩)):=by rw[hw4,hg];exact LAt.new _ _ _
    have HS1:Hid (MIn wr.drew (some ⟨b1,o1,none⟩) m l):=hMr.later bD
    have HS2:Hid (MIn w3 (some ⟨b1,o1,none⟩) m l):=HS1.out.later b3
    have HS3:Hid (MIn w4 (some ⟨b1,o1,none⟩) m l):=HS1.out.later b4
    have HW4:Hid (RWrt w w4 R n v vD D s p):=by rw[hD];exact HW.out.later (below_then bD b4)
    have HA4:Hid (RAt w4 R n vD D s p):=HW4.out.at'
    have y1:=HA4.out.c1
    obtain ⟨qD,cD,rfl,hE,hcD⟩:=HA4.out.ein HOD.out.wf
    have HE:Hid (EIn w4 qD D.length D):=hE
    have i1:(k:Int)<(m:Int):=by omega
    have i0:(0:Int)≤(k:Int):=by omega
    clear hw3 hw4 hg bD b3 b4 hx hxw hMr HW hD hE hcD
    go_wp2_with fail
    refine wp_region_noPanic ?_
    refine wp_region_held_drew (S:=fun W=>MIn W (some ⟨b1,o1,none⟩) m l) (by kernel_rfl) HS1.out (fun hHeld=>?_)
    generalize wr.drew=wD at *
    refine tk 0 hHeld ?_
    refine tk 1 hHeld ?_
    refine tk 2 hHeld ?_
    refine tk 3 hHeld ?_
    refine tkl 4 hHeld (fun _ hSw=>MIn.c0 hSw HX.out) ?_
    refine tk 5 hHeld ?_
    refine tk 6 hHeld ?_
    refine tk 7 hHeld ?_
    refine tk 8 hHeld ?_
    refine wpAnyH_take (i:=9) (v:=_) (by simp;rfl) (by kernel_rfl) (by kernel_rfl) (by kernel_rfl) (fun _ _ _ h=>h) (yields_load_is (x:=.tmp 34) (p:=.pointer (some ⟨b1,o1+k*33+1,none⟩)) (v:=.agg (U8 x.v).toArray) (by rfl) 51 rfl rfl (fun W hW=>MIn.loadv hW HX.out)) hHeld ?_
    simp only[Act.put,zA,zB,zC]
    refine tk 10 hHeld ?_
    refine wpAnyH_take (i:=11) (v:=_) (by simp;rfl) (by kernel_rfl) (by kernel_rfl) (by kernel_rfl) (fun _ _ _ h=>h) (yields_build_is (vs:=[(0,.int .i64 x.b),(1,.agg (U8 x.v).toArray),(2,.int .u64 ps)]) (by rfl) 241 rfl (by rfl) (fun w=>buildE etR w x.b x.v ps HXW.out.len)) hHeld ?_
    simp only[Act.put,zA,zB,zC]
    refine wpAnyH_ready (rs:=[12]) (by kernel_rfl) (by simp) ?_
    refine AllReadyH.cons (by simp;rfl) (fun Kc hKc=>?_) AllReadyH.nil
    refine step_alloc_is (by rfl) 241 rfl HAL.out ?_
    refine hKc.out _ _ HS2.out (fun hHeld=>?_)
    clear hKc Kc
    simp only[Act.put,zA,zB,zC]
    refine wpAnyH_ready (rs:=[13]) (by kernel_rfl) (by simp) ?_
    refine AllReadyH.cons (by simp;rfl) (fun Kc hKc=>?_) AllReadyH.nil
    refine step_store_is (by rfl) 241 rfl rfl rfl HST.out ?_
    refine hKc.out _ _ HS3.out (fun hHeld=>?_)
    clear hKc Kc
    simp only[Act.put]
    refine wpAnyH_done (by kernel_rfl) (NoPanic.normal ?_) _
    clear hHeld HS1 HS2 HS3 HAL HST
    go_wp2_with fail
    go_loopw [10,11] (fun v v2 W=>∃(j m2:Nat) (p2:Option Addr) (c2:Nat),v=.slice p2 m2 c2∧v2=.int .i64 (j:Int)∧j≤D.length∧Hid (Ga w4 W (.slice p2 m2 c2) m2 (([]:List En)++(D.take j).filter (fun z:En=>decide (z.b<x.b))))) (fun _ v _=>D.length-(intOf v).toNat)
    case atStart=>exact⟨0,0,none,0,rfl,rfl,by omega,(Ga.nil w4:Ga w4 w4 (.slice none 0 0) 0 (([]:List En)++(D.take 0).filter (fun z:En=>decide (z.b<x.b))))⟩
    case round =>
     obtain ⟨j,m2,p2,c2,rfl,rfl,hj,HG⟩:=hrel
     by_cases hjl:j<D.length
     ·obtain ⟨y,hy,hyw⟩:=HE.out.len_lt hjl
      obtain ⟨b2,o2,rfl,-⟩:=HE.out.cells (by omega)
      have HGt:Hid (∀t,Ga w4 (wr.drewN t) (.slice p2 m2 c2) m2 (([]:List En)++(D.take j).filter (fun z:En=>decide (z.b<x.b)))):=fun t=>HG.out.later (below_drawn _)
      have y1:=(HA4.out.later HG.out.below).c1
      have t1:∀t,(wr.drewN t).cell? ⟨R,1,none⟩=some (.slice (some ⟨b2,o2,none⟩) D.length cD):=fun t=>y1
      have t2:∀t,(wr.drewN t).cell? ⟨b2,o2+j*34,none⟩=some (.int .i64 y.b):=fun t=>(HE.out.later HG.out.below).c0 hy
      have t3:∀t,(wr.drewN t).cell? ⟨g,0,none⟩=some (.int .i64 x.b):=fun t=>LAt.cell (LAt.later HL4.out (HGt.out t).below) 0
      have HLt:Hid (∀t,(Instr.loadAt 241 (.pointer (some ⟨b2,o2+j*34,none⟩))).run prog (wr.drewN t)=.ok (.agg (ecells y).toArray) (wr.drewN t)):=fun t=>EIn.load etR (HE.out.later (HGt.out t).below) hy
      have i1:(j:Int)<(D.length:Int):=by omega
      have hm64:m2≤200:=by
       have:=HG.out.len
       rw[List.length_append] at this
       have h2:=List.length_filter_le (fun z:En=>decide (z.b<x.b)) (D.take j)
       rw[List.length_take] at h2
       have h3:(([]:List En)).length≤100:=by simp
       omega
      have HY:Hid (D[j]?=some y∧y.Wf):=⟨hy,hyw⟩
      clear hy hyw HG
      by_cases hc:y.b<x.b
      ·have HP:(fun z:En=>decide (z.b<x.b)) y=true:=decide_eq_true hc
       go_wp2_with fail
       go_quiet (fail)
       have HGq:=HGt.out nq
       have HLq:Hid ((Instr.loadAt 241 (.pointer (some ⟨b2,o2+j*34,none⟩))).run prog (wr.drewN nq)=.ok (.agg (ecells y).toArray) (wr.drewN nq)):=HLt.out nq
       have t1q:=t1 nq
       obtain ⟨q',c',W',hap,hg⟩:=HGq.app HY.out.2 (by omega)
       have HBS:Hid ((Instr.buildSlice 160 1 #[(0,.agg (ecells y).toArray)]).run prog (wr.drewN nq)=.ok (.slice (some ⟨(wr.drewN nq).heap.size,0,none⟩) 1 1) ((wr.drewN nq).alloc (.cells (ecells y).toArray 241))):=build_en etR _ y HY.out.2.len
       have HAP:Hid ((Builtin.append_ #[160,160] 160 #[.slice p2 m2 c2,.slice (some ⟨(wr.drewN nq).heap.size,0,none⟩) 1 1]).run prog ((wr.drewN nq).alloc (.cells (ecells y).toArray 241))=.ok (.slice q' (m2+1) c') W'):=hap
       have HG2:Hid (Ga w4 W' (.slice q' (m2+1) c') (m2+1) (([]:List En)++(D.take (j+1)).filter (fun z:En=>decide (z.b<x.b)))):=by show Ga _ _ _ _ _;rw[filter_yes HY.out.1 HP,← List.append_assoc];exact hg
       clear hap hg HGq HGt HLt t1 t2 HP
       generalize wr.drewN nq=wq at *
       go_wp2_with ((with_reducible refine at_ops ?_);(first | (refine wpList_load_is (by rfl) 241 rfl rfl HLq.out ?_) | (refine wpList_slice_is (u:=.agg (ecells y).toArray) (by rfl) 160 rfl rfl HBS.out ?_) | (refine wpList_append_is (u1:=.slice p2 m2 c2) (u2:=.slice (some ⟨wq.heap.size,0,none⟩) 1 1) (by rfl) rfl rfl rfl rfl HAP.out ?_));simp only[Act.put,zA,zB,zC])
       go_roundw
       case rel=>exact⟨j+1,m2+1,q',c',rfl,by congr 1,by omega,HG2⟩
       case measure=>simp[intOf];omega
      ·have HP:(fun z:En=>decide (z.b<x.b)) y=false:=decide_eq_false hc
       go_wp2_with fail
       go_quiet (fail)
       have HG2:Hid (Ga w4 (wr.drewN nq) (.slice p2 m2 c2) m2 (([]:List En)++(D.take (j+1)).filter (fun z:En=>decide (z.b<x.b)))):=by show Ga _ _ _ _ _;rw[filter_no HY.out.1 HP];exact HGt.out nq
       clear HGt HLt t1 t2 HP
       generalize wr.drewN nq=wq at *
       go_wp2_with fail
       go_roundw
       case rel=>exact⟨j+1,m2,p2,c2,rfl,by congr 1,by omega,HG2⟩
       case measure=>simp[intOf];omega
     ·have HG2:Hid (Ga w4 wr (.slice p2 m2 c2) m2 (([]:List En)++D.filter (fun z:En=>decide (z.b<x.b)))):=by
       have:=HG.out
       rw[List.take_of_length_le (by omega)] at this
       exact this
      have y1:=(HA4.out.later HG.out.below).c1
      clear HG
      obtain ⟨q',c',W',hap,hg⟩:=HG2.out.app HXW.out (by have:=HG2.out.len;have h2:=List.length_filter_le (fun z:En=>decide (z.b<x.b)) D;simp at this;omega)
      have HLX:Hid ((Instr.loadAt 241 (.pointer (some ⟨g,0,none⟩))).run prog wr=.ok (.agg (ecells ⟨x.b,x.v,ps⟩).toArray) wr):=LAt.loadE etR (LAt.later HL4.out HG2.out.below) HXW.out.len
      have HBS:Hid ((Instr.buildSlice 160 1 #[(0,.agg (ecells ⟨x.b,x.v,ps⟩).toArray)]).run prog wr=.ok (.slice (some ⟨wr.heap.size,0,none⟩) 1 1) (wr.alloc (.cells (ecells ⟨x.b,x.v,ps⟩).toArray 241))):=build_en etR _ _ HXW.out.len
      have HAP:Hid ((Builtin.append_ #[160,160] 160 #[.slice p2 m2 c2,.slice (some ⟨wr.heap.size,0,none⟩) 1 1]).run prog (wr.alloc (.cells (ecells ⟨x.b,x.v,ps⟩).toArray 241))=.ok (.slice q' (m2+1) c') W'):=hap
      have HGo:Hid (Ga w4 W' (.slice q' (m2+1) c') (m2+1) (D.filter (fun z:En=>decide (z.b<x.b))++[⟨x.b,x.v,ps⟩])):=by have:=hg;rw[List.nil_append] at this;exact this
      have HLn:Hid ((D.filter (fun z:En=>decide (z.b<x.b))++[(⟨x.b,x.v,ps⟩:En)]).length≤100):=by have h2:=List.length_filter_le (fun z:En=>decide (z.b<x.b)) D;show _≤_;simp;omega
      clear hap hg HG2
      go_wp2_with ((with_reducible refine at_ops ?_);(first | (refine wpList_load_is (by rfl) 241 rfl rfl HLX.out ?_) | (refine wpList_slice_is (u:=.agg (ecells ⟨x.b,x.v,ps⟩).toArray) (by rfl) 160 rfl rfl HBS.out ?_) | (refine wpList_append_is (u1:=.slice p2 m2 c2) (u2:=.slice (some ⟨wr.heap.size,0,none⟩) 1 1) (by rfl) rfl rfl rfl rfl HAP.out ?_));simp only[Act.put,zA,zB,zC])
      clear hjl HLX HBS HAP y1
      go_loopw [10,12] (fun v v2 W=>∃(j m2:Nat) (p2:Option Addr) (c2:Nat),v=.slice p2 m2 c2∧v2=.int .i64 (j:Int)∧j≤D.length∧Hid (Ga w4 W (.slice p2 m2 c2) m2 ((D.filter (fun z:En=>decide (z.b<x.b))++[(⟨x.b,x.v,ps⟩:En)])++(D.take j).filter (fun z:En=>decide (x.b<z.b))))) (fun _ v _=>D.length-(intOf v).toNat)
      case atStart=>exact⟨0,m2+1,q',c',rfl,rfl,by omega,(by rw[List.take_zero,List.filter_nil,List.append_nil];exact HGo.out:Ga w4 W' (.slice q' (m2+1) c') (m2+1) ((D.filter (fun z:En=>decide (z.b<x.b))++[(⟨x.b,x.v,ps⟩:En)])++(D.take 0).filter (fun z:En=>decide (x.b<z.b))))⟩
      case round =>
       obtain ⟨j,m2,p2,c2,rfl,rfl,hj,HG⟩:=hrel
       by_cases hjl:j<D.length
       ·obtain ⟨y,hy,hyw⟩:=HE.out.len_lt hjl
        obtain ⟨b2,o2,rfl,-⟩:=HE.out.cells (by omega)
        have HGt:Hid (∀t,Ga w4 (wr.drewN t) (.slice p2 m2 c2) m2 ((D.filter (fun z:En=>decide (z.b<x.b))++[(⟨x.b,x.v,ps⟩:En)])++(D.take j).filter (fun z:En=>decide (x.b<z.b)))):=fun t=>HG.out.later (below_drawn _)
        have y1:=(HA4.out.later HG.out.below).c1
        have t1:∀t,(wr.drewN t).cell? ⟨R,1,none⟩=some (.slice (some ⟨b2,o2,none⟩) D.length cD):=fun t=>y1
        have t2:∀t,(wr.drewN t).cell? ⟨b2,o2+j*34,none⟩=some (.int .i64 y.b):=fun t=>(HE.out.later HG.out.below).c0 hy
        have t3:∀t,(wr.drewN t).cell? ⟨g,0,none⟩=some (.int .i64 x.b):=fun t=>LAt.cell (LAt.later HL4.out (HGt.out t).below) 0
        have HLt:Hid (∀t,(Instr.loadAt 241 (.pointer (some ⟨b2,o2+j*34,none⟩))).run prog (wr.drewN t)=.ok (.agg (ecells y).toArray) (wr.drewN t)):=fun t=>EIn.load etR (HE.out.later (HGt.out t).below) hy
        have i1:(j:Int)<(D.length:Int):=by omega
        have hm64:m2≤200:=by
         have:=HG.out.len
         rw[List.length_append] at this
         have h2:=List.length_filter_le (fun z:En=>decide (x.b<z.b)) (D.take j)
         rw[List.length_take] at h2
         have h3:((D.filter (fun z:En=>decide (z.b<x.b))++[(⟨x.b,x.v,ps⟩:En)])).length≤100:=HLn.out
         omega
        have HY:Hid (D[j]?=some y∧y.Wf):=⟨hy,hyw⟩
        clear hy hyw HG
        by_cases hc:x.b<y.b
        ·have HP:(fun z:En=>decide (x.b<z.b)) y=true:=decide_eq_true hc
         go_wp2_with fail
         go_quiet (fail)
         have HGq:=HGt.out nq
         have HLq:Hid ((Instr.loadAt 241 (.pointer (some ⟨b2,o2+j*34,none⟩))).run prog (wr.drewN nq)=.ok (.agg (ecells y).toArray) (wr.drewN nq)):=HLt.out nq
         have t1q:=t1 nq
         obtain ⟨q',c',W',hap,hg⟩:=HGq.app HY.out.2 (by omega)
         have HBS:Hid ((Instr.buildSlice 160 1 #[(0,.agg (ecells y).toArray)]).run prog (wr.drewN nq)=.ok (.slice (some ⟨(wr.drewN nq).heap.size,0,none⟩) 1 1) ((wr.drewN nq).alloc (.cells (ecells y).toArray 241))):=build_en etR _ y HY.out.2.len
         have HAP:Hid ((Builtin.append_ #[160,160] 160 #[.slice p2 m2 c2,.slice (some ⟨(wr.drewN nq).heap.size,0,none⟩) 1 1]).run prog ((wr.drewN nq).alloc (.cells (ecells y).toArray 241))=.ok (.slice q' (m2+1) c') W'):=hap
         have HG2:Hid (Ga w4 W' (.slice q' (m2+1) c') (m2+1) ((D.filter (fun z:En=>decide (z.b<x.b))++[(⟨x.b,x.v,ps⟩:En)])++(D.take (j+1)).filter (fun z:En=>decide (x.b<z.b)))):=by show Ga _ _ _ _ _;rw[filter_yes HY.out.1 HP,← List.append_assoc];exact hg
         clear hap hg HGq HGt HLt t1 t2 HP
         generalize wr.drewN nq=wq at *
         go_wp2_with ((with_reducible refine at_ops ?_);(first | (refine wpList_load_is (by rfl) 241 rfl rfl HLq.out ?_) | (refine wpList_slice_is (u:=.agg (ecells y).toArray) (by rfl) 160 rfl rfl HBS.out ?_) | (refine wpList_append_is (u1:=.slice p2 m2 c2) (u2:=.slice (some ⟨wq.heap.size,0,none⟩) 1 1) (by rfl) rfl rfl rfl rfl HAP.out ?_));simp only[Act.put,zA,zB,zC])
         go_roundw
         case rel=>exact⟨j+1,m2+1,q',c',rfl,by congr 1,by omega,HG2⟩
         case measure=>simp[intOf];omega
        ·have HP:(fun z:En=>decide (x.b<z.b)) y=false:=decide_eq_false hc
         go_wp2_with fail
         go_quiet (fail)
         have HG2:Hid (Ga w4 (wr.drewN nq) (.slice p2 m2 c2) m2 ((D.filter (fun z:En=>decide (z.b<x.b))++[(⟨x.b,x.v,ps⟩:En)])++(D.take (j+1)).filter (fun z:En=>decide (x.b<z.b)))):=by show Ga _ _ _ _ _;rw[filter_no HY.out.1 HP];exact HGt.out nq
         clear HGt HLt t1 t2 HP
         generalize wr.drewN nq=wq at *
         go_wp2_with fail
         go_roundw
         case rel=>exact⟨j+1,m2,p2,c2,rfl,by congr 1,by omega,HG2⟩
         case measure=>simp[intOf];omega
       ·have HG2:Hid (Ga w4 wr (.slice p2 m2 c2) m2 ((D.filter (fun z:En=>decide (z.b<x.b))++[(⟨x.b,x.v,ps⟩:En)])++D.filter (fun z:En=>decide (x.b<z.b)))):=by
         have:=HG.out
         rw[List.take_of_length_le (by omega)] at this
         exact this
        have y1:=(HA4.out.later HG.out.below).c1
        clear HG
        have HN:Hid (RWrt w4 (wr.setCell ⟨R,1,none⟩ (.slice p2 m2 c2)) R n (.slice qD D.length cD) (.slice p2 m2 c2) (layE D ⟨x.b,x.v,ps⟩) s p):=RWrt.row HA4.out HG2.out.below HG2.out.own
        have HF:Hid (wr.frozen? ⟨R,1,none⟩=false):=(HA4.out.later HG2.out.below).free 1
        have f1:=HF.out
        have HW5:Hid (RWrt w (wr.setCell ⟨R,1,none⟩ (.slice p2 m2 c2)) R n v (.slice p2 m2 c2) (lays L (l.take (k+1)) ps) s p):=by
         show RWrt _ _ _ _ _ _ _ _ _
         rw[HTK.out,lays_snoc,← HD.out];exact HW4.out.trans HN.out
        clear HN HG2 HF
        go_wp2_with fail
        go_roundw
        case rel=>exact⟨k+1,_,by congr 1,by omega,HW5⟩
        case measure=>simp[intOf];omega
   ·have HW2:Hid (RWrt w wr R n v vD (lays L l ps) s p):=by
     have:=HW.out
     rw[List.take_of_length_le (by rw[HL.out];omega)] at this
     exact this
    have f2:=HW2.out.at'.free 2
    have q2:=HW2.out.at'.c2
    have HW3:Hid (RWrt w (wr.setCell ⟨R,2,none⟩ (.bool true)) R n v vD (lays L l ps) true p):=HW2.out.some
    have f3:=HW3.out.at'.free 3
    have q3:=HW3.out.at'.c3
    have HW4:Hid (RWrt w ((wr.setCell ⟨R,2,none⟩ (.bool true)).setCell ⟨R,3,none⟩ (.int .u64 ps)) R n v vD (lays L l ps) true ps):=HW3.out.last
    clear HW HW2 HW3
    go_wp2
    go_ret
    refine⟨by rw[HE.out];rfl,vD,?_⟩
    rw[HY.out.1,HY.out.2.1,HY.out.2.2]
    exact HW4.out
 ·have HN:Hid (putL n L (nxR s p) l ps=L∧putS n s p l ps=s∧putP n s p l ps=p):=⟨if_neg he,if_neg he,if_neg he⟩
  have hne:(putE n (nxR s p) l ps != 0)=true:=by rw[bne_iff_ne];exact he
  clear he
  go_wp2
  go_ret
  refine⟨rfl,v,?_⟩
  rw[HN.out.1,HN.out.2.1,HN.out.2.2]
  exact RWrt.below HA.out HB1.out
end
end Go.Proofs.YtcdjepkhdjpjcaaGreatDoor.C
