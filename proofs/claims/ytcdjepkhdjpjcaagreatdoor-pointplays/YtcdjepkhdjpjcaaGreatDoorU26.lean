import Derived.Test.YtcdjepkhdjpjcaaGreatDoorU25
set_option maxHeartbeats 20000000
set_option maxRecDepth 100000
namespace Go.Proofs.Zq.C
open Go.Proofs.Tryz
open Go.RowKit
structure jd (w w':World) (R:Nat) (n:Int) (v v':Value) (L':List En) (s':Bool) (p':Int):Prop where
 at':gG w' R n v' L' s' p'
 kept:E.Kept (fun k=>k=R\/v.ownBlock=some k) w w'
 new:∀g,v'.ownBlock=some g->v.ownBlock=some g\/w.heap.size<=g
section
variable {w w':World} {R:Nat} {n p:Int} {v:Value} {L:List En} {s:Bool}
theorem jd.refl(h:gG w R n v L s p):jd w w R n v v L s p:=⟨h,E.Kept.refl _ _,fun _ h=>.inl h⟩
theorem jd.below(h:gG w R n v L s p)(hb:Below w.heap.size w w'):jd w w' R n v v L s p:=⟨h.later hb,E.Kept.bP _ hb,fun _ h=>.inl h⟩
theorem jd.trans{w1 w2:World}{v1 v2:Value}{L1 L2:List En}{s1 s2:Bool}{p1 p2:Int}(h:jd w w1 R n v v1 L1 s1 p1)(k:jd w1 w2 R n v1 v2 L2 s2 p2):jd w w2 R n v v2 L2 s2 p2 :=
 ⟨k.at',h.kept.trans k.kept (fun x hx e=>e.elim .inl fun e=>(h.new x e).elim .inr fun e=>by omega),fun g hg=>(k.new g hg).elim (fun e=>h.new g e) fun e=>.inr (bJ h.kept.size e)⟩
theorem jd.later{w1 w2:World}{v1:Value}{L1:List En}{s1:Bool}{p1:Int}(h:jd w w1 R n v v1 L1 s1 p1)(hb:Below w1.heap.size w1 w2):jd w w2 R n v v1 L1 s1 p1:=h.trans (jd.below h.at' hb)
theorem gG.lay{W:World}{v':Value}{L':List En}(st:W.heap[R]?=some (.cells #[.int .i64 n,v,.bool s,.int .u64 p] 219 (0,0)))(hr:eU 241 W 0 v' L'):gG (W.setCell ⟨R,1,none⟩ v') R n v' L' s p:=by
 refine⟨?_,E.eB hr (E.Kept.setCell (w:=W) R 1 v') (fun g hg e=>O.zZ hr st (by decide) (by rw[hg];exact congrArg some e))⟩;rw[bM W R 1 _ 219 (0,0) v' st];exact cK W R _ _ 219 _ st
theorem gG.some{W:World}{s':Bool}(h:gG W R n v L s p):gG (W.setCell ⟨R,2,none⟩ (.bool s')) R n v L s' p:=by
 refine⟨?_,E.eB h.row (E.Kept.setCell (w:=W) R 2 _) (fun g hg e=>h.ne (by rw[hg];exact congrArg Option.some e))⟩;rw[bM W R 2 _ 219 (0,0) _ h.st];exact cK W R _ _ 219 _ h.st
theorem gG.last{W:World}{p':Int}(h:gG W R n v L s p):gG (W.setCell ⟨R,3,none⟩ (.int .u64 p')) R n v L s p':=by
 refine⟨?_,E.eB h.row (E.Kept.setCell (w:=W) R 3 _) (fun g hg e=>h.ne (by rw[hg];exact congrArg Option.some e))⟩;rw[bM W R 3 _ 219 (0,0) _ h.st];exact cK W R _ _ 219 _ h.st
theorem jd.row{w1:World}{v':Value}{L':List En}(h:gG w R n v L s p)(hb:Below w.heap.size w w1)(hO:eU 241 w1 w.heap.size v' L'):jd w (w1.setCell ⟨R,1,none⟩ v') R n v v' L' s p :=
 ⟨gG.lay (h.later hb).st (eH hO (aI _)),(E.Kept.bP _ hb).trans (E.Kept.setCell R 1 v') (fun _ _ e=>.inl e),fun g hg=>.inr (hO.lt g hg).1⟩
theorem jd.some{w1:World}{v1:Value}{L1:List En}{s1 s2:Bool}{p1:Int}(h:jd w w1 R n v v1 L1 s1 p1):jd w (w1.setCell ⟨R,2,none⟩ (.bool s2)) R n v v1 L1 s2 p1:=⟨h.at'.some,h.kept.trans (E.Kept.setCell R 2 _) (fun _ _ e=>.inl e),h.new⟩
theorem jd.last{w1:World}{v1:Value}{L1:List En}{s1:Bool}{p1 p2:Int}(h:jd w w1 R n v v1 L1 s1 p1):jd w (w1.setCell ⟨R,3,none⟩ (.int .u64 p2)) R n v v1 L1 s1 p2:=⟨h.at'.last,h.kept.trans (E.Kept.setCell R 3 _) (fun _ _ e=>.inl e),h.new⟩
structure Ga (w W:World) (v:Value) (m:Nat) (l:List En):Prop where
 own:eU 241 W w.heap.size v l
 below:Below w.heap.size w W
 len:m=l.length
 wf:dW l
theorem Ga.later{W W':World}{l:List En}{m:Nat}(h:Ga w W v m l)(hb:Below W.heap.size W W'):Ga w W' v m l:=⟨E.dD h.own hb,ah h.below hb,h.len,h.wf⟩
theorem Ga.nil(w:World):Ga w w (.slice none 0 0) 0 []:=⟨cq _ _ _ _,aV _ _,rfl,dW.nil⟩
theorem Ga.app{W:World}{l:List En}{q:Option Addr}{m c:Nat}(h:Ga w W (.slice q m c) m l){x:En}(hx:x.Wf)(hm:m<=9000):∃q' c' W',(Builtin.append_ #[160,160] 160 #[.slice q m c,.slice (some ⟨W.heap.size,0,none⟩) 1 1]).run prog (W.alloc (.cells (aB x).toArray 241))=.ok (.slice q' (m+1) c') W'/\Ga w W' (.slice q' (m+1) c') (m+1) (l++[x]):=by
 have bB:=ag W (.cells (aB x).toArray 241);have k:=h.later bB;have hl:=h.len;subst hl;obtain ⟨q',c',W',nN,ho,hg,lf⟩:=abm Dm (c:=1) k.own h.wf (ZV (bE.new 241 W (aB x)) hx) (by omega) (by omega) k.below.size;exact⟨q',c',W',nN,ho,(E.rG hg).uR k.below (fun b hb e=>by have:=(k.own.lt b e).1;omega) (az _),by simp,h.wf.snoc hx⟩
theorem rI{P:En->Bool}{D:List En}{j:Nat}{y:En}(hy:D[j]?=some y)(h:P y=true):(D.take (j+1)).filter P=(D.take j).filter P++[y]:=by rw[ru hy,List.filter_append];simp[h]
theorem yF{P:En->Bool}{D:List En}{j:Nat}{y:En}(hy:D[j]?=some y)(h:P y=false):(D.take (j+1)).filter P=(D.take j).filter P:=by rw[ru hy,List.filter_append];simp[h]
theorem uD.Ox{w:World}{b o n:Nat}{l:List Im}(h:uD w (some ⟨b,o,none⟩) n l){k:Nat}{i:Im}(hk:l[k]?=some i):(Instr.loadAt 51 (.pointer (some ⟨b,o+k*33+1,none⟩))).run prog w=.ok (.agg (U8 i.v).toArray) w :=
 b_ w b (o+k*33+1) 51 (U8 i.v) _ (fun j u hj=>by have:=h.at hk (j+1) u (by simpa [dO] using hj);rw[show o+k*33+1+j=o+k*33+(j+1) by omega];exact this) gw rfl (by rw[vZ,aX,(h.wf i (bt hk)).len])
theorem gK{P:Program}{ops:Array Oper}{o:Oper}{a:Act}{w w':World}{K:Act->World->Prop}{Q:Exit->Act->World->Prop}{E:Prop}
  (hg:o.guard=none) (ty:TypeId) (ho:o.op=.alloc ty) {v:Value} (hr:(Instr.alloc ty true (.tuple #[])).run P w=.ok v w') (hK:K (a.put o.dst v) w') :
  if Region.wanted o (yielded ops a.tmps)=true then Oper.wp P o a w K Q else E:=by
 have hw:Region.wanted o (yielded ops a.tmps)=true:=by simp[Region.wanted,hg]
 rw[aE hw];have dM:(execOp a.eval o).run P w=.ok (.value v) w':=by unfold execOp;simp only[ho,aU,hr,aH,bQ]
 unfold Oper.wp;rw[dM];exact hK
def Fs (n:Int)(s:Bool)(p:Int)(l:List Im)(ps:Int):Bool:=if ji n (rW s p) l ps=0 then true else s
def zn (n:Int)(s:Bool)(p:Int)(l:List Im)(ps:Int):Int:=if ji n (rW s p) l ps=0 then ps else p
theorem NV(h:gG w R n v L s p)(hk:t_ n L (rW s p))(hp:0<=p/\p<=4611686018427387904){q:Option Addr}{m c:Nat}{l:List Im}(hM:uD w q m l)(hm:m<=140737488355328)(yq:∀a,q=some a->0<m->¬(a.block=R\/v.ownBlock=some a.block)){ps:Int}(Yz:0<=ps/\ps<18446744073709551616):Calls prog 133 #[.pointer (some ⟨R,0,none⟩),.slice q m c,.int .u64 ps] w fun e w'=>e=.returned (.int .i64 (ji n (rW s p) l ps))/\∃v',jd w w' R n v v' (CZ n L (rW s p) l ps) (Fs n s p l ps) (zn n s p l ps):=by
 have HA:=zH h;have HK:=zH hk;have HM:=zH hM;have Tr:=zH yq;have aej:=Yz.1;have aei:=Yz.2;go_enter func133,ntmps133;go_wp2_with fail;refine (tN HA.out hp HM.out hm Yz).mono ?_;rintro e w1 ⟨rfl,b1⟩;have gj:=zH b1;clear b1 h hk hM yq hp Yz;by_cases he:ji n (rW s p) l ps=0
 ·have HE:=zH he;have HY:Hid (CZ n L (rW s p) l ps=lays L l ps/\Fs n s p l ps=true/\zn n s p l ps=ps):=⟨aE he,aE he,aE he⟩
  have HO:Hid (l.any (jC n)=false):=by
   cases k:l.any (jC n) with
   | false=>exact rfl
   | true=>rw[oL k] at he;cases he
  have HL:=zH HM.out.len;have CM:Hid (∀k,t_ n (lays L (l.take k) ps) (rW s p)):=fun k=>HK.out.lays ⟨aej,aei⟩ _ (fun x hx=>HM.out.wf x (eY hx)) (fun i hi=>by simpa using qd.1 HO.out i (eY hi));rw[he];go_wp2_with fail
  go_loopw [8] (fun u W=>∃(k:Nat) (vD:Value),u=.int .i64 (k:Int)/\k<=m/\Hid (jd w W R n v vD (lays L (l.take k) ps) s p)) (fun u _=>m-(intOf u).toNat)
  case atStart=>exact⟨0,v,rfl,by omega,(by rw[jy];exact jd.below HA.out gj.out:jd w w1 R n v v (lays L (l.take 0) ps) s p)⟩
  case round =>
   obtain ⟨k,vD,rfl,hk,HW⟩:=hrel;by_cases eP:k<m
   ·obtain ⟨x,hx⟩:∃x,l[k]?=some x:=⟨_,ay (by rw[HL.out];omega)⟩
    obtain ⟨b1,o1,e1,-⟩:=HM.out.cells (by omega);have OZ:uD wr q m l:=HM.out.mO HW.out.kept Tr.out;subst e1;have yo:x.Wf:=OZ.wf x (bt hx);have Yc:Hid (l.take (k+1)=l.take k++[x]):=by
     show _=_;obtain ⟨kN,ex⟩:=aA.1 hx;rw[bw kN,ex]
    have HX:=zH hx;have HXW:Hid (En.Wf ⟨x.b,x.v,ps⟩):=⟨yo.b,yo.len,yo.byte,aej,aei⟩
    obtain ⟨D,hD⟩:∃D,D=lays L (l.take k) ps:=⟨_,rfl⟩
    have HD:=zH hD;have HOD:Hid (t_ n D (rW s p)):=by rw[hD];exact CM.out k
    have amB:=HOD.out.nR;obtain ⟨w3,jM⟩:∃w3,w3=wr.drew.alloc (.cells (aB lN).toArray 241):=⟨_,rfl⟩
    obtain ⟨w4,nU⟩:∃w4,w4=wr.drew.alloc (.cells (aB ⟨x.b,x.v,ps⟩).toArray 241):=⟨_,rfl⟩
    obtain ⟨g,hg⟩:∃g,g=wr.drew.heap.size:=⟨_,rfl⟩
    have jw:Hid ((Instr.alloc 241 true (.tuple #[])).run prog wr.drew=.ok (.pointer (some ⟨g,0,none⟩)) w3):=by rw[jM,hg];exact nj Dm wr.drew
    have jf:Hid ((Instr.storeAt 241 (.pointer (some ⟨g,0,none⟩)) (.agg (aB ⟨x.b,x.v,ps⟩).toArray)).run prog w3=.ok () w4):=by rw[jM,nU,hg];exact gX Dm wr.drew ⟨x.b,x.v,ps⟩ yo.len
    have bD:Below wr.heap.size wr wr.drew:=av 1;have b3:Below wr.drew.heap.size wr.drew w3:=by rw[jM];exact ag _ _
    have b4:Below wr.drew.heap.size wr.drew w4:=by rw[nU];exact ag _ _
    have YR:Hid (bE 241 w4 g (aB ⟨x.b,x.v,ps⟩)):=by rw[nU,hg];exact bE.new _ _ _
    have Nv:Hid (uD wr.drew (some ⟨b1,o1,none⟩) m l):=OZ.later bD;have zM:=zH (Nv.out.later b3);have EY:=zH (Nv.out.later b4);have CA:Hid (jd w w4 R n v vD D s p):=by rw[hD];exact HW.out.later (ah bD b4)
    have GJ:=zH CA.out.at';have y1:=GJ.out.c1;obtain ⟨qD,cD,rfl,hE,hcD⟩:=GJ.out.GG HOD.out.wf;have HE:=zH hE;have i1:(k:Int)<(m:Int):=by omega
    have i0:(0:Int)<=(k:Int):=by omega
    clear jM nU hg bD b3 b4 hx yo OZ HW hD hE hcD;go_wp2_with fail;refine zR (fun W=>uD W (some ⟨b1,o1,none⟩) m l) Nv.out fun aa=>?_;generalize wr.drew=wD at *;refine gu 0 1 2 3 aa ?_;refine de 4 aa (fun _ fc=>uD.c0 fc HX.out) ?_;refine gu 5 6 7 8 aa ?_;refine dz (i:=9) (v:=_) (by simp;rfl) (by kernel_rfl) (by kernel_rfl) (by kernel_rfl) (fun _ _ _ h=>h) (oB (x:=.tmp 34) (p:=.pointer (some ⟨b1,o1+k*33+1,none⟩)) (v:=.agg (U8 x.v).toArray) (by rfl) 51 rfl rfl (fun W hW=>uD.Ox hW HX.out)) aa ?_;simp only[Act.put,zA,zB,zC];refine tk 10 aa ?_;refine dz (i:=11) (v:=_) (by simp;rfl) (by kernel_rfl) (by kernel_rfl) (by kernel_rfl) (fun _ _ _ h=>h) (jE (vs:=[(0,.int .i64 x.b),(1,.agg (U8 x.v).toArray),(2,.int .u64 ps)]) (by rfl) 241 rfl (by rfl) (fun w=>Xx Dm w x.b x.v ps HXW.out.len)) aa ?_;simp only[Act.put,zA,zB,zC];refine ck (rs:=[12]) (by kernel_rfl) (by simp) ?_;refine bu (by simp;rfl) (fun Kc aJ=>?_) bO;refine gK (by rfl) 241 rfl jw.out ?_;refine aJ.out _ _ zM.out (fun aa=>?_);clear aJ Kc;simp only[Act.put,zA,zB,zC];refine ck (rs:=[13]) (by kernel_rfl) (by simp) ?_;refine bu (by simp;rfl) (fun Kc aJ=>?_) bO;refine ff (by rfl) 241 rfl rfl rfl jf.out ?_;refine aJ.out _ _ EY.out (fun aa=>?_);clear aJ Kc;simp only[Act.put];refine zD ?_;clear aa Nv zM EY jw jf;go_wp2_with fail
    go_loopw [10,11] (fun v v2 W=>∃(j m2:Nat) (p2:Option Addr) (c2:Nat),v=.slice p2 m2 c2/\v2=.int .i64 (j:Int)/\j<=D.length/\Hid (Ga w4 W (.slice p2 m2 c2) m2 (([]:List En)++(D.take j).filter (fun z:En=>decide (z.b<x.b))))) (fun _ v _=>D.length-(intOf v).toNat)
    case atStart=>exact⟨0,0,none,0,rfl,rfl,by omega,(Ga.nil w4:Ga w4 w4 (.slice none 0 0) 0 (([]:List En)++(D.take 0).filter (fun z:En=>decide (z.b<x.b))))⟩
    case round =>
     obtain ⟨j,m2,p2,c2,rfl,rfl,hj,HG⟩:=hrel;by_cases Dg:j<D.length
     ·obtain ⟨y,hy,hyw⟩:=HE.out.FJ Dg;obtain ⟨b2,o2,rfl,-⟩:=HE.out.cells (by omega);have Aq:Hid (∀t,Ga w4 (wr.drewN t) (.slice p2 m2 c2) m2 (([]:List En)++(D.take j).filter (fun z:En=>decide (z.b<x.b)))):=fun t=>HG.out.later (av _);have y1:=(GJ.out.later HG.out.below).c1;have t1:∀t,(wr.drewN t).cell? ⟨R,1,none⟩=some (.slice (some ⟨b2,o2,none⟩) D.length cD):=fun t=>y1;have t2:∀t,(wr.drewN t).cell? ⟨b2,o2+j*34,none⟩=some (.int .i64 y.b):=fun t=>(HE.out.later HG.out.below).c0 hy;have t3:∀t,(wr.drewN t).cell? ⟨g,0,none⟩=some (.int .i64 x.b):=fun t=>bE.cell (bE.later YR.out (Aq.out t).below) 0;have SE:Hid (∀t,(Instr.loadAt 241 (.pointer (some ⟨b2,o2+j*34,none⟩))).run prog (wr.drewN t)=.ok (.agg (aB y).toArray) (wr.drewN t)):=fun t=>lC.load Dm (HE.out.later (Aq.out t).below) hy;have i1:(j:Int)<(D.length:Int):=by omega
      have ahs:m2<=200:=by
       have:=HG.out.len;rw[aO] at this;have h2:=mg (fun z:En=>decide (z.b<x.b)) (D.take j);rw[cr] at h2;have h3:(([]:List En)).length<=100:=by simp
       omega
      have HY:Hid (D[j]?=some y/\y.Wf):=⟨hy,hyw⟩
      clear hy hyw HG;by_cases hc:y.b<x.b
      ·have HP:(fun z:En=>decide (z.b<x.b)) y=true:=aP hc;go_wp2_with fail;go_quiet (fail);have Yj:=Aq.out nq;have HLq:Hid ((Instr.loadAt 241 (.pointer (some ⟨b2,o2+j*34,none⟩))).run prog (wr.drewN nq)=.ok (.agg (aB y).toArray) (wr.drewN nq)):=SE.out nq;have t1q:=t1 nq;obtain ⟨q',c',W',nN,hg⟩:=Yj.app HY.out.2 (by omega);have CO:Hid ((Instr.buildSlice 160 1 #[(0,.agg (aB y).toArray)]).run prog (wr.drewN nq)=.ok (.slice (some ⟨(wr.drewN nq).heap.size,0,none⟩) 1 1) ((wr.drewN nq).alloc (.cells (aB y).toArray 241))):=mE Dm _ y HY.out.2.len;have rQ:Hid ((Builtin.append_ #[160,160] 160 #[.slice p2 m2 c2,.slice (some ⟨(wr.drewN nq).heap.size,0,none⟩) 1 1]).run prog ((wr.drewN nq).alloc (.cells (aB y).toArray 241))=.ok (.slice q' (m2+1) c') W'):=nN;have jU:Hid (Ga w4 W' (.slice q' (m2+1) c') (m2+1) (([]:List En)++(D.take (j+1)).filter (fun z:En=>decide (z.b<x.b)))):=by show Ga _ _ _ _ _;rw[rI HY.out.1 HP,<-aS];exact hg
       clear nN hg Yj Aq SE t1 t2 HP;generalize wr.drewN nq=wq at *;go_wp2_with ((with_reducible refine aQ ?_);(first | (refine aK (by rfl) 241 rfl rfl HLq.out ?_) | (refine gW (u:=.agg (aB y).toArray) (by rfl) 160 rfl rfl CO.out ?_) | (refine ez (u1:=.slice p2 m2 c2) (u2:=.slice (some ⟨wq.heap.size,0,none⟩) 1 1) (by rfl) rfl rfl rfl rfl rQ.out ?_));simp only[Act.put,zA,zB,zC])
       go_roundw
       case rel=>exact⟨j+1,m2+1,q',c',rfl,by congr 1,by omega,jU⟩
       case measure=>simp[intOf];omega
      ·have HP:(fun z:En=>decide (z.b<x.b)) y=false:=aF hc;go_wp2_with fail;go_quiet (fail);have jU:Hid (Ga w4 (wr.drewN nq) (.slice p2 m2 c2) m2 (([]:List En)++(D.take (j+1)).filter (fun z:En=>decide (z.b<x.b)))):=by show Ga _ _ _ _ _;rw[yF HY.out.1 HP];exact Aq.out nq
       clear Aq SE t1 t2 HP;generalize wr.drewN nq=wq at *;go_wp2_with fail;go_roundw
       case rel=>exact⟨j+1,m2,p2,c2,rfl,by congr 1,by omega,jU⟩
       case measure=>simp[intOf];omega
     ·have jU:Hid (Ga w4 wr (.slice p2 m2 c2) m2 (([]:List En)++D.filter (fun z:En=>decide (z.b<x.b)))):=by
       have:=HG.out;rw[aL (by omega)] at this;exact this
      have y1:=(GJ.out.later HG.out.below).c1;clear HG;obtain ⟨q',c',W',nN,hg⟩:=jU.out.app HXW.out (by have:=jU.out.len;have h2:=mg (fun z:En=>decide (z.b<x.b)) D;simp at this;omega);have HLX:=zH (bE.yV Dm (bE.later YR.out jU.out.below) HXW.out.len);have CO:Hid ((Instr.buildSlice 160 1 #[(0,.agg (aB ⟨x.b,x.v,ps⟩).toArray)]).run prog wr=.ok (.slice (some ⟨wr.heap.size,0,none⟩) 1 1) (wr.alloc (.cells (aB ⟨x.b,x.v,ps⟩).toArray 241))):=mE Dm _ _ HXW.out.len;have rQ:=zH nN;have HGo:Hid (Ga w4 W' (.slice q' (m2+1) c') (m2+1) (D.filter (fun z:En=>decide (z.b<x.b))++[⟨x.b,x.v,ps⟩])):=by have:=hg;rw[bF] at this;exact this
      have HLn:Hid ((D.filter (fun z:En=>decide (z.b<x.b))++[(⟨x.b,x.v,ps⟩:En)]).length<=100):=by have h2:=mg (fun z:En=>decide (z.b<x.b)) D;show _<=_;simp;omega
      clear nN hg jU;go_wp2_with ((with_reducible refine aQ ?_);(first | (refine aK (by rfl) 241 rfl rfl HLX.out ?_) | (refine gW (u:=.agg (aB ⟨x.b,x.v,ps⟩).toArray) (by rfl) 160 rfl rfl CO.out ?_) | (refine ez (u1:=.slice p2 m2 c2) (u2:=.slice (some ⟨wr.heap.size,0,none⟩) 1 1) (by rfl) rfl rfl rfl rfl rQ.out ?_));simp only[Act.put,zA,zB,zC])
      clear Dg HLX CO rQ y1
      go_loopw [10,12] (fun v v2 W=>∃(j m2:Nat) (p2:Option Addr) (c2:Nat),v=.slice p2 m2 c2/\v2=.int .i64 (j:Int)/\j<=D.length/\Hid (Ga w4 W (.slice p2 m2 c2) m2 ((D.filter (fun z:En=>decide (z.b<x.b))++[(⟨x.b,x.v,ps⟩:En)])++(D.take j).filter (fun z:En=>decide (x.b<z.b))))) (fun _ v _=>D.length-(intOf v).toNat)
      case atStart=>exact⟨0,m2+1,q',c',rfl,rfl,by omega,(by rw[jy,List.filter_nil,jQ];exact HGo.out:Ga w4 W' (.slice q' (m2+1) c') (m2+1) ((D.filter (fun z:En=>decide (z.b<x.b))++[(⟨x.b,x.v,ps⟩:En)])++(D.take 0).filter (fun z:En=>decide (x.b<z.b))))⟩
      case round =>
       obtain ⟨j,m2,p2,c2,rfl,rfl,hj,HG⟩:=hrel;by_cases Dg:j<D.length
       ·obtain ⟨y,hy,hyw⟩:=HE.out.FJ Dg;obtain ⟨b2,o2,rfl,-⟩:=HE.out.cells (by omega);have Aq:Hid (∀t,Ga w4 (wr.drewN t) (.slice p2 m2 c2) m2 ((D.filter (fun z:En=>decide (z.b<x.b))++[(⟨x.b,x.v,ps⟩:En)])++(D.take j).filter (fun z:En=>decide (x.b<z.b)))):=fun t=>HG.out.later (av _);have y1:=(GJ.out.later HG.out.below).c1;have t1:∀t,(wr.drewN t).cell? ⟨R,1,none⟩=some (.slice (some ⟨b2,o2,none⟩) D.length cD):=fun t=>y1;have t2:∀t,(wr.drewN t).cell? ⟨b2,o2+j*34,none⟩=some (.int .i64 y.b):=fun t=>(HE.out.later HG.out.below).c0 hy;have t3:∀t,(wr.drewN t).cell? ⟨g,0,none⟩=some (.int .i64 x.b):=fun t=>bE.cell (bE.later YR.out (Aq.out t).below) 0;have SE:Hid (∀t,(Instr.loadAt 241 (.pointer (some ⟨b2,o2+j*34,none⟩))).run prog (wr.drewN t)=.ok (.agg (aB y).toArray) (wr.drewN t)):=fun t=>lC.load Dm (HE.out.later (Aq.out t).below) hy;have i1:(j:Int)<(D.length:Int):=by omega
        have ahs:m2<=200:=by
         have:=HG.out.len;rw[aO] at this;have h2:=mg (fun z:En=>decide (x.b<z.b)) (D.take j);rw[cr] at h2;have h3:((D.filter (fun z:En=>decide (z.b<x.b))++[(⟨x.b,x.v,ps⟩:En)])).length<=100:=HLn.out;omega
        have HY:Hid (D[j]?=some y/\y.Wf):=⟨hy,hyw⟩
        clear hy hyw HG;by_cases hc:x.b<y.b
        ·have HP:(fun z:En=>decide (x.b<z.b)) y=true:=aP hc;go_wp2_with fail;go_quiet (fail);have Yj:=Aq.out nq;have HLq:Hid ((Instr.loadAt 241 (.pointer (some ⟨b2,o2+j*34,none⟩))).run prog (wr.drewN nq)=.ok (.agg (aB y).toArray) (wr.drewN nq)):=SE.out nq;have t1q:=t1 nq;obtain ⟨q',c',W',nN,hg⟩:=Yj.app HY.out.2 (by omega);have CO:Hid ((Instr.buildSlice 160 1 #[(0,.agg (aB y).toArray)]).run prog (wr.drewN nq)=.ok (.slice (some ⟨(wr.drewN nq).heap.size,0,none⟩) 1 1) ((wr.drewN nq).alloc (.cells (aB y).toArray 241))):=mE Dm _ y HY.out.2.len;have rQ:Hid ((Builtin.append_ #[160,160] 160 #[.slice p2 m2 c2,.slice (some ⟨(wr.drewN nq).heap.size,0,none⟩) 1 1]).run prog ((wr.drewN nq).alloc (.cells (aB y).toArray 241))=.ok (.slice q' (m2+1) c') W'):=nN;have jU:Hid (Ga w4 W' (.slice q' (m2+1) c') (m2+1) ((D.filter (fun z:En=>decide (z.b<x.b))++[(⟨x.b,x.v,ps⟩:En)])++(D.take (j+1)).filter (fun z:En=>decide (x.b<z.b)))):=by show Ga _ _ _ _ _;rw[rI HY.out.1 HP,<-aS];exact hg
         clear nN hg Yj Aq SE t1 t2 HP;generalize wr.drewN nq=wq at *;go_wp2_with ((with_reducible refine aQ ?_);(first | (refine aK (by rfl) 241 rfl rfl HLq.out ?_) | (refine gW (u:=.agg (aB y).toArray) (by rfl) 160 rfl rfl CO.out ?_) | (refine ez (u1:=.slice p2 m2 c2) (u2:=.slice (some ⟨wq.heap.size,0,none⟩) 1 1) (by rfl) rfl rfl rfl rfl rQ.out ?_));simp only[Act.put,zA,zB,zC])
         go_roundw
         case rel=>exact⟨j+1,m2+1,q',c',rfl,by congr 1,by omega,jU⟩
         case measure=>simp[intOf];omega
        ·have HP:(fun z:En=>decide (x.b<z.b)) y=false:=aF hc;go_wp2_with fail;go_quiet (fail);have jU:Hid (Ga w4 (wr.drewN nq) (.slice p2 m2 c2) m2 ((D.filter (fun z:En=>decide (z.b<x.b))++[(⟨x.b,x.v,ps⟩:En)])++(D.take (j+1)).filter (fun z:En=>decide (x.b<z.b)))):=by show Ga _ _ _ _ _;rw[yF HY.out.1 HP];exact Aq.out nq
         clear Aq SE t1 t2 HP;generalize wr.drewN nq=wq at *;go_wp2_with fail;go_roundw
         case rel=>exact⟨j+1,m2,p2,c2,rfl,by congr 1,by omega,jU⟩
         case measure=>simp[intOf];omega
       ·have jU:Hid (Ga w4 wr (.slice p2 m2 c2) m2 ((D.filter (fun z:En=>decide (z.b<x.b))++[(⟨x.b,x.v,ps⟩:En)])++D.filter (fun z:En=>decide (x.b<z.b)))):=by
         have:=HG.out;rw[aL (by omega)] at this;exact this
        have y1:=(GJ.out.later HG.out.below).c1;clear HG;have HN:Hid (jd w4 (wr.setCell ⟨R,1,none⟩ (.slice p2 m2 c2)) R n (.slice qD D.length cD) (.slice p2 m2 c2) (uP D ⟨x.b,x.v,ps⟩) s p):=jd.row GJ.out jU.out.below jU.out.own;have HF:=zH ((GJ.out.later jU.out.below).free 1);have f1:=HF.out;have SD:Hid (jd w (wr.setCell ⟨R,1,none⟩ (.slice p2 m2 c2)) R n v (.slice p2 m2 c2) (lays L (l.take (k+1)) ps) s p):=by
         show jd _ _ _ _ _ _ _ _ _;rw[Yc.out,EA,<-HD.out];exact CA.out.trans HN.out
        clear HN jU HF;go_wp2_with fail;go_roundw
        case rel=>exact⟨k+1,_,by congr 1,by omega,SD⟩
        case measure=>simp[intOf];omega
   ·have CI:Hid (jd w wr R n v vD (lays L l ps) s p):=by
     have:=HW.out;rw[aL (by rw[HL.out];omega)] at this;exact this
    have f2:=CI.out.at'.free 2;have q2:=CI.out.at'.c2;have Tp:Hid (jd w (wr.setCell ⟨R,2,none⟩ (.bool true)) R n v vD (lays L l ps) true p):=CI.out.some;have f3:=Tp.out.at'.free 3;have q3:=Tp.out.at'.c3;have CA:Hid (jd w ((wr.setCell ⟨R,2,none⟩ (.bool true)).setCell ⟨R,3,none⟩ (.int .u64 ps)) R n v vD (lays L l ps) true ps):=Tp.out.last;clear HW CI Tp;go_wp2;go_ret;refine⟨by rw[HE.out];rfl,vD,?_⟩;rw[HY.out.1,HY.out.2.1,HY.out.2.2];exact CA.out
 ·have HN:Hid (CZ n L (rW s p) l ps=L/\Fs n s p l ps=s/\zn n s p l ps=p):=⟨aD he,aD he,aD he⟩
  have kG:(ji n (rW s p) l ps != 0)=true:=by rw[bne_iff_ne];exact he
  clear he;go_wp2;go_ret;refine⟨rfl,v,?_⟩;rw[HN.out.1,HN.out.2.1,HN.out.2.2];exact jd.below HA.out gj.out
end
section
variable {w w':World} {R:Nat} {n p:Int} {v:Value} {L:List En} {s:Bool}
theorem Us(h:gG w R n v L s p)(hw:dW L)(hl:L.length<=64){q:Option Addr}{m c:Nat}{l:List En}(hM:lC w q m l)(hm:m<=140737488355328)(yq:∀a,q=some a->0<m->¬(a.block=R\/v.ownBlock=some a.block)):Calls prog 215 #[.pointer (some ⟨R,0,none⟩),.slice q m c] w fun e w'=>e=.returned (.int .i64 (jH L l:Int))/\∃v',jd w w' R n v v' (lQ L l) s p:=by
 have HA:=zH h;have HWF:=zH hw;have aiT:=zH hl;have HM:=zH hM;have HL:=zH hM.len;have Tr:=zH yq;clear h hw hM yq hl;go_enter func215,ntmps215;go_wp2_with fail
 go_loopw [5,6] (fun u u2 W=>∃(k t:Nat) (vD:Value),u=.int .i64 (t:Int)/\u2=.int .i64 (k:Int)/\k<=m/\t<=64/\Hid (t=jH L (l.take k))/\Hid (jd w W R n v vD (lQ L (l.take k)) s p)) (fun _ u _=>m-(intOf u).toNat)
 case atStart=>exact⟨0,0,v,rfl,rfl,by omega,by omega,(rfl:0=jH L (l.take 0)),(jd.refl HA.out:jd w w R n v v (lQ L (l.take 0)) s p)⟩
 case round =>
  obtain ⟨k,t,vD,rfl,rfl,hk,ht,HT,HW⟩:=hrel;by_cases eP:k<m
  ·obtain ⟨e,he,hew⟩:=HM.out.FJ eP;obtain ⟨be,oe,e1,-⟩:=HM.out.cells (by omega);have OZ:lC wr q m l:=HM.out.mO HW.out.kept Tr.out;subst e1;have HX:=rf he hew;have Yc:=zH (ru he);obtain ⟨D,hD⟩:∃D,D=lQ L (l.take k):=⟨_,rfl⟩
   have HD:=zH hD;have amB:D.length<=64:=by have:=Cp L (l.take k);have:=aiT.out;rw[hD];omega
   have HDW:Hid (dW D):=by rw[hD];exact fun x hx=>HWF.out x (Xc.1 hx).1
   obtain ⟨w4,nU⟩:∃w4,w4=wr:=⟨_,rfl⟩
   have CA:Hid (jd w w4 R n v vD D s p):=by rw[hD,nU];exact HW.out
   have HEl:Hid (lC w4 (some ⟨be,oe,none⟩) m l):=by rw[nU];exact OZ
   rw[<-nU];have GJ:=zH CA.out.at';obtain ⟨qD,cD,rfl,hE,hcD⟩:=GJ.out.GG HDW.out;have HE:=zH hE;have ik:(k:Int)<(m:Int):=by omega
   clear nU hE hcD hD OZ he hew HW wr;go_wp2_with fail
   go_loopw [7,8] (fun v v2 W=>∃(j m2:Nat) (p2:Option Addr) (c2:Nat),v=.slice p2 m2 c2/\v2=.int .i64 (j:Int)/\j<=D.length/\Hid (Ga w4 W (.slice p2 m2 c2) m2 (([]:List En)++(D.take j).filter (fun z:En=>!Rm e z)))) (fun _ v _=>D.length-(intOf v).toNat)
   case atStart=>exact⟨0,0,none,0,rfl,rfl,by omega,(Ga.nil w4:Ga w4 w4 (.slice none 0 0) 0 (([]:List En)++(D.take 0).filter (fun z:En=>!Rm e z)))⟩
   case round =>
    obtain ⟨j,m2,p2,c2,rfl,rfl,hj,HG⟩:=hrel;by_cases Dg:j<D.length
    ·obtain ⟨y,hy,hyw⟩:=HE.out.FJ Dg;obtain ⟨b2,o2,rfl,-⟩:=HE.out.cells (by omega);have Aq:Hid (∀t,Ga w4 (wr.drewN t) (.slice p2 m2 c2) m2 (([]:List En)++(D.take j).filter (fun z:En=>!Rm e z))):=fun t=>HG.out.later (av _);have y1:=(GJ.out.later HG.out.below).c1;have t1:∀t,(wr.drewN t).cell? ⟨R,1,none⟩=some (.slice (some ⟨b2,o2,none⟩) D.length cD):=fun t=>y1;have t2:∀t,(wr.drewN t).cell? ⟨b2,o2+j*34,none⟩=some (.int .i64 y.b):=fun t=>(HE.out.later HG.out.below).c0 hy;have t3:∀t,(wr.drewN t).cell? ⟨be,oe+k*34,none⟩=some (.int .i64 e.b):=fun t=>(HEl.out.later (Aq.out t).below).c0 HX.out.1;have t4:∀t,(wr.drewN t).cell? ⟨be,oe+k*34+33,none⟩=some (.int .u64 e.p):=fun t=>(HEl.out.later (Aq.out t).below).cp HX.out.1;have t5:∀t,(wr.drewN t).cell? ⟨b2,o2+j*34+33,none⟩=some (.int .u64 y.p):=fun t=>(HE.out.later (Aq.out t).below).cp hy;have SE:Hid (∀t,(Instr.loadAt 241 (.pointer (some ⟨b2,o2+j*34,none⟩))).run prog (wr.drewN t)=.ok (.agg (aB y).toArray) (wr.drewN t)):=fun t=>lC.load Dm (HE.out.later (Aq.out t).below) hy;have i1:(j:Int)<(D.length:Int):=by omega
     have ahs:m2<=200:=by
      have:=HG.out.len;rw[aO] at this;have h2:=mg (fun z:En=>!Rm e z) (D.take j);rw[cr] at h2;have h3:(([]:List En)).length<=100:=by simp
      omega
     have HY:=rf hy hyw;clear hy hyw HG;by_cases hb:y.b=e.b
     ·have jb:(y.b != e.b)=false:=by simp[hb]
      by_cases hp:y.p=e.p
      ·have OP:(y.p != e.p)=false:=by simp[hp]
       have HP:(fun z:En=>!Rm e z) y=false:=by simp[Rm,hb,hp]
       clear hb hp;go_wp2_with fail;go_quiet (fail);have jU:Hid (Ga w4 (wr.drewN nq) (.slice p2 m2 c2) m2 (([]:List En)++(D.take (j+1)).filter (fun z:En=>!Rm e z))):=by show Ga _ _ _ _ _;rw[yF HY.out.1 HP];exact Aq.out nq
       clear Aq SE t1 t2 HP;generalize wr.drewN nq=wq at *;go_wp2_with fail;go_roundw
       case rel=>exact⟨j+1,m2,p2,c2,rfl,by congr 1,by omega,jU⟩
       case measure=>simp[intOf];omega
      ·have OP:(y.p != e.p)=true:=by rw[bne_iff_ne];exact hp
       have HP:(fun z:En=>!Rm e z) y=true:=by simp[Rm,hp]
       clear hb hp;go_wp2_with fail;go_quiet (fail);have Yj:=Aq.out nq;have HLq:Hid ((Instr.loadAt 241 (.pointer (some ⟨b2,o2+j*34,none⟩))).run prog (wr.drewN nq)=.ok (.agg (aB y).toArray) (wr.drewN nq)):=SE.out nq;have t1q:=t1 nq;obtain ⟨q',c',W',nN,hg⟩:=Yj.app HY.out.2 (by omega);have CO:Hid ((Instr.buildSlice 160 1 #[(0,.agg (aB y).toArray)]).run prog (wr.drewN nq)=.ok (.slice (some ⟨(wr.drewN nq).heap.size,0,none⟩) 1 1) ((wr.drewN nq).alloc (.cells (aB y).toArray 241))):=mE Dm _ y HY.out.2.len;have rQ:Hid ((Builtin.append_ #[160,160] 160 #[.slice p2 m2 c2,.slice (some ⟨(wr.drewN nq).heap.size,0,none⟩) 1 1]).run prog ((wr.drewN nq).alloc (.cells (aB y).toArray 241))=.ok (.slice q' (m2+1) c') W'):=nN;have jU:Hid (Ga w4 W' (.slice q' (m2+1) c') (m2+1) (([]:List En)++(D.take (j+1)).filter (fun z:En=>!Rm e z))):=by show Ga _ _ _ _ _;rw[rI HY.out.1 HP,<-aS];exact hg
       clear nN hg Yj Aq SE t1 t2 HP;generalize wr.drewN nq=wq at *;go_wp2_with ((with_reducible refine aQ ?_);(first | (refine aK (by rfl) 241 rfl rfl HLq.out ?_) | (refine gW (u:=.agg (aB y).toArray) (by rfl) 160 rfl rfl CO.out ?_) | (refine ez (u1:=.slice p2 m2 c2) (u2:=.slice (some ⟨wq.heap.size,0,none⟩) 1 1) (by rfl) rfl rfl rfl rfl rQ.out ?_));simp only[Act.put,zA,zB,zC])
       go_roundw
       case rel=>exact⟨j+1,m2+1,q',c',rfl,by congr 1,by omega,jU⟩
       case measure=>simp[intOf];omega
     ·have jb:(y.b != e.b)=true:=by rw[bne_iff_ne];exact hb
      have HP:(fun z:En=>!Rm e z) y=true:=by simp[Rm,hb]
      clear hb;go_wp2_with fail;go_quiet (fail);have Yj:=Aq.out nq;have HLq:Hid ((Instr.loadAt 241 (.pointer (some ⟨b2,o2+j*34,none⟩))).run prog (wr.drewN nq)=.ok (.agg (aB y).toArray) (wr.drewN nq)):=SE.out nq;have t1q:=t1 nq;obtain ⟨q',c',W',nN,hg⟩:=Yj.app HY.out.2 (by omega);have CO:Hid ((Instr.buildSlice 160 1 #[(0,.agg (aB y).toArray)]).run prog (wr.drewN nq)=.ok (.slice (some ⟨(wr.drewN nq).heap.size,0,none⟩) 1 1) ((wr.drewN nq).alloc (.cells (aB y).toArray 241))):=mE Dm _ y HY.out.2.len;have rQ:Hid ((Builtin.append_ #[160,160] 160 #[.slice p2 m2 c2,.slice (some ⟨(wr.drewN nq).heap.size,0,none⟩) 1 1]).run prog ((wr.drewN nq).alloc (.cells (aB y).toArray 241))=.ok (.slice q' (m2+1) c') W'):=nN;have jU:Hid (Ga w4 W' (.slice q' (m2+1) c') (m2+1) (([]:List En)++(D.take (j+1)).filter (fun z:En=>!Rm e z))):=by show Ga _ _ _ _ _;rw[rI HY.out.1 HP,<-aS];exact hg
      clear nN hg Yj Aq SE t1 t2 HP;generalize wr.drewN nq=wq at *;go_wp2_with ((with_reducible refine aQ ?_);(first | (refine aK (by rfl) 241 rfl rfl HLq.out ?_) | (refine gW (u:=.agg (aB y).toArray) (by rfl) 160 rfl rfl CO.out ?_) | (refine ez (u1:=.slice p2 m2 c2) (u2:=.slice (some ⟨wq.heap.size,0,none⟩) 1 1) (by rfl) rfl rfl rfl rfl rQ.out ?_));simp only[Act.put,zA,zB,zC])
      go_roundw
      case rel=>exact⟨j+1,m2+1,q',c',rfl,by congr 1,by omega,jU⟩
      case measure=>simp[intOf];omega
    ·have jU:Hid (Ga w4 wr (.slice p2 m2 c2) m2 (([]:List En)++D.filter (fun z:En=>!Rm e z))):=by
      have:=HG.out;rw[aL (by omega)] at this;exact this
     have y1:=(GJ.out.later HG.out.below).c1;clear HG;have HN:=zH (jd.row GJ.out jU.out.below jU.out.own);have HF:=zH ((GJ.out.later jU.out.below).free 1);have f1:=HF.out;have SD:Hid (jd w (wr.setCell ⟨R,1,none⟩ (.slice p2 m2 c2)) R n v (.slice p2 m2 c2) (lQ L (l.take (k+1))) s p):=by
      show jd _ _ _ _ _ _ _ _ _;rw[Yc.out,ER,<-HD.out];exact CA.out.trans HN.out
     have hm2:m2+wZ D e=D.length:=by have:=Am D e;have h2:=jU.out.len;rw[bF] at h2;rw[h2];exact this
     have HT5:Hid (t+wZ D e=jH L (l.take (k+1))):=by show _=_;rw[Yc.out,vr,<-HD.out,HT.out]
     have ht5:t+wZ D e<=64:=by rw[HT5.out];exact bJ (JE _ _) aiT.out
     have aan:((t+wZ D e:Nat):Int)=(t:Int)+(D.length:Int)-(m2:Int):=by omega
     clear HN jU HF;go_wp2_with fail;go_roundw
     case rel=>exact⟨k+1,t+wZ D e,_,by rw[aan],by congr 1,by omega,ht5,HT5,SD⟩
     case measure=>simp[intOf];omega
  ·have CI:Hid (jd w wr R n v vD (lQ L l) s p):=by
    have:=HW.out;rw[aL (by rw[HL.out];omega)] at this;exact this
   have HT2:Hid (t=jH L l):=by
    have:=HT.out;rw[aL (by rw[HL.out];omega)] at this;exact this
   clear HW HT;go_wp2;go_ret;exact⟨by rw[HT2.out];rfl,vD,CI.out⟩
