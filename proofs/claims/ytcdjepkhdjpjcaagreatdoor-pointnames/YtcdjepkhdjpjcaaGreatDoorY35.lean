import Derived.Test.YtcdjepkhdjpjcaaGreatDoorY34
set_option maxHeartbeats 20000000
set_option maxRecDepth 100000
namespace Go.Proofs.YtcdjepkhdjpjcaaGreatDoor.Q
open Go.Proofs.Tryz
open Go.RowKit
structure Pt where
 st:Int
 t:Int
 L:List C.En
 k:Nat
structure Pt.Ok (p:Pt):Prop where
 st:p.st=1∨p.st=2∨p.st=3∨p.st=4∨p.st=5
 lt:p.st=2→p.k<p.L.length
def carS (x:Sx)(p:Pt)(z:C.En):List Value × Int × Sx × Pt:=if x.savE z.b=0 then (rowC 15 z.b z.v 0 0,0,x.sav z.b z.v,⟨if p.k+1<p.L.length then 2 else 3,p.t,p.L,p.k+1⟩) else (row0,x.savE z.b,x.sav z.b z.v,p)
def flsS (x:Sx)(p:Pt):List Value × Int × Sx × Pt:=(rowC 12 (-1) zv 0 x.ws.length,0,x.fls,⟨4,p.t,p.L,p.k⟩)
def mrkS (x:Sx)(p:Pt):List Value × Int × Sx × Pt:=if Out x.g p.t then (row0,2,x.mrk p.t,p) else (rowC 16 (-1) zv p.t 0,0,x.mrk p.t,⟨5,p.t,p.L,p.k⟩)
def freS (x:Sx)(p:Pt):List Value × Int × Sx × Pt:=if x.g.mark=p.t∧¬x.a.used<p.t-x.g.tail then (rowC 17 (-1) zv p.t (x.g.mark-x.g.tail),0,(x.fre.frd (x.g.mark-x.g.tail)).drp p.L,⟨1,0,[],0⟩) else (row0,2,x,p)
def choS (hi:Int)(x:Sx)(p:Pt):List Value × Int × Sx × Pt:=if dueS x hi=true then (rowC 14 (-1) zv (x.p+1) x.L.length,0,x,⟨if 0<x.L.length then 2 else 3,x.p+1,x.L,0⟩) else (row0,190,x,p)
def stepS (hi:Int)(x:Sx)(p:Pt):List Value × Int × Sx × Pt :=
 if p.st=2 then carS x p ((p.L.drop p.k).headD C.en0) else if p.st=3 then flsS x p else if p.st=4 then mrkS x p else if p.st=5 then freS x p else choS hi x p
abbrev Th.pp (B:Nat)(v:Value)(p:Pt):Th:=.pt B p.st p.t v p.L p.k
section
variable {w0 w w':World} {K:Ks} {x y:Sx} {pd:List Cm} {X:Nat→Th} {i B k:Nat} {st t:Int} {v:Value} {L:List C.En} {p:Pt}
theorem put_self {u:Th}(e:X i=u):put X i u=X:=by
 funext j
 by_cases h:j=i
 ·subst h;rw[put_same,e]
 ·rw[put_other _ _ h]
theorem X3_other {r:Nat}{j:Nat}(h1:j≠33)(h2:j≠34):X3 X r K j=X j:=(put_other _ _ h2).trans (put_other _ _ h1)
def Left (X:Nat→Th)(i B:Nat)(R:List Value × Int × Sx × Pt)(ds:List Value)(er:Int)(x':Sx)(X':Nat→Th):Prop:=ds=R.1∧er=R.2.1∧x'=R.2.2.1∧∃v,X'=put X i (.pp B v R.2.2.2)
theorem step_of {R:List Value × Int × Sx × Pt}(hc:Calls prog 16 #[qp B,.agg (pdk K).toArray] w fun e w'=>∃ds er x' X',e=.returned (.tuple #[.agg ds.toArray,.int .i64 er])∧Left X i B R ds er x' X'∧DS w0 w' K x' y pd X'):Calls prog 16 #[qp B,.agg (pdk K).toArray] w fun e w'=>∃v,e=.returned (.tuple #[.agg R.1.toArray,.int .i64 R.2.1])∧DS w0 w' K R.2.2.1 y pd (put X i (.pp B v R.2.2.2)):=by
 refine hc.mono ?_
 rintro e w' ⟨ds,er,x',X',rfl,⟨rfl,rfl,rfl,v,rfl⟩,hd⟩
 exact⟨v,rfl,hd⟩
theorem step_at (ht:Tab w0)(h:DS w0 w K x y pd X)(hk:x.ws.length≤100000)(hN:x.a.next≤1000)(h8:8≤i)(h33:i<33)(hp:p.Ok)(e:X i=.pp B v p)(no:∀j,33≤j→j<38→X j=.no):Calls prog 16 #[qp B,.agg (pdk K).toArray] w fun e w'=>∃v,e=.returned (.tuple #[.agg (stepS K.c.hi x p).1.toArray,.int .i64 (stepS K.c.hi x p).2.1])∧DS w0 w' K (stepS K.c.hi x p).2.2.1 y pd (put X i (.pp B v (stepS K.c.hi x p).2.2.2)):=by
 obtain ⟨st,t,L,k⟩:=p
 have n33:∀u,put X i u 33=.no:=fun u=>(put_other _ _ (by omega)).trans (no 33 (by decide) (by decide))
 have n34:∀u,put X i u 34=.no:=fun u=>(put_other _ _ (by omega)).trans (no 34 (by decide) (by decide))
 have o:∀r j,35≤j→j<38→X3 X r K j=.no:=fun r j a b=>(X3_other (by omega) (by omega)).trans (no j (by omega) b)
 have oi:∀r,X3 X r K i=.pt B st t v L k:=fun r=>(X3_other (by omega) (by omega)).trans e
 rcases hp.st with hs | hs | hs | hs | hs
 ·obtain rfl:st=1:=hs
  show Calls _ _ _ _ fun e w'=>∃v,e=.returned (.tuple #[.agg (choS K.c.hi x ⟨1,t,L,k⟩).1.toArray,.int .i64 (choS K.c.hi x ⟨1,t,L,k⟩).2.1])∧DS w0 w' K (choS K.c.hi x ⟨1,t,L,k⟩).2.2.1 y pd (put X i (.pp B v (choS K.c.hi x ⟨1,t,L,k⟩).2.2.2))
  cases hd:dueS x K.c.hi with
  | false =>
   rw[choS,if_neg (by rw[hd];decide)]
   refine (step_idle h h8 h33 (no 33 (by decide) (by decide)) (no 34 (by decide) (by decide)) hN hd e).mono ?_
   rintro e' w' ⟨rfl,hd⟩
   exact⟨v,rfl,by rw[put_self e];exact hd⟩
  | true =>
   rw[choS,if_pos hd]
   refine step_of (step_choose h h8 h33 hN hd e fun r w1 h1=>?_)
   refine (choose_at rfl h1 h8 (by omega) (oi r) (o r 36 (by decide) (by decide)) (o r 37 (by decide) (by decide))).mono ?_
   rintro e' w' ⟨v',rfl,hd⟩
   rw[X3_put h33] at hd
   exact⟨_,_,_,_,rfl,⟨rfl,rfl,rfl,v',rfl⟩,rowC_len (C.zs_len 32),rowC_one _ _ _ _ _,hd,n33 _,n34 _⟩
 ·obtain rfl:st=2:=hs
  have hlt:k<L.length:=hp.lt rfl
  have pw:=(h.pt h8 (by omega) e).wf
  have HW:Hid (C.EnsWf (L.drop k)):=fun a ha=>pw a (List.mem_of_mem_drop ha)
  obtain ⟨z,hz⟩:∃z,(L.drop k).headD C.en0=z:=⟨_,rfl⟩
  have hzw:z.Wf:=by
   rw[← hz,List.drop_eq_getElem_cons hlt]
   exact pw _ (List.getElem_mem hlt)
  have HZ:Hid ((L.drop k).headD C.en0=z∧z.v.length=32∧Bytes z.v):=⟨hz,hzw.len,hzw.byte⟩
  have hR:stepS K.c.hi x ⟨2,t,L,k⟩=carS x ⟨2,t,L,k⟩ z:=by rw[← hz];rfl
  rw[hR]
  refine step_of ?_
  by_cases hs:x.savE z.b=0
  ·rw[carS,if_pos hs]
   refine step_carry h h8 h33 e fun r w1 h1=>?_
   refine (carry_good rfl ht h1 hk h8 (by omega) (oi r) (o r 35 (by decide) (by decide)) (o r 36 (by decide) (by decide)) (o r 37 (by decide) (by decide)) HW HZ hlt hs).mono ?_
   rintro e' w' ⟨rfl,hd⟩
   rw[X3_put h33] at hd
   exact⟨_,_,_,_,rfl,⟨rfl,rfl,rfl,v,rfl⟩,rowC_len hzw.len,rowC_one _ _ _ _ _,hd,n33 _,n34 _⟩
  ·rw[carS,if_neg hs]
   refine step_carry h h8 h33 e fun r w1 h1=>?_
   refine (carry_bad ht h1 hk h8 (by omega) (oi r) (o r 35 (by decide) (by decide)) (o r 36 (by decide) (by decide)) (o r 37 (by decide) (by decide)) HW HZ hs).mono ?_
   rintro e' w' ⟨rfl,hd⟩
   exact⟨_,_,_,X,rfl,⟨rfl,rfl,rfl,v,(put_self e).symm⟩,rowC_len (C.zs_len 32),rowC_one _ _ _ _ _,hd,no 33 (by decide) (by decide),no 34 (by decide) (by decide)⟩
 ·obtain rfl:st=3:=hs
  refine step_of (R:=flsS x ⟨3,t,L,k⟩) (step_flush h h8 h33 e fun r w1 h1=>?_)
  refine (flush_at h1 hk h8 (by omega) (oi r) (o r 36 (by decide) (by decide)) (o r 37 (by decide) (by decide))).mono ?_
  rintro e' w' ⟨rfl,hd⟩
  rw[X3_put h33] at hd
  exact⟨_,_,_,_,rfl,⟨rfl,rfl,rfl,v,rfl⟩,rowC_len (C.zs_len 32),rowC_one _ _ _ _ _,hd,n33 _,n34 _⟩
 ·obtain rfl:st=4:=hs
  refine step_of (R:=mrkS x ⟨4,t,L,k⟩) ?_
  by_cases ho:Out x.g t
  ·rw[mrkS,if_pos ho]
   refine step_mark h h8 h33 e fun r w1 h1=>?_
   refine (mark_bad ht h1 hk h8 (by omega) (oi r) (o r 36 (by decide) (by decide)) (o r 37 (by decide) (by decide)) ho).mono ?_
   rintro e' w' ⟨rfl,hd⟩
   exact⟨_,_,_,X,rfl,⟨rfl,rfl,rfl,v,(put_self e).symm⟩,rowC_len (C.zs_len 32),rowC_one _ _ _ _ _,hd,no 33 (by decide) (by decide),no 34 (by decide) (by decide)⟩
  ·rw[mrkS,if_neg ho]
   refine step_mark h h8 h33 e fun r w1 h1=>?_
   refine (mark_good ht h1 hk h8 (by omega) (oi r) (o r 36 (by decide) (by decide)) (o r 37 (by decide) (by decide)) ho).mono ?_
   rintro e' w' ⟨rfl,hd⟩
   rw[X3_put h33] at hd
   exact⟨_,_,_,_,rfl,⟨rfl,rfl,rfl,v,rfl⟩,rowC_len (C.zs_len 32),rowC_one _ _ _ _ _,hd,n33 _,n34 _⟩
 ·obtain rfl:st=5:=hs
  refine step_of (R:=freS x ⟨5,t,L,k⟩) ?_
  by_cases hm:x.g.mark=t
  ·by_cases hu:x.a.used<t-x.g.tail
   ·rw[freS,if_neg (fun a=>a.2 hu)]
    refine step_free h h8 h33 e fun r w1 h1=>?_
    refine (free_much h1 h8 (by omega) (oi r) (o r 36 (by decide) (by decide)) (o r 37 (by decide) (by decide)) (by simp[hm]) (decide_eq_true hu)).mono ?_
    rintro e' w' ⟨rfl,hd⟩
    exact⟨_,_,_,X,rfl,⟨rfl,rfl,rfl,v,(put_self e).symm⟩,rowC_len (C.zs_len 32),rowC_one _ _ _ _ _,hd,no 33 (by decide) (by decide),no 34 (by decide) (by decide)⟩
   ·rw[freS,if_pos ⟨hm,hu⟩]
    refine step_free h h8 h33 e fun r w1 h1=>?_
    refine (free_good rfl rfl h1 hk h8 (by omega) (oi r) (o r 36 (by decide) (by decide)) (o r 37 (by decide) (by decide)) (by simp[hm]) (decide_eq_false hu)).mono ?_
    rintro e' w' ⟨rfl,hd⟩
    rw[X3_put h33] at hd
    exact⟨_,_,_,_,rfl,⟨rfl,rfl,rfl,.slice none 0 0,rfl⟩,rowC_len (C.zs_len 32),rowC_one _ _ _ _ _,hd,n33 _,n34 _⟩
  ·rw[freS,if_neg (fun a=>hm a.1)]
   refine step_free h h8 h33 e fun r w1 h1=>?_
   refine (free_other h1 h8 (by omega) (oi r) (o r 36 (by decide) (by decide)) (o r 37 (by decide) (by decide)) (by simp[hm])).mono ?_
   rintro e' w' ⟨rfl,hd⟩
   exact⟨_,_,_,X,rfl,⟨rfl,rfl,rfl,v,(put_self e).symm⟩,rowC_len (C.zs_len 32),rowC_one _ _ _ _ _,hd,no 33 (by decide) (by decide),no 34 (by decide) (by decide)⟩
end
section
variable {w0 w w':World} {K:Ks} {x y:Sx} {pd:List Cm} {X:Nat→Th} {i B k:Nat} {st t:Int} {v:Value} {L:List C.En} {p:Pt}
theorem copy_nil (w:World):Calls prog 30 #[.pointer none] w fun e w'=>e=.returned (.pointer none)∧w'=w:=by
 go_enter func30,ntmps30
 go_wp2
 go_ret
 exact⟨rfl,rfl⟩
end
end Go.Proofs.YtcdjepkhdjpjcaaGreatDoor.Q
namespace Go.Proofs.YtcdjepkhdjpjcaaGreatDoor.C
open Go.Proofs.Tryz
open Go.RowKit
open Go.Shelf
attribute [local go_sem] Oper.semAt_some
theorem appseq_any {w:World}{p:Option Addr}{M:List En}{B:Nat}(hB:Boxed w B 30 (.pointer p))(hS:PStands w p M)(h64:M.length≤64):Calls prog 124 #[.slice none 0 0,lseqV B] w fun e w'=>∃v,e=.returned v∧EOwn 54 w' w.heap.size v M∧Below w.heap.size w w':=by
 obtain ⟨w1,hw1⟩:∃w1,w.alloc (.cells #[.slice none 0 0] 47)=w1:=⟨_,rfl⟩
 have B1:Below w.heap.size w w1:=by rw[← hw1];exact below_alloc w _
 have s1:w1.heap.size=w.heap.size+1:=by rw[← hw1];simp
 have HBX:Hid (Boxed w1 w.heap.size 47 (.slice none 0 0)):=by rw[← hw1];exact Boxed.new w _ _
 have HRW:Hid (w1.ownsRow w.heap.size 54 34 (.slice none 0 0) 0 []):=⟨rfl,.inl ⟨rfl,rfl⟩⟩
 have HBP:Hid (Boxed w1 B 30 (.pointer p)):=(B1.block _ hB.lt).trans hB
 have HB:Hid (Below w.heap.size w w1):=B1
 have HSZ:Hid (w1.heap.size=w.heap.size+1):=s1
 have HS:Hid (PStands w p M):=hS
 clear B1 s1 hB hS
 refine (callsIn_wide (n:=9)).1 ?_
 refine callsIn_of_wp_marks func124 rfl trivial ?_ rfl
 simp only[ntmps124,List.size_toArray,List.length_cons,List.length_nil,Nat.reduceAdd,Nat.reduceSub,Array.replicate_succ,Array.replicate_zero,List.push_toArray,List.append_toArray,List.nil_append,List.cons_append]
 gi_wp2
 clear hw1
 refine range_in (F:=Fence.wide) (n:=9) (P:=prog) rfl (by decide) (gf:=125) (lb:=#[.pointer (some ⟨B,0,none⟩)]) rfl trivial (enters_of func125 (by kernel_rfl) rfl)
  (left1_seq (9-1) (by decide) B w.heap.size p M w1 w HB.out.size HB.out rfl HBP.out HS.out) belowK_t (fun W l o o' hl h hc=>(Below.refl _ W).grown (grownBy_putObj' W l o') (by have:=HSZ.out;have:=(Array.getElem?_eq_some_iff.1 h).1;omega) (fun k e=>by cases e;have:=HSZ.out;omega)) (Below.refl _ _) (fun _=>rfl)
  (fun pre W=>Got w.heap.size w.heap.size 64 pre W∧Below w.heap.size w W) (fun _ _ _=>False) ?hI (fun _ _ _ _ _ h=>h.elim) ⟨⟨_,HBX.out,HRW.out,Nat.zero_le _⟩,HB.out⟩
  (fun x a' W=>∃Bx,LAt 54 W Bx (ecells x.1)∧a'={ tmps:=#[.slice none 0 0,lseqV B,.pointer (some ⟨w.heap.size,0,none⟩),undef,.slice none 0 0,.pointer (some ⟨Bx,0,none⟩),lseqV B,.agg (ecells x.1).toArray,undef,undef,undef,undef,undef],defers:=[] })
  ?hAx ?assign ?body ?done ?stop
 case hI=>exact OwnFrom.and (own_got _ _ _ _) (ownFrom_below (Nat.le_refl _) HB.out.size)
 case hAx =>
  rintro x a' _ V V' row ⟨Bx,h1,h2⟩ hg hr
  exact⟨Bx,(grownBy_keeps_cells hg (fun r e=>(hr r e).2) h1 rfl).trans h1,h2⟩
 case assign =>
  rintro l1 pre x V K ⟨⟨v,h1,h2,h2'⟩,h6⟩ hK
  have A4:Hid ((Instr.alloc 54 true (.tuple #[])).run prog V=.ok (.pointer (some ⟨V.heap.size,0,none⟩)) (V.alloc (.cells (ecells en0).toArray 54))):=allocE etC V
  have T4:Hid ((Instr.storeAt 54 (.pointer (some ⟨V.heap.size,0,none⟩)) (.agg (ecells x.1).toArray)).run prog (V.alloc (.cells (ecells en0).toArray 54))=.ok () (V.alloc (.cells (ecells x.1).toArray 54))):=store_newE etC V x.1 x.2.len
  have hb:=below_alloc V (.cells (ecells x.1).toArray 54)
  have Y:=hK _ _ (keeps_of_below hb w1.heap.size) (hb.mono h6.size) ⟨⟨v,h1.alloc _,h2.alloc _,h2'⟩,h6.trans (hb.mono h6.size)⟩ ⟨V.heap.size,LAt.new 54 V (ecells x.1),rfl⟩
  have HY:Hid (K _ _):=Y
  clear hK h1 h2 h6 hb Y
  rw[put1]
  simp only[zA,zB,zC]
  gi_wp2_with ((with_reducible refine in_ops ?_);(first | ((refine in_alloc (by rfl) 54 rfl A4.out ?_);simp only[Act.put,zA,zB,zC]) | ((refine in_store (by rfl) 54 rfl rfl rfl T4.out ?_);simp only[Act.put])))
  exact HY.out
 case body =>
  rintro l1 pre x a' V ⟨⟨v,h1,h2,h2'⟩,h6⟩ ⟨Bx,hx,rfl⟩ hlt
  obtain ⟨q,cap,rfl⟩:=O.own_shape h2
  have c4:=h1.cell
  have HLd:Hid ((Instr.loadAt 54 (.pointer (some ⟨Bx,0,none⟩))).run prog V=.ok (.agg (ecells x.1).toArray) V):=LAt.loadE etC hx x.2.len
  have HBS:Hid ((Instr.buildSlice 47 1 #[(0,.agg (ecells x.1).toArray)]).run prog V=.ok (.slice (some ⟨V.heap.size,0,none⟩) 1 1) (V.alloc (.cells (ecells x.1).toArray 54))):=build_en etC V x.1 x.2.len
  obtain ⟨g',cap',V4,hrun,hv1,hv2⟩:=got_step h1 h2 x.2 h6.size (by omega) (by omega)
  have HRUN:Hid ((Builtin.append_ #[47,47] 47 #[.slice q pre.length cap,.slice (some ⟨V.heap.size,0,none⟩) 1 1]).run prog (V.alloc (.cells (ecells x.1).toArray 54))=.ok (.slice (some ⟨g',0,none⟩) (pre.length+1) cap') V4):=hrun
  have k1:=hv1.cell
  have k2:=hv1.frozen
  have HFIN:Hid (KeepsFrom w1.heap.size V (V4.setCell ⟨w.heap.size,0,none⟩ (.slice (some ⟨g',0,none⟩) (pre.length+1) cap'))∧Below w.heap.size V (V4.setCell ⟨w.heap.size,0,none⟩ (.slice (some ⟨g',0,none⟩) (pre.length+1) cap'))∧(Got w.heap.size w.heap.size 64 (pre++[x]) (V4.setCell ⟨w.heap.size,0,none⟩ (.slice (some ⟨g',0,none⟩) (pre.length+1) cap'))∧Below w.heap.size w (V4.setCell ⟨w.heap.size,0,none⟩ (.slice (some ⟨g',0,none⟩) (pre.length+1) cap')))):=by
   refine⟨hv2.2.2.1.from _,hv2.2.2.2.1,⟨_,hv2.1,?_,?_⟩,h6.trans hv2.2.2.2.1⟩
   ·rw[ens_snoc,show (pre++[x]).length=pre.length+1 by simp];exact hv2.2.1
   ·simp;omega
  clear hrun hv1 hv2 h1 h2 h6 hx
  gi_wp2_with ((with_reducible refine in_ops ?_);(first | (refine in_load (by rfl) 54 rfl rfl HLd.out ?_) | (refine in_slice (u:=.agg (ecells x.1).toArray) (by rfl) 47 rfl rfl HBS.out ?_) | (refine in_append (u1:=.slice q pre.length cap) (u2:=.slice (some ⟨V.heap.size,0,none⟩) 1 1) (by rfl) rfl rfl rfl rfl HRUN.out ?_));simp only[Act.put,zA,zB,zC])
  exact HFIN.out
 case done =>
  rintro D ys W hD hSt ⟨⟨v,h1,h2,h2'⟩,h6⟩ hK
  obtain ⟨q,cap,rfl⟩:=O.own_shape h2
  have hb:=h1.cell
  have HZ:Hid (EOwn 54 (W.putObj D (.deferred none)) w.heap.size (.slice q ys.length cap) M∧Below w.heap.size w (W.putObj D (.deferred none))):=by
   have e1:ens ys=M:=hSt
   have e2:ys.length=M.length:=by rw[← e1,List.length_map]
   refine⟨?_,h6.trans (belowK_b (w:=w) (Nat.le_refl _) _ D _ _ (by have:=HSZ.out;omega) hK rfl rfl)⟩
   have:=ownsRow_putObj h2 (.deferred none) hK rfl
   show World.ownsRow _ _ _ _ _ _ _
   rw[e1,e2] at this
   rw[e2]
   exact this
  clear h1 h2 h6 hSt
  gi_wp2
  refine⟨by simp,.inl ⟨_,_,rfl,run_takeDeferred hK,?_⟩⟩
  exact⟨_,by simp[results,results124,go_sem],_,rfl,HZ.out⟩
 case stop =>
  rintro D c pre W hD hpre h hK
  exact h.elim
theorem _root_.Go.World.ownsRow.lower {w:World}{base base':Nat}{e:TypeId}{size:Nat}{v:Value}{n:Nat}{xs:List Value}(h:w.ownsRow base e size v n xs)(hb:base'≤base):w.ownsRow base' e size v n xs:=by
 refine⟨h.1,?_⟩
 rcases h.2 with h | ⟨g,cap,cur,a,c,b⟩
 ·exact .inl h
 ·exact .inr ⟨g,cap,cur,a,Nat.le_trans hb c,b⟩
theorem PStands.later {w w':World}{p:Option Addr}{M:List En}(h:PStands w p M)(hb:Below w.heap.size w w'):PStands w' p M:=by
 rcases h with h | ⟨Q,st,t,v,L,k,rfl,h,e⟩
 ·exact .inl h
 ·exact .inr ⟨Q,st,t,v,L,k,rfl,h.later hb,e⟩
theorem collect_any {w:World}{p:Option Addr}{M:List En}{B:Nat}(hB:Boxed w B 30 (.pointer p))(hS:PStands w p M)(h64:M.length≤64):Calls prog 63 #[lseqV B] w fun e w'=>∃v,e=.returned v∧EOwn 54 w' w.heap.size v M∧Below w.heap.size w w':=by
 have HC:Hid (_):=appseq_any hB hS h64
 clear hB hS
 go_enter func63,ntmps63
 go_wp2_with fail
 refine Calls.mono HC.out ?_
 rintro e w' ⟨v,rfl,hv,b⟩
 have HV:Hid (EOwn 54 w' w.heap.size v M∧Below w.heap.size w w'):=⟨hv,b⟩
 clear hv b HC
 go_wp2
 go_ret
 exact⟨v,rfl,HV.out⟩
theorem left_any {w:World}{p:Option Addr}{M:List En}(hS:PStands w p M)(h64:M.length≤64):Calls prog 29 #[.pointer p] w fun e w'=>∃v,e=.returned v∧EOwn 54 w' w.heap.size v M∧Below w.heap.size w w':=by
 obtain ⟨w1,hw1⟩:∃w1,w.alloc (.cells #[.pointer p] 30)=w1:=⟨_,rfl⟩
 have B1:Below w.heap.size w w1:=by rw[← hw1];exact below_alloc w _
 have HL:Hid (Calls prog 64 #[.pointer p] w fun e w'=>e=.returned (lseqV w.heap.size)∧w'=w1):=by rw[← hw1];exact left_is p w
 have HC:Hid (_):=collect_any (B:=w.heap.size) (by rw[← hw1];exact Boxed.new w _ _) (hS.later B1) h64
 have HB:Hid (Below w.heap.size w w1):=B1
 clear hw1 B1 hS
 go_enter func29,ntmps29
 go_wp2_with fail
 refine HL.out.mono ?_
 rintro e w2 ⟨rfl,rfl⟩
 go_wp2_with fail
 refine Calls.mono HC.out ?_
 rintro e w' ⟨v,rfl,hv,b⟩
 have HV:Hid (EOwn 54 w' w.heap.size v M∧Below w.heap.size w w'):=⟨World.ownsRow.lower hv HB.out.size,below_then HB.out b⟩
 clear hv b HC HL
 go_wp2
 go_ret
 exact⟨v,rfl,HV.out⟩
end Go.Proofs.YtcdjepkhdjpjcaaGreatDoor.C
namespace Go.Proofs.YtcdjepkhdjpjcaaGreatDoor.Q
open Go.Proofs.Tryz
open Go.RowKit
section
variable {w:World}
abbrev bare (c:Sup):List Value:=ccells c++[.pointer none,.pointer none,.pointer none,.pointer none]
theorem whole_bare (w:World)(c:Sup):Calls prog 35 #[.agg (bare c).toArray] w fun e w'=>e=.returned (.bool false)∧Below w.heap.size w w':=by
 have h:(w.alloc (.cells (bare c).toArray 37)).heap[w.heap.size]?=some (.cells (bare c).toArray 37 (0,0)):=heap_alloc_new w _
 have a1:(w.alloc (.cells (bare c).toArray 37)).cell? ⟨w.heap.size,5,none⟩=some (.pointer none):=by rw[cell_of_row _ _ _ _ _ _ h];rfl
 have b:=C.below_alloc w (.cells (bare c).toArray 37)
 clear h
 go_enter func35,ntmps35
 go_wp2
 go_ret
 exact⟨rfl,b⟩
theorem enabled_nil (w:World)(ds:List Value):Calls prog 13 #[.pointer none,.agg ds.toArray] w fun e w'=>e=.returned (.bool false)∧Below w.heap.size w w':=by
 have b:=C.below_alloc w (.cells ds.toArray 37)
 go_enter func13,ntmps13
 go_wp2
 go_ret
 exact⟨rfl,b⟩
theorem step_nil (w:World)(ds:List Value):Calls prog 16 #[.pointer none,.agg ds.toArray] w fun e w'=>e=.returned (.tuple #[.agg row0.toArray,.int .i64 1])∧Below w.heap.size w w':=by
 obtain ⟨r,hr⟩:∃r,w.heap.size=r:=⟨_,rfl⟩
 obtain ⟨w1,hw1⟩:∃W,w.alloc (.cells ds.toArray 37)=W:=⟨_,rfl⟩
 obtain ⟨w2,hw2⟩:∃W,w1.alloc (.cells row0.toArray 61)=W:=⟨_,rfl⟩
 have s1:w1.heap.size=r+1:=by rw[← hw1,World.size_alloc,hr]
 have b1:Below w.heap.size w w1:=by rw[← hw1];exact C.below_alloc w _
 have b2:Below w1.heap.size w1 w2:=by rw[← hw2];exact C.below_alloc w1 _
 have l2:LAt 61 w2 (r+1) row0:=by rw[← hw2,← s1];exact LAt.new _ _ _
 have HAL:Hid ((Instr.alloc 61 true (.tuple #[])).run prog w1=.ok (.pointer (some ⟨r+1,0,none⟩)) w2):=by
  have:=alloc_row w1
  rw[s1,hw2] at this
  exact this
 have HL:Hid (LAt 61 w2 (r+1) row0):=l2
 have HB:Hid (Below w.heap.size w w2):=C.below_then b1 b2
 clear b1 b2 l2 hw2 s1
 have HBD:Hid (_):=build_row0 w2
 have HST:Hid ((Instr.storeAt 61 (.pointer (some ⟨r+1,0,none⟩)) (.agg row0.toArray)).run prog w2=.ok () (w2.setRow (r+1) row0.toArray)):=store_row HL.out (rowC_len (C.zs_len 32)) (rowC_one _ _ _ _ _)
 have HLz:Hid (LAt 61 (w2.setRow (r+1) row0.toArray) (r+1) row0):=LAt.stored HL.out _
 have HDz:Hid (Below w.heap.size w (w2.setRow (r+1) row0.toArray)):=below_setRow HB.out (by omega) _
 clear HL HB
 generalize w2.setRow (r+1) row0.toArray=wz at *
 go_enter func16,ntmps16
 go_wp2_with ((with_reducible refine C.at_ops ?_);(first | (refine alI 61 HAL.out ?_) | ((refine C.wpList_build_is (vs:=[]) (by rfl) 61 rfl (by rfl) HBD.out ?_);simp only[Act.put,zA,zB,zC]) | (refine stI 61 HST.out ?_)))
 (try simp only[Exit.inBlock,Exit.then])
 exact bodyPost_ret (C.results_lat results16 _ _ (r+1) 61 _ _ (by rfl) HLz.out underlying61 rfl (by rw[size_row,rowC_len (C.zs_len 32)])) rfl ⟨rfl,HDz.out⟩
theorem step_bare (w:World)(B:Nat)(c:Sup):Calls prog 16 #[qp B,.agg (bare c).toArray] w fun e w'=>e=.returned (.tuple #[.agg row0.toArray,.int .i64 1])∧Below w.heap.size w w':=by
 obtain ⟨r,hr⟩:∃r,w.heap.size=r:=⟨_,rfl⟩
 obtain ⟨w1,hw1⟩:∃W,w.alloc (.cells (bare c).toArray 37)=W:=⟨_,rfl⟩
 obtain ⟨w2,hw2⟩:∃W,w1.alloc (.cells row0.toArray 61)=W:=⟨_,rfl⟩
 have s1:w1.heap.size=r+1:=by rw[← hw1,World.size_alloc,hr]
 have b1:Below w.heap.size w w1:=by rw[← hw1];exact C.below_alloc w _
 have b2:Below w1.heap.size w1 w2:=by rw[← hw2];exact C.below_alloc w1 _
 have l2:LAt 61 w2 (r+1) row0:=by rw[← hw2,← s1];exact LAt.new _ _ _
 have HAL:Hid ((Instr.alloc 61 true (.tuple #[])).run prog w1=.ok (.pointer (some ⟨r+1,0,none⟩)) w2):=by
  have:=alloc_row w1
  rw[s1,hw2] at this
  exact this
 have hD:w2.heap[r]?=some (.cells (bare c).toArray 37 (0,0)):=by
  refine (b2.block r (by omega)).trans ?_
  rw[← hw1,← hr];exact heap_alloc_new w _
 have HLK:Hid ((Instr.loadAt 37 (.pointer (some ⟨r,0,none⟩))).run prog w2=.ok (.agg (bare c).toArray) w2):=run_loadAt_mid w2 r 0 37 (bare c) _ (LAt.range (t:=37) hD) underlying37 rfl (by rw[size_dk];rfl)
 have HL2:Hid (LAt 61 w2 (r+1) row0):=l2
 have HB2:Hid (Below w.heap.size w w2):=C.below_then b1 b2
 clear b1 b2 l2 hw2 s1 hD
 go_enter func16,ntmps16
 go_wp2_with ((with_reducible refine C.at_ops ?_);(first | (refine alI 61 HAL.out ?_) | (refine ldI 37 HLK.out ?_)))
 refine (whole_bare w2 c).mono ?_
 rintro e' w3 ⟨rfl,b3⟩
 have HL:Hid (LAt 61 w3 (r+1) row0):=LAt.later HL2.out b3
 have HB:Hid (Below w.heap.size w w3):=C.below_then HB2.out b3
 clear b3 HL2 HB2 HAL HLK
 have HBD:Hid (_):=build_row0 w3
 have HST:Hid ((Instr.storeAt 61 (.pointer (some ⟨r+1,0,none⟩)) (.agg row0.toArray)).run prog w3=.ok () (w3.setRow (r+1) row0.toArray)):=store_row HL.out (rowC_len (C.zs_len 32)) (rowC_one _ _ _ _ _)
 have HLz:Hid (LAt 61 (w3.setRow (r+1) row0.toArray) (r+1) row0):=LAt.stored HL.out _
 have HDz:Hid (Below w.heap.size w (w3.setRow (r+1) row0.toArray)):=below_setRow HB.out (by omega) _
 clear HL HB
 generalize w3.setRow (r+1) row0.toArray=wz at *
 go_wp2_with ((with_reducible refine C.at_ops ?_);(first | ((refine C.wpList_build_is (vs:=[]) (by rfl) 61 rfl (by rfl) HBD.out ?_);simp only[Act.put,zA,zB,zC]) | (refine stI 61 HST.out ?_)))
 (try simp only[Exit.inBlock,Exit.then])
 exact bodyPost_ret (C.results_lat results16 _ _ (r+1) 61 _ _ (by rfl) HLz.out underlying61 rfl (by rw[size_row,rowC_len (C.zs_len 32)])) rfl ⟨rfl,HDz.out⟩
end
def sm:Sup:=⟨3,4,2,3,2,0,0⟩
theorem results_one {fn:Func}{p:Tmp}{ty:TypeId}(h:fn.results=#[.cell p ty])(tmps:Array Value)(w:World)(g:Nat)(t:TypeId)(cs:List Value)(d:TypeDesc)
  (hp:tmps.getD p undef=.pointer (some ⟨g,0,none⟩)) (hg:LAt t w g cs) (hu:prog.underlying ty=some d) (hd:d.isRow=true) (hi:(prog.info? ty).map (·.size)=some cs.length) :
  (results fn tmps).run prog w=.ok (.agg cs.toArray) w:=by
 have:=run_loadVar_mid w g 0 ty _ d (LAt.range hg) hu hd hi
 rw[Array.getD_eq_getD_getElem?] at hp
 simp only[results,h]
 simp[hp,asAddr,this]
theorem small_is (w:World):Calls prog 27 #[] w fun e w'=>e=.returned (.agg (ccells sm).toArray)∧Below w.heap.size w w':=by
 have hz:(prog.info? 23).bind (·.zero)=some (.agg (ccells sup0).toArray):=by kernel_rfl
 have HA:Hid ((Instr.alloc 23 true (.tuple #[])).run prog w=.ok (.pointer (some ⟨w.heap.size,0,none⟩)) (w.alloc (.cells (ccells sup0).toArray 23))):=by
  show _=_
  simp only[Instr.alloc,Sem.run_bind,C.zv 23 _ hz,Result.andThen_ok]
  simp[newVar,newRow,Value.cells]
 have HB:Hid ((Instr.build 23 #[(0,.int .i64 3),(1,.int .i64 4),(2,.int .i64 2),(3,.int .i64 3),(4,.int .i64 2)]).run prog (w.alloc (.cells (ccells sup0).toArray 23))=.ok (.agg (ccells sm).toArray) (w.alloc (.cells (ccells sup0).toArray 23))):=run_build _ 23 _ _ (by kernel_rfl)
 have HS:Hid (_):=store_new23 w sm
 have HL:Hid (LAt 23 (w.alloc (.cells (ccells sm).toArray 23)) w.heap.size (ccells sm)):=LAt.new _ _ _
 have HW:Hid (Below w.heap.size w (w.alloc (.cells (ccells sm).toArray 23))):=C.below_alloc w _
 clear hz
 go_enter func27,ntmps27
 go_wp2_with ((with_reducible refine C.at_ops ?_);(first | ((refine C.wpList_alloc_is (by rfl) 23 rfl HA.out ?_);simp only[Act.put,zA,zB]) | ((refine C.wpList_build_is (vs:=[(0,.int .i64 3),(1,.int .i64 4),(2,.int .i64 2),(3,.int .i64 3),(4,.int .i64 2)]) (by rfl) 23 rfl (by rfl) HB.out ?_);simp only[Act.put,zA,zB,zC]) | (refine stI 23 HS.out ?_)))
 (try simp only[Exit.inBlock,Exit.then])
 exact bodyPost_ret (results_one results27 _ _ w.heap.size 23 _ _ (by rfl) HL.out underlying23 rfl (by rw[size23,ccells_len])) rfl ⟨rfl,HW.out⟩
end Go.Proofs.YtcdjepkhdjpjcaaGreatDoor.Q
namespace Go.Proofs.YtcdjepkhdjpjcaaGreatDoor.Q
open Go.RowKit
def va:List Int:=1 :: C.zs 31
def vb:List Int:=2 :: C.zs 31
def xa:Sx:=(txS (x0 sm) [] [2,0] [va,vb] true).1
theorem xa_due:dueS xa 3=true:=by decide
theorem xa_L:xa.L=[⟨0,va,2⟩,⟨2,vb,2⟩]∧xa.p=2∧xa.s=true:=by exact⟨by rfl,by rfl,by rfl⟩
structure Run (x:Sx) (pd:List Cm):Prop where
 I:x.a.I=[]
 W:x.a.W=[]∨x.a.fits=false
 us:x.a.used=x.g.fin-x.g.tail
 im:x.g.imgs=0
 n:x.n=x.g.c.bl
 bl:x.a.bl=x.g.c.bl
 lc:x.a.lc=x.g.c.lc
 mr:x.a.mr=x.g.c.mr
 fn:x.g.fin≤1000000
 ls:x.s=true→x.p<x.g.fin
 pd:∀q∈pd,q.2<x.g.fin
 L:∀e∈x.L,e.p<x.g.fin
theorem sec_setl {ws:List Wr}{d:List Int}{n i:Nat}(hd:d.length=64*n)(hw:Fit n ws)(hi:i<n):∀k,sec (setl (fun _=>true) ws d k) i=newk ws d i k
 | 0=>rfl
 | k+1=>by
  have ih:=sec_setl hd hw hi k
  by_cases hk:k<ws.length
  ·rw[setl_step _ ws d k hk,if_pos rfl,newk_step ws d i k hk,sec_put (setl_length hd hw k) (hw.at k hk).1 (hw.at k hk).2.1 hi,ih]
   by_cases e:i=ws[k].s
   ·rw[if_pos e,if_pos e.symm]
   ·rw[if_neg e,if_neg (fun h=>e h.symm)]
  ·simp only[setl,newk,List.getElem?_eq_none (show ws.length≤k by omega)];exact ih
theorem newest_settled {ws:List Wr}{d:List Int}{n i:Nat}(hd:d.length=64*n)(hw:Fit n ws)(hi:i<n):newest [] (settle (fun _=>true) ws d) i=newest ws d i:=sec_setl hd hw hi ws.length
theorem cutV_home (b:Int){v:List Int}(h:v.length=32):cutV (homeS b v)=v:=by
 unfold cutV homeS hbody
 have e:([72,79,77,69,1,b]++(zs 22++v)++digits 4 (crc ([72,79,77,69,1,b]++(zs 22++v)):Nat)).drop 28=v++digits 4 (crc ([72,79,77,69,1,b]++(zs 22++v)):Nat):=by
  rw[show [72,79,77,69,1,b]++(zs 22++v)++digits 4 (crc ([72,79,77,69,1,b]++(zs 22++v)):Nat)=([72,79,77,69,1,b]++zs 22)++(v++digits 4 (crc ([72,79,77,69,1,b]++(zs 22++v)):Nat)) by simp only[List.append_assoc]]
  exact List.drop_left' (by simp[zs_len])
 rw[e]
 exact List.take_left' h
theorem hdec_home {b:Int}(hb:inB b){v:List Int}(h:v.length=32):hdec (homeS b v) b=(v,0):=by
 rw[hdec_ok hb (homeS_len b h) (by rw[cutV_home b h]),cutV_home b h]
structure Dk (x:Sx):Prop where
 dl:x.d.length=64*x.g.sz
 fit:Fit x.g.sz x.ws
theorem DS.dk {w0 w:World}{K:Ks}{x y:Sx}{pd:List Cm}{X:Nat→Th}(h:DS w0 w K x y pd X):Dk x:=by
 obtain ⟨S,hl,-,-⟩:=h.plog
 obtain ⟨q,cap,v,hp⟩:=hl.dsk
 exact⟨hp.dl,hp.fit⟩
structure Ph (t tl:Int) (L:List C.En) (j:Nat) (x:Sx) (p:Pt):Prop where
 j1:1≤j
 j2:j≤L.length+3
 pt:p=⟨if j≤L.length then 2 else if j=L.length+1 then 3 else if j=L.length+2 then 4 else 5,t,L,if j≤L.length then j-1 else L.length⟩
 ta:x.g.tail=tl
 tt:tl<t∧t≤x.g.fin
 us:x.a.used=x.g.fin-tl
 ma:j=L.length+3→x.g.mark=t
 hm:∀i e,i+1<j→L[i]?=some e→newest x.ws x.d (1+e.b).toNat=homeS e.b e.v
 lo:j≤L.length+2→∀z∈x.ws,1≤z.s
 no:j=L.length+2→x.ws=[]
 up:C.UpE L
 ins:∀e∈L,0≤e.b∧e.b<x.g.c.bl
 wf:C.EnsWf L
section
variable {t tl hi:Int} {L:List C.En} {j:Nat} {x:Sx} {p:Pt}
theorem up_at {L:List C.En}(hu:C.UpE L){i k:Nat}{e z:C.En}(hi:L[i]?=some e)(hk:L[k]?=some z)(h:i<k):e.b<z.b:=by
 obtain ⟨h1,rfl⟩:=List.getElem?_eq_some_iff.1 hi
 obtain ⟨h2,rfl⟩:=List.getElem?_eq_some_iff.1 hk
 exact List.pairwise_iff_getElem.1 hu i k h1 h2 h
theorem Ph.start {pd:List Cm}(h:Run x pd)(ok:x.Ok)(hd:dueS x hi=true)(hs:∀z∈x.ws,1≤z.s)(p:Pt)(hp:p.st=1):(stepS hi x p).1=rowC 14 (-1) zv (x.p+1) x.L.length∧(stepS hi x p).2.1=0∧(stepS hi x p).2.2.1=x∧Ph (x.p+1) x.g.tail x.L 1 x (stepS hi x p).2.2.2:=by
 have e:stepS hi x p=choS hi x p:=by unfold stepS;rw[hp];rfl
 have e2:choS hi x p=(rowC 14 (-1) zv (x.p+1) x.L.length,0,x,⟨if 0<x.L.length then 2 else 3,x.p+1,x.L,0⟩):=by unfold choS;rw[if_pos hd]
 rw[e,e2]
 have hd1:x.s=true∧x.g.tail<x.p+1:=by
  unfold dueS at hd
  simp only[Bool.and_eq_true,decide_eq_true_eq] at hd
  exact⟨hd.1.1,hd.1.2⟩
 refine⟨rfl,rfl,rfl,Nat.le_refl _,by omega,?_,rfl,⟨hd1.2,?_⟩,h.us,fun e=>by omega,fun i e hi=>by omega,fun _=>hs,fun e=>by omega,ok.k.up,fun e he=>?_,ok.k.wf⟩
 ·cases hl:x.L with
  | nil=>rfl
  | cons a l=>rfl
 ·have:=h.ls hd1.1;omega
 ·have:=ok.k.ins e he;have:=h.n;show _∧e.b<x.g.c.bl;omega
theorem Ph.carry (h:Ph t tl L j x p)(ok:x.Ok)(hj:j≤L.length):∃e,L[j-1]?=some e∧(stepS hi x p).1=rowC 15 e.b e.v 0 0∧(stepS hi x p).2.1=0∧(stepS hi x p).2.2.1={ x with ws:=x.ws++[⟨(1+e.b).toNat,homeS e.b e.v⟩] }∧Ph t tl L (j+1) (stepS hi x p).2.2.1 (stepS hi x p).2.2.2:=by
 have j1:=h.j1
 have hlt:j-1<L.length:=by omega
 obtain ⟨e,he⟩:∃e,L[j-1]?=some e:=⟨_,List.getElem?_eq_getElem hlt⟩
 have hp:=h.pt
 rw[if_pos hj,if_pos hj] at hp
 have hz:(L.drop (j-1)).headD C.en0=e:=by
  rw[drop_cons he];rfl
 have hin:=h.ins e (List.mem_of_getElem? he)
 have hsv:x.savE e.b=0:=rbS_ok (rfS_ok ok.g.cf (by rw[ok.g.sz_is])) hin
 have e1:stepS hi x p=(rowC 15 e.b e.v 0 0,0,x.sav e.b e.v,⟨if j-1+1<L.length then 2 else 3,t,L,j-1+1⟩):=by
  unfold stepS
  rw[hp,if_pos rfl]
  show carS x ⟨2,t,L,j-1⟩ ((L.drop (j-1)).headD C.en0)=_
  rw[hz,carS,if_pos hsv]
 have e2:x.sav e.b e.v={ x with ws:=x.ws++[⟨(1+e.b).toNat,homeS e.b e.v⟩] }:=by
  unfold Sx.sav
  rw[svW_yes _ _ hsv]
 refine⟨e,he,by rw[e1],by rw[e1],by rw[e1,e2],?_⟩
 rw[e1,e2]
 refine⟨by omega,by omega,?_,h.ta,h.tt,h.us,fun e=>by omega,fun i e' hi he'=>?_,fun _ z hz=>?_,fun e=>by omega,h.up,h.ins,h.wf⟩
 ·have k1:j-1+1=j:=by omega
  rw[k1]
  by_cases c:j+1≤L.length
  ·rw[if_pos c,if_pos c,if_pos (by omega)];rfl
  ·rw[if_neg c,if_neg c,if_neg (by omega),if_pos (by omega),show j=L.length by omega]
 ·show newest (x.ws++[_]) x.d (1+e'.b).toNat=_
  rw[newest_snoc]
  by_cases c:i=j-1
  ·subst c
   rw[he] at he'
   cases he'
   rw[if_pos rfl]
  ·have:=up_at h.up he' he (by omega)
   have h':=h.ins e' (List.mem_of_getElem? he')
   rw[if_neg (by omega)]
   exact h.hm i e' (by omega) he'
 ·rcases List.mem_append.1 hz with hz | hz
  ·exact h.lo (by omega) z hz
  ·rw[List.mem_singleton.1 hz];show 1≤(1+e.b).toNat;omega
theorem Ph.flush (h:Ph t tl L j x p)(ok:x.Ok)(hk:Dk x)(hj:j=L.length+1):(stepS hi x p).1=rowC 12 (-1) zv 0 x.ws.length∧(stepS hi x p).2.1=0∧(stepS hi x p).2.2.1=x.fls∧Ph t tl L (j+1) (stepS hi x p).2.2.1 (stepS hi x p).2.2.2:=by
 have hp:=h.pt
 rw[if_neg (by omega),if_pos hj,if_neg (by omega)] at hp
 have e1:stepS hi x p=(rowC 12 (-1) zv 0 x.ws.length,0,x.fls,⟨4,t,L,L.length⟩):=by rw[hp];rfl
 rw[e1]
 refine⟨rfl,rfl,rfl,by omega,by omega,?_,h.ta,h.tt,h.us,fun e=>by omega,fun i e hi he=>?_,fun _ z hz=>absurd hz List.not_mem_nil,fun _=>rfl,h.up,h.ins,h.wf⟩
 ·rw[if_neg (by omega),if_neg (by omega),if_pos (by omega),if_neg (by omega)]
 ·show newest [] (settle (fun _=>true) x.ws x.d) (1+e.b).toNat=_
  have hin:=h.ins e (List.mem_of_getElem? he)
  have hc:=ok.g.sz_is
  have:=ok.g.cf.2.1
  rw[newest_settled hk.dl hk.fit (by omega)]
  exact h.hm i e (by have:=(List.getElem?_eq_some_iff.1 he).1;omega) he
theorem Ph.mark (h:Ph t tl L j x p)(hj:j=L.length+2):(stepS hi x p).1=rowC 16 (-1) zv t 0∧(stepS hi x p).2.1=0∧(stepS hi x p).2.2.1={ x with g:=mkG x.g t,ws:=x.ws++[⟨0,encS (supL x.g t)⟩] }∧Ph t tl L (j+1) (stepS hi x p).2.2.1 (stepS hi x p).2.2.2:=by
 have hp:=h.pt
 rw[if_neg (by omega),if_neg (by omega),if_pos hj,if_neg (by omega)] at hp
 have ho:¬Out x.g t:=by
  have:=h.tt;have:=h.ta
  rintro (e | e) <;> omega
 have e1:stepS hi x p=(rowC 16 (-1) zv t 0,0,x.mrk t,⟨5,t,L,L.length⟩):=by
  rw[hp]
  show mrkS x ⟨4,t,L,L.length⟩=_
  unfold mrkS
  rw[if_neg ho]
 have e2:x.mrk t={ x with g:=mkG x.g t,ws:=x.ws++[⟨0,encS (supL x.g t)⟩] }:=by unfold Sx.mrk;rw[if_neg ho]
 refine⟨by rw[e1],by rw[e1],by rw[e1,e2],?_⟩
 rw[e1,e2]
 refine⟨by omega,by omega,?_,h.ta,h.tt,h.us,fun _=>rfl,fun i e hi he=>?_,fun e=>by omega,fun e=>by omega,h.up,h.ins,h.wf⟩
 ·rw[if_neg (by omega),if_neg (by omega),if_neg (by omega),if_neg (by omega)]
 ·show newest (x.ws++[_]) x.d (1+e.b).toNat=_
  have hin:=h.ins e (List.mem_of_getElem? he)
  rw[newest_snoc,if_neg (by omega)]
  exact h.hm i e (by have:=(List.getElem?_eq_some_iff.1 he).1;omega) he
theorem Ph.free (h:Ph t tl L j x p)(ok:x.Ok)(hk:Dk x)(hj:j=L.length+3):(stepS hi x p).1=rowC 17 (-1) zv t (t-tl)∧(stepS hi x p).2.1=0∧(stepS hi x p).2.2.2=⟨1,0,[],0⟩∧(stepS hi x p).2.2.1.ws=[]∧(stepS hi x p).2.2.1.g.tail=t∧(stepS hi x p).2.2.1.a.used=x.a.used-(t-tl)∧(stepS hi x p).2.2.1.L=C.drps x.L L∧(stepS hi x p).2.2.1.g.c=x.g.c∧∀e∈L,ldS x.g.c (x.g.sz:Nat) (stepS hi x p).2.2.1.ws (stepS hi x p).2.2.1.d e.b=(e.v,0):=by
 have hp:=h.pt
 rw[if_neg (by omega),if_neg (by omega),if_neg (by omega),if_neg (by omega)] at hp
 have hmk:=h.ma hj
 have htl:=h.ta
 have htt:=h.tt
 have hus:=h.us
 have hg:x.g.mark=t∧¬x.a.used<t-x.g.tail:=⟨hmk,by omega⟩
 have e1:stepS hi x p=(rowC 17 (-1) zv t (x.g.mark-x.g.tail),0,(x.fre.frd (x.g.mark-x.g.tail)).drp L,⟨1,0,[],0⟩):=by
  rw[hp]
  show freS x ⟨5,t,L,L.length⟩=_
  unfold freS
  rw[if_pos hg]
 have eu:x.a.freS (x.g.mark-x.g.tail)={ x.a with used:=x.a.used-(x.g.mark-x.g.tail) }:=by
  unfold E.Ad.freS
  rw[if_pos (by omega)]
 refine⟨by rw[e1,hmk,htl],by rw[e1],by rw[e1],by rw[e1];rfl,by rw[e1];exact hmk,?_,by rw[e1];rfl,by rw[e1];rfl,fun e he=>?_⟩
 ·rw[e1]
  show (x.a.freS (x.g.mark-x.g.tail)).used=_
  rw[eu,hmk,htl]
 ·rw[e1]
  show ldS x.g.c _ [] (settle (fun _=>true) x.ws x.d) e.b=_
  have hin:=h.ins e he
  have hc:=ok.g.sz_is
  have hcf:=ok.g.cf.2.1
  have hcb:=ok.g.cf.1
  rw[ldS_yes _ _ (rbS_ok (rfS_ok ok.g.cf (by rw[hc])) hin),newest_settled hk.dl hk.fit (by omega)]
  obtain ⟨i,hi⟩:=List.getElem?_of_mem he
  rw[h.hm i e (by have:=(List.getElem?_eq_some_iff.1 hi).1;omega) hi]
  exact hdec_home ⟨hin.1,by omega⟩ (h.wf e he).len
end
open Go.Proofs.Tryz
section
variable {w0 w w' w1:World} {K:Ks} {x y:Sx} {pd:List Cm} {X:Nat→Th}
theorem DS.ldk (h:DS w0 w K x y pd X):(Instr.loadAt 37 (.pointer (some ⟨K.P,5,none⟩))).run prog w=.ok (.agg (pdk K).toArray) w:=by
 obtain ⟨v,h,-⟩:=h.desk
 exact run_loadAt_mid w K.P 5 37 (pdk K) _ (range_part (xs:=ccells K.c) (bs:=pdk K) (cs:=rdk K++[v]) h) underlying37 rfl (by rw[size_dk];rfl)
theorem DS.newblk (h:DS w0 w K x y pd X){k:Nat}(h8:8≤k)(cs:Array Value)(ty:TypeId):DS w0 (w.alloc (.cells cs ty)) K x y pd (put X k (.blk w.heap.size ty cs)) :=
 h.fresh (C.below_alloc w _) h8 (u:=.blk w.heap.size ty cs) (fun _=>heap_alloc_new w _) (fun b hb=>by have:b=w.heap.size:=hb;omega)
theorem DS.newpt (h:DS w0 w K x y pd X){k:Nat}(h8:8≤k):DS w0 (w.alloc (.cells #[.int .i64 1,.int .u64 0,.slice none 0 0,.int .i64 0] 87)) K x y pd (put X k (.pp w.heap.size (.slice none 0 0) ⟨1,0,[],0⟩)) :=
 h.fresh (C.below_alloc w _) h8 (u:=.pp w.heap.size (.slice none 0 0) ⟨1,0,[],0⟩) (fun _=>⟨⟨heap_alloc_new w _,own_none _ _,C.EnsWf.nil,Nat.zero_le _,Nat.le_refl _⟩,fun g hg=>by cases hg⟩) (fun b hb=>by have:b=w.heap.size:=hb;omega)
end
end Go.Proofs.YtcdjepkhdjpjcaaGreatDoor.Q
