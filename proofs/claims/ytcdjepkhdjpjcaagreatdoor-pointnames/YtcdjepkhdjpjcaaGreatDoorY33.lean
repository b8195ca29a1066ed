import Derived.Test.YtcdjepkhdjpjcaaGreatDoorY32
set_option maxHeartbeats 20000000
set_option maxRecDepth 100000
namespace Go.Proofs.YtcdjepkhdjpjcaaGreatDoor.Q
open Go.Proofs.Tryz
open Go.RowKit
def Th.pt (B:Nat)(st t:Int)(v:Value)(L:List C.En)(k:Nat):Th:=⟨fun w G=>C.PtAt w B st t v L k∧∀g,v.ownBlock=some g→G g,fun b=>b=B,fun _ _ b h hb=>by rw[hb];exact h.1.lt,
 fun _ _ _ _ _ h hk hf hS hGG=>⟨⟨(hk.block B h.1.lt (hf B rfl)).trans h.1.st,C.O.own_far h.1.row hk fun g hg=>hS g (h.2 g hg),h.1.wf,h.1.few,h.1.le⟩,fun g hg=>hGG g (h.2 g hg)⟩⟩
section
variable {w0 w w':World} {K:Ks} {x y:Sx} {pd:List Cm} {X:Nat→Th} {i B k:Nat} {st t:Int} {v:Value} {L:List C.En}
theorem DS.pt (h:DS w0 w K x y pd X)(h8:8≤i)(h40:i<40)(e:X i=.pt B st t v L k):C.PtAt w B st t v L k:=by
 obtain ⟨T,G,h,hX⟩:=h
 have:=h.fam.at' i h40
 rw[hX i h8 h40,e] at this
 exact this.1
theorem DS.turnG (h:DS w0 w K x y pd X){i:Nat}(h8:8≤i)(h40:i<40){t:Th}{S N:Nat→Prop}(ht:∀G,(∀j,8≤j→j<40→(X j).at w G)→t.at w' (fun g=>G g∨N g))(hk:C.Kept S w w')(hS:∀b,S b→(X i).foot b)(hf:∀b,t.foot b→(X i).foot b∨w.heap.size≤b)(hN:∀g,N g→w.heap.size≤g∧g<w'.heap.size∧¬t.foot g):DS w0 w' K x y pd (put X i t):=by
 obtain ⟨T,G,h,hX⟩:=h
 have ei:=hX i h8 h40
 have lo:=h.fam.lo i h40
 refine⟨put T i t,_,⟨h.fam.turn (S:=S) h40 (ht G fun j a b=>by rw[← hX j a b];exact h.fam.at' j b) hk (fun b hb=>by rw[ei];exact hS b hb) (fun b hb=>by rw[ei];exact hf b hb) h.below.size (fun _ a=>.inl a) (fun g a=>a.elim .inl fun a=>.inr (hN g a)),hk.into h.below (fun b h1 h2=>by have:=lo b (by rw[ei];exact hS b h2);omega) (Nat.le_refl _),?_,?_,?_,?_,?_,?_,?_,h.okx,h.oky,h.cx,h.cy⟩,fun j a b=>?_⟩
 ·rw[put_other _ _ (by omega)];exact h.t0
 ·rw[put_other _ _ (by omega)];exact h.t1
 ·rw[put_other _ _ (by omega)];exact h.t2
 ·rw[put_other _ _ (by omega)];exact h.t3
 ·rw[put_other _ _ (by omega)];exact h.t4
 ·rw[put_other _ _ (by omega)];exact h.t5
 ·rw[put_other _ _ (by omega),put_other _ _ (by omega)];exact h.t6
 ·by_cases e:j=i
  ·subst e;rw[put_same,put_same]
  ·rw[put_other _ _ e,put_other _ _ e];exact hX j a b
theorem kept_setRow (w:World)(B:Nat)(cs:Array Value):C.Kept (fun b=>b=B) w (w.setRow B cs):=C.Kept.setRow w B cs
theorem DS.ptput (h:DS w0 w K x y pd X)(h8:8≤i)(h40:i<40)(e:X i=.pt B st t v L k){st' t':Int}{k':Nat}(hk:k'≤L.length){cs:Array Value}(hc:cs=#[.int .i64 st',.int .u64 t',v,.int .i64 k']):DS w0 (w.setRow B cs) K x y pd (put X i (.pt B st' t' v L k')):=by
 refine h.turnX h8 h40 (fun G at'=>?_) (kept_setRow w B cs) (fun b hb=>by rw[e];exact hb) (fun b hb=>by rw[e];exact .inl hb)
 have a:=at' i h8 h40
 rw[e] at a
 have kk:=kept_setRow w B cs
 refine⟨⟨by rw[hc];exact setRow_heap w B _ _ 87 (0,0) a.1.st,?_,a.1.wf,a.1.few,hk⟩,a.2⟩
 refine C.O.own_far a.1.row kk fun g hg eg=>?_
 obtain ⟨cur,hc⟩:=C.O.own_typ a.1.row hg
 rw[show g=B from eg,a.1.st] at hc
 cases hc
theorem p_drop (h:DS w0 w K x y pd X)(h8:8≤i)(h40:i<40)(e:X i=.pt B st t v L k):Calls prog 106 #[qp K.kp,v] w fun e w'=>e=.returned (.int .i64 (C.drpsN x.L L:Int))∧DS w0 w' K (x.drp L) y pd X:=by
 obtain ⟨vc,G,hl,at',im,-,back⟩:=h.pcac
 have a:=at' i h8 h40
 rw[e] at a
 obtain ⟨p,c,rfl,hE,hc⟩:=a.1.ein
 refine (C.drop_call hl h.okx.k hE (by have:=a.1.few;omega) (fun a' ha _ hb=>im _ hb (a.2 _ (by rw[ha];rfl)))).mono ?_
 rintro e' w' ⟨rfl,ve',hw⟩
 exact⟨rfl,back w' _ _ _ _ hw (h.okx.drp L)⟩
theorem DS.pst (h:DS w0 w K x y pd X)(h8:8≤i)(h40:i<40)(e:X i=.pt B st t v L k):C.PStands w (some ⟨B,0,none⟩) (L.drop k):=.inr ⟨B,st,t,v,L,k,rfl,h.pt h8 h40 e,rfl⟩
theorem frozen_row {w:World}{B j:Nat}{cs:Array Value}{ty:TypeId}(h:w.heap[B]?=some (.cells cs ty (0,0))):w.frozen? ⟨B,j,none⟩=false:=by simp[World.frozen?,h]
theorem new_pt (w:World):Calls prog 11 #[] w fun e w'=>e=.returned (qp w.heap.size)∧w'=w.alloc (.cells #[.int .i64 1,.int .u64 0,.slice none 0 0,.int .i64 0] 87):=by
 go_enter func11,ntmps11
 go_wp2
 go_ret
 exact⟨rfl,rfl⟩
theorem state_at (h:C.PtAt w B st t v L k):Calls prog 19 #[qp B] w fun e w'=>e=.returned (.int .i64 st)∧w'=w:=by
 have c0:=h.c0
 go_enter func19,ntmps19
 go_wp2
 go_ret
 exact⟨rfl,rfl⟩
theorem state_nil (w:World):Calls prog 19 #[.pointer none] w fun e w'=>e=.returned (.int .i64 0)∧w'=w:=by
 go_enter func19,ntmps19
 go_wp2
 go_ret
 exact⟨rfl,rfl⟩
theorem aim_nil (w:World):Calls prog 28 #[.pointer none] w fun e w'=>e=.returned (.tuple #[.int .u64 0,.bool false])∧w'=w:=by
 go_enter func28,ntmps28
 go_wp2
 go_ret2
 exact⟨rfl,rfl⟩
theorem homeward_at (h:DS w0 w K x y pd X)(h8:8≤i)(h40:i<40)(e:X i=.pt B st t v L k):Calls prog 101 #[qp B] w fun e w'=>(∃u,e=.returned u)∧DS w0 w' K x y pd (put X i (.pt B (if k<L.length then 2 else 3) t v L k)):=by
 have hp:=h.pt h8 h40 e
 have c0:=hp.c0
 have f0:=frozen_row (j:=0) hp.st
 have e1:=setCell_eq_setRow w B 0 _ 87 (0,0) (.int .i64 3) hp.st
 have H1:DS w0 (w.setCell ⟨B,0,none⟩ (.int .i64 3)) K x y pd (put X i (.pt B 3 t v L k)):=by rw[e1];exact h.ptput h8 h40 e hp.le rfl
 have HW:Hid (C.EnsWf (L.drop k)):=fun a ha=>hp.wf a (List.mem_of_mem_drop ha)
 have hle:=hp.le
 clear e1 hp h
 go_enter func101,ntmps101
 go_wp2_with fail
 generalize w.setCell ⟨B,0,none⟩ (.int .i64 3)=w1 at *
 have HD1:Hid (DS w0 w1 K x y pd (put X i (.pt B 3 t v L k))):=H1
 clear H1 c0 f0
 refine (C.next_any (HD1.out.pst h8 h40 (put_same _ _ _)) HW.out).mono ?_
 rintro e' w2 ⟨rfl,b2⟩
 obtain ⟨z,hz,hzl⟩:∃z,(L.drop k).headD C.en0=z∧z.v.length=32:=by
  refine⟨_,rfl,?_⟩
  cases hd:L.drop k with
  | nil=>exact C.zs_len 32
  | cons a l=>exact (HW.out a (by rw[hd];exact List.mem_cons_self ..)).len
 obtain ⟨w3,hw3⟩:∃w3,w3=w2.alloc (.cells (C.ecells z).toArray 54):=⟨_,rfl⟩
 have HAL:Hid ((Instr.alloc 54 true (.tuple #[])).run prog w2=.ok (.pointer (some ⟨w2.heap.size,0,none⟩)) (w2.alloc (.cells (C.ecells C.en0).toArray 54))):=C.allocE C.etC w2
 have HST:Hid ((Instr.storeAt 54 (.pointer (some ⟨w2.heap.size,0,none⟩)) (.agg (C.ecells z).toArray)).run prog (w2.alloc (.cells (C.ecells C.en0).toArray 54))=.ok () w3):=by rw[hw3];exact C.store_newE C.etC w2 z hzl
 have b3:Below w2.heap.size w2 w3:=by rw[hw3];exact C.below_alloc w2 _
 have hd3:=HD1.out.later (C.below_then b2 b3)
 have HD3:Hid (DS w0 w3 K x y pd (put X i (.pt B 3 t v L k))):=hd3
 have hp:=hd3.pt h8 h40 (put_same _ _ _)
 have c0:=hp.c0
 have f0:=frozen_row (j:=0) hp.st
 rw[hz]
 have em:(L.drop k).isEmpty=!decide (k<L.length):=by
  by_cases hl:k<L.length
  ·rw[decide_eq_true hl,List.drop_eq_getElem_cons hl];rfl
  ·rw[decide_eq_false hl,List.drop_eq_nil_of_le (by omega)];rfl
 rw[em]
 clear hz hzl hw3 b2 b3 hd3 HD1 em
 by_cases hlt:k<L.length
 ·have e1:=setCell_eq_setRow w3 B 0 _ 87 (0,0) (.int .i64 2) hp.st
  have H4:Hid (DS w0 (w3.setCell ⟨B,0,none⟩ (.int .i64 2)) K x y pd (put X i (.pt B 2 t v L k))):=by
   rw[e1]
   have:=HD3.out.ptput h8 h40 (put_same _ _ _) (st':=2) (t':=t) (k':=k) hle rfl
   rw[put_put] at this
   exact this
  clear e1 hp HD3
  rw[decide_eq_true hlt]
  go_wp2_with ((with_reducible refine C.at_ops ?_);(first | (refine alI 54 HAL.out ?_) | (refine stI 54 HST.out ?_)))
  go_end0
  exact⟨⟨_,rfl⟩,by first | exact H4.out | (rw[if_pos hlt];exact H4.out)⟩
 ·clear hp
  rw[decide_eq_false hlt]
  go_wp2_with ((with_reducible refine C.at_ops ?_);(first | (refine alI 54 HAL.out ?_) | (refine stI 54 HST.out ?_)))
  go_end0
  exact⟨⟨_,rfl⟩,by first | exact HD3.out | (rw[if_neg hlt];exact HD3.out)⟩
end
abbrev zv:List Int:=C.zs 32
def rowC (k b:Int)(v:List Int)(q c:Int):List Value:=[.int .i64 k,.int .u64 0,.int .i64 0,.int .u64 0,.int .i64 b]++(U8 v++[.int .u64 q,.int .i64 c,.int .i64 0,.slice none 0 0])
abbrev row0:List Value:=rowC 0 0 zv 0 0
theorem size_row:(prog.info? 61).map (·.size)=some 41:=by kernel_rfl
theorem rowC_len {k b:Int}{v:List Int}{q c:Int}(h:v.length=32):(rowC k b v q c).length=41:=by simp[rowC,h]
theorem rowC_one (k b:Int)(v:List Int)(q c:Int):(rowC k b v q c).toArray.all (·.oneCell')=true:=by
 simp[rowC,Value.oneCell']
theorem alloc_row (w:World):(Instr.alloc 61 true (.tuple #[])).run prog w=.ok (.pointer (some ⟨w.heap.size,0,none⟩)) (w.alloc (.cells row0.toArray 61)):=by
 have hz:(prog.info? 61).bind (·.zero)=some (.agg row0.toArray):=by kernel_rfl
 simp only[Instr.alloc,Sem.run_bind,C.zv 61 _ hz,Result.andThen_ok]
 simp[newVar,newRow,Value.cells]
theorem build_row0 (w:World):(Instr.build 61 #[]).run prog w=.ok (.agg row0.toArray) w:=run_build w 61 _ _ (by kernel_rfl)
theorem build_row7 (w:World)(k c:Int):(Instr.build 61 #[(0,.int .i64 k),(4,.int .i64 (-1)),(7,.int .i64 c)]).run prog w=.ok (.agg (rowC k (-1) zv 0 c).toArray) w:=run_build w 61 _ _ (by kernel_rfl)
theorem build_row6 (w:World)(k q:Int):(Instr.build 61 #[(0,.int .i64 k),(4,.int .i64 (-1)),(6,.int .u64 q)]).run prog w=.ok (.agg (rowC k (-1) zv q 0).toArray) w:=run_build w 61 _ _ (by kernel_rfl)
theorem build_row67 (w:World)(k q c:Int):(Instr.build 61 #[(0,.int .i64 k),(4,.int .i64 (-1)),(6,.int .u64 q),(7,.int .i64 c)]).run prog w=.ok (.agg (rowC k (-1) zv q c).toArray) w:=run_build w 61 _ _ (by kernel_rfl)
theorem store_row {w:World}{g:Nat}{ds:List Value}(h:LAt 61 w g row0)(hl:ds.length=41)(ho:ds.toArray.all (·.oneCell')=true):(Instr.storeAt 61 (.pointer (some ⟨g,0,none⟩)) (.agg ds.toArray)).run prog w=.ok () (w.setRow g ds.toArray) :=
 LAt.store h (by rw[size_row,hl]) (by rw[hl,rowC_len (C.zs_len 32)]) ho
section
variable {w0 w w':World} {K:Ks} {x y:Sx} {pd:List Cm} {X:Nat→Th} {i B k:Nat} {st t:Int} {v:Value} {L:List C.En}
theorem DS.blkput (h:DS w0 w K x y pd X){j R:Nat}(h8:8≤j)(h40:j<40){ty:TypeId}{cs:Array Value}(e:X j=.blk R ty cs)(ds:Array Value):DS w0 (w.setRow R ds) K x y pd (put X j (.blk R ty ds)) :=
 h.turnX h8 h40 (fun G at'=>by
  have a:=at' j h8 h40
  rw[e] at a
  exact setRow_heap w R _ _ ty (0,0) a) (C.Kept.setRow w R ds) (fun b hb=>by rw[e];exact hb) (fun b hb=>by rw[e];exact .inl hb)
abbrev X2 (X:Nat→Th)(r:Nat)(K:Ks):Nat→Th:=put (put X 36 (.blk r 37 (pdk K).toArray)) 37 (.blk (r+1) 61 row0.toArray)
theorem DS.two (h:DS w0 w K x y pd X):DS w0 ((w.alloc (.cells (pdk K).toArray 37)).alloc (.cells row0.toArray 61)) K x y pd (X2 X w.heap.size K):=by
 have h1:=h.fresh (C.below_alloc w (.cells (pdk K).toArray 37)) (k:=36) (by decide) (u:=.blk w.heap.size 37 (pdk K).toArray) (fun _=>heap_alloc_new w _) (fun b hb=>by have:b=w.heap.size:=hb;omega)
 refine h1.fresh (C.below_alloc _ (.cells row0.toArray 61)) (k:=37) (by decide) (u:=.blk (w.heap.size+1) 61 row0.toArray) (fun _=>?_) (fun b hb=>?_)
 ·have:=heap_alloc_new (w.alloc (.cells (pdk K).toArray 37)) (.cells row0.toArray 61)
  rwa [World.size_alloc] at this
 ·have:b=w.heap.size+1:=hb
  rw[World.size_alloc];omega
theorem DS.dkin {r:Nat}(h:DS w0 w K x y pd X)(e:X 36=.blk r 37 (pdk K).toArray):DkIn w r K:=h.blk (i:=36) (by decide) (by decide) e
theorem DS.told {r:Nat}{w1:World}(h:DS w0 w1 K x y pd (X2 X r K))(e36:X 36=.no)(e37:X 37=.no)(ds:List Value):DS w0 (w1.setRow (r+1) ds.toArray) K x y pd X∧LAt 61 (w1.setRow (r+1) ds.toArray) (r+1) ds:=by
 have h1:=h.blkput (j:=37) (by decide) (by decide) (put_same _ _ _) ds.toArray
 refine⟨?_,h1.blk (i:=37) (by decide) (by decide) (put_same _ _ _)⟩
 have:=(h1.drop (k:=37) (by decide)).drop (k:=36) (by decide)
 rw[put_put,put_put,put_comm _ _ _ (show 37≠36 by decide),put_put,put_idem X 36 e36,put_idem X 37 e37] at this
 exact this
theorem X2_put {r:Nat}{u:Th}(h:i<36):put (X2 X r K) i u=X2 (put X i u) r K:=by rw[X2,X2,put_comm _ _ _ (show i≠36 by omega),put_comm _ _ _ (show i≠37 by omega)]
theorem flush_at (h:DS w0 w K x y pd X)(hk:x.ws.length≤100000)(h8:8≤i)(h36:i<36)(e:X i=.pt B st t v L k)(e36:X 36=.no)(e37:X 37=.no):Calls prog 45 #[qp B,.agg (pdk K).toArray] w fun e w'=>e=.returned (.tuple #[.agg (rowC 12 (-1) zv 0 x.ws.length).toArray,.int .i64 0])∧DS w0 w' K x.fls y pd (put X i (.pt B 4 t v L k)):=by
 obtain ⟨r,hr⟩:∃r,w.heap.size=r:=⟨_,rfl⟩
 obtain ⟨w2,hw2⟩:∃W,(w.alloc (.cells (pdk K).toArray 37)).alloc (.cells row0.toArray 61)=W:=⟨_,rfl⟩
 have HD2:Hid (DS w0 w2 K x y pd (X2 X r K)):=by rw[← hw2,← hr];exact h.two
 have HAL:Hid ((Instr.alloc 61 true (.tuple #[])).run prog (w.alloc (.cells (pdk K).toArray 37))=.ok (.pointer (some ⟨r+1,0,none⟩)) w2):=by
  have:=alloc_row (w.alloc (.cells (pdk K).toArray 37))
  rw[World.size_alloc,hr,hw2] at this
  exact this
 have HE:Hid (∀j,j≠36→j≠37→X2 X r K j=X j):=fun j a b=>(put_other _ _ b).trans (put_other _ _ a)
 have p1:=(HD2.out.dkin rfl).lp
 clear h hw2
 go_enter func45,ntmps45
 go_wp2_with ((with_reducible refine C.at_ops ?_);(refine alI 61 HAL.out ?_))
 refine (p_flush HD2.out hk).mono ?_
 rintro e' w3 ⟨rfl,hd⟩
 have ei:=(HE.out i (by omega) (by omega)).trans e
 have hp:=hd.pt h8 (by omega) ei
 have c0:=hp.c0
 have f0:=frozen_row (j:=0) hp.st
 have e1:=setCell_eq_setRow w3 B 0 _ 87 (0,0) (.int .i64 4) hp.st
 have hd4:=hd.ptput h8 (by omega) ei (st':=4) (t':=t) (k':=k) hp.le (cs:=#[.int .i64 4,.int .u64 t,v,.int .i64 k]) rfl
 rw[X2_put h36] at hd4
 obtain ⟨w4,hw4⟩:∃W,w3.setCell ⟨B,0,none⟩ (.int .i64 4)=W:=⟨_,rfl⟩
 have HD4:Hid (DS w0 w4 K x.fls y pd (X2 (put X i (.pt B 4 t v L k)) r K)):=by rw[← hw4,e1];exact hd4
 clear hd hd4 hp ei e1 HD2 HAL p1 hk
 have HBD:Hid (_):=build_row7 w4 12 x.ws.length
 have HST:Hid ((Instr.storeAt 61 (.pointer (some ⟨r+1,0,none⟩)) (.agg (rowC 12 (-1) zv 0 x.ws.length).toArray)).run prog w4=.ok () (w4.setRow (r+1) (rowC 12 (-1) zv 0 x.ws.length).toArray)):=store_row (HD4.out.blk (i:=37) (by decide) (by decide) (put_same _ _ _)) (rowC_len (C.zs_len 32)) (rowC_one _ _ _ _ _)
 obtain ⟨hdz,lz⟩:=HD4.out.told (by rw[put_other _ _ (by omega)];exact e36) (by rw[put_other _ _ (by omega)];exact e37) (rowC 12 (-1) zv 0 x.ws.length)
 have HDz:Hid (DS w0 (w4.setRow (r+1) (rowC 12 (-1) zv 0 x.ws.length).toArray) K x.fls y pd (put X i (.pt B 4 t v L k))):=hdz
 have HLz:Hid (LAt 61 (w4.setRow (r+1) (rowC 12 (-1) zv 0 x.ws.length).toArray) (r+1) (rowC 12 (-1) zv 0 x.ws.length)):=lz
 clear hdz lz HD4
 generalize w4.setRow (r+1) (rowC 12 (-1) zv 0 x.ws.length).toArray=wz at *
 go_wp2_with ((with_reducible refine C.at_ops ?_);(first | ((refine C.wpList_build_is (vs:=[(0,.int .i64 12),(4,.int .i64 (-1)),(7,.int .i64 x.ws.length)]) (by rfl) 61 rfl (by rfl) HBD.out ?_);simp only[Act.put,zA,zB,zC]) | (refine stI 61 HST.out ?_)))
 (try simp only[Exit.inBlock,Exit.then])
 exact bodyPost_ret (C.results_lat results45 _ _ (r+1) 61 _ _ (by rfl) HLz.out underlying61 rfl (by rw[size_row,rowC_len (C.zs_len 32)])) rfl ⟨rfl,HDz.out⟩
theorem mark_bad (ht:Tab w0)(h:DS w0 w K x y pd X)(hk:x.ws.length≤100000)(h8:8≤i)(h36:i<36)(e:X i=.pt B st t v L k)(e36:X 36=.no)(e37:X 37=.no)(ho:Out x.g t):Calls prog 46 #[qp B,.agg (pdk K).toArray] w fun e w'=>e=.returned (.tuple #[.agg row0.toArray,.int .i64 2])∧DS w0 w' K (x.mrk t) y pd X:=by
 obtain ⟨r,hr⟩:∃r,w.heap.size=r:=⟨_,rfl⟩
 obtain ⟨w2,hw2⟩:∃W,(w.alloc (.cells (pdk K).toArray 37)).alloc (.cells row0.toArray 61)=W:=⟨_,rfl⟩
 have HD2:Hid (DS w0 w2 K x y pd (X2 X r K)):=by rw[← hw2,← hr];exact h.two
 have HAL:Hid ((Instr.alloc 61 true (.tuple #[])).run prog (w.alloc (.cells (pdk K).toArray 37))=.ok (.pointer (some ⟨r+1,0,none⟩)) w2):=by
  have:=alloc_row (w.alloc (.cells (pdk K).toArray 37))
  rw[World.size_alloc,hr,hw2] at this
  exact this
 have HE:Hid (∀j,j≠36→j≠37→X2 X r K j=X j):=fun j a b=>(put_other _ _ b).trans (put_other _ _ a)
 have p1:=(HD2.out.dkin rfl).lp
 clear h hw2
 go_enter func46,ntmps46
 go_wp2_with ((with_reducible refine C.at_ops ?_);(refine alI 61 HAL.out ?_))
 have HI:Hid (X2 X r K i=.pt B st t v L k):=(HE.out i (by omega) (by omega)).trans e
 have HD3:Hid (DS w0 w2.drew K x y pd (X2 X r K)):=HD2.out.later (C.below_drawn 1)
 clear HD2 HAL p1
 refine wp_region_noPanic ?_
 refine wp_region_held_drew (S:=fun W=>DkIn W r K∧C.PtAt W B st t v L k) (by kernel_rfl) ⟨HD3.out.dkin rfl,HD3.out.pt h8 (by omega) HI.out⟩ (fun hHeld=>?_)
 generalize w2.drew=w3 at *
 refine tk 0 hHeld ?_
 refine tkl 1 hHeld (fun _ s=>s.1.lp) ?_
 refine tk 2 hHeld ?_
 refine tk 3 hHeld ?_
 refine tk 4 hHeld ?_
 refine tkl 5 hHeld (fun _ s=>s.2.c1) ?_
 refine tkr 6 fun Kc hKc=>?_
 go_simp
 refine (p_mark ht HD3.out hk t).mono ?_
 rintro e' w4 ⟨rfl,hd⟩
 have HD4:Hid (DS w0 w4 K (x.mrk t) y pd (X2 X r K)):=hd
 clear hd HD3
 refine hKc.out _ _ ⟨HD4.out.dkin rfl,HD4.out.pt h8 (by omega) HI.out⟩ (fun hHeld=>?_)
 clear hKc Kc
 refine tk 7 hHeld ?_
 clear hHeld
 refine wpAnyH_done (by kernel_rfl) (NoPanic.normal ?_) _
 rw[if_pos ho]
 clear hHeld HI HE
 have HBD:Hid (_):=build_row0 w4
 have HST:Hid ((Instr.storeAt 61 (.pointer (some ⟨r+1,0,none⟩)) (.agg (row0).toArray)).run prog w4=.ok () (w4.setRow (r+1) (row0).toArray)):=store_row (HD4.out.blk (i:=37) (by decide) (by decide) (put_same _ _ _)) (rowC_len (C.zs_len 32)) (rowC_one _ _ _ _ _)
 obtain ⟨hdz,lz⟩:=HD4.out.told e36 e37 (row0)
 have HDz:Hid (DS w0 (w4.setRow (r+1) (row0).toArray) K (x.mrk t) y pd X):=hdz
 have HLz:Hid (LAt 61 (w4.setRow (r+1) (row0).toArray) (r+1) (row0)):=lz
 clear hdz lz HD4
 generalize w4.setRow (r+1) (row0).toArray=wz at *
 go_wp2_with ((with_reducible refine C.at_ops ?_);(first | ((refine C.wpList_build_is (vs:=[]) (by rfl) 61 rfl (by rfl) HBD.out ?_);simp only[Act.put,zA,zB,zC]) | (refine stI 61 HST.out ?_)))
 (try simp only[Exit.inBlock,Exit.then])
 exact bodyPost_ret (C.results_lat results46 _ _ (r+1) 61 _ _ (by rfl) HLz.out underlying61 rfl (by rw[size_row,rowC_len (C.zs_len 32)])) rfl ⟨rfl,HDz.out⟩
theorem mark_good (ht:Tab w0)(h:DS w0 w K x y pd X)(hk:x.ws.length≤100000)(h8:8≤i)(h36:i<36)(e:X i=.pt B st t v L k)(e36:X 36=.no)(e37:X 37=.no)(ho:¬Out x.g t):Calls prog 46 #[qp B,.agg (pdk K).toArray] w fun e w'=>e=.returned (.tuple #[.agg (rowC 16 (-1) zv t 0).toArray,.int .i64 0])∧DS w0 w' K (x.mrk t) y pd (put X i (.pt B 5 t v L k)):=by
 obtain ⟨r,hr⟩:∃r,w.heap.size=r:=⟨_,rfl⟩
 obtain ⟨w2,hw2⟩:∃W,(w.alloc (.cells (pdk K).toArray 37)).alloc (.cells row0.toArray 61)=W:=⟨_,rfl⟩
 have HD2:Hid (DS w0 w2 K x y pd (X2 X r K)):=by rw[← hw2,← hr];exact h.two
 have HAL:Hid ((Instr.alloc 61 true (.tuple #[])).run prog (w.alloc (.cells (pdk K).toArray 37))=.ok (.pointer (some ⟨r+1,0,none⟩)) w2):=by
  have:=alloc_row (w.alloc (.cells (pdk K).toArray 37))
  rw[World.size_alloc,hr,hw2] at this
  exact this
 have HE:Hid (∀j,j≠36→j≠37→X2 X r K j=X j):=fun j a b=>(put_other _ _ b).trans (put_other _ _ a)
 have p1:=(HD2.out.dkin rfl).lp
 clear h hw2
 go_enter func46,ntmps46
 go_wp2_with ((with_reducible refine C.at_ops ?_);(refine alI 61 HAL.out ?_))
 have HI:Hid (X2 X r K i=.pt B st t v L k):=(HE.out i (by omega) (by omega)).trans e
 have HD3:Hid (DS w0 w2.drew K x y pd (X2 X r K)):=HD2.out.later (C.below_drawn 1)
 clear HD2 HAL p1
 refine wp_region_noPanic ?_
 refine wp_region_held_drew (S:=fun W=>DkIn W r K∧C.PtAt W B st t v L k) (by kernel_rfl) ⟨HD3.out.dkin rfl,HD3.out.pt h8 (by omega) HI.out⟩ (fun hHeld=>?_)
 generalize w2.drew=w3 at *
 refine tk 0 hHeld ?_
 refine tkl 1 hHeld (fun _ s=>s.1.lp) ?_
 refine tk 2 hHeld ?_
 refine tk 3 hHeld ?_
 refine tk 4 hHeld ?_
 refine tkl 5 hHeld (fun _ s=>s.2.c1) ?_
 refine tkr 6 fun Kc hKc=>?_
 go_simp
 refine (p_mark ht HD3.out hk t).mono ?_
 rintro e' w4 ⟨rfl,hd⟩
 have HD4:Hid (DS w0 w4 K (x.mrk t) y pd (X2 X r K)):=hd
 clear hd HD3
 refine hKc.out _ _ ⟨HD4.out.dkin rfl,HD4.out.pt h8 (by omega) HI.out⟩ (fun hHeld=>?_)
 clear hKc Kc
 refine tk 7 hHeld ?_
 clear hHeld
 refine wpAnyH_done (by kernel_rfl) (NoPanic.normal ?_) _
 rw[if_neg ho]
 have hp:=HD4.out.pt h8 (by omega) HI.out
 have c0:=hp.c0
 have f0:=frozen_row (j:=0) hp.st
 have e1:=setCell_eq_setRow w4 B 0 _ 87 (0,0) (.int .i64 5) hp.st
 have hd5:=HD4.out.ptput h8 (by omega) HI.out (st':=5) (t':=t) (k':=k) hp.le (cs:=#[.int .i64 5,.int .u64 t,v,.int .i64 k]) rfl
 rw[X2_put h36] at hd5
 obtain ⟨w5,hw5⟩:∃W,w4.setCell ⟨B,0,none⟩ (.int .i64 5)=W:=⟨_,rfl⟩
 have HD5:Hid (DS w0 w5 K (x.mrk t) y pd (X2 (put X i (.pt B 5 t v L k)) r K)):=by rw[← hw5,e1];exact hd5
 have c1:=(HD5.out.pt h8 (by omega) (by rw[← X2_put h36];exact put_same _ _ _)).c1
 clear hd5 hp e1 HD4 hHeld HI HE hk
 have HBD:Hid (_):=build_row6 w5 16 t
 have HST:Hid ((Instr.storeAt 61 (.pointer (some ⟨r+1,0,none⟩)) (.agg (rowC 16 (-1) zv t 0).toArray)).run prog w5=.ok () (w5.setRow (r+1) (rowC 16 (-1) zv t 0).toArray)):=store_row (HD5.out.blk (i:=37) (by decide) (by decide) (put_same _ _ _)) (rowC_len (C.zs_len 32)) (rowC_one _ _ _ _ _)
 obtain ⟨hdz,lz⟩:=HD5.out.told (by rw[put_other _ _ (by omega)];exact e36) (by rw[put_other _ _ (by omega)];exact e37) (rowC 16 (-1) zv t 0)
 have HDz:Hid (DS w0 (w5.setRow (r+1) (rowC 16 (-1) zv t 0).toArray) K (x.mrk t) y pd (put X i (.pt B 5 t v L k))):=hdz
 have HLz:Hid (LAt 61 (w5.setRow (r+1) (rowC 16 (-1) zv t 0).toArray) (r+1) (rowC 16 (-1) zv t 0)):=lz
 clear hdz lz HD5
 generalize w5.setRow (r+1) (rowC 16 (-1) zv t 0).toArray=wz at *
 go_wp2_with ((with_reducible refine C.at_ops ?_);(first | ((refine C.wpList_build_is (vs:=[(0,.int .i64 16),(4,.int .i64 (-1)),(6,.int .u64 t)]) (by rfl) 61 rfl (by rfl) HBD.out ?_);simp only[Act.put,zA,zB,zC]) | (refine stI 61 HST.out ?_)))
 (try simp only[Exit.inBlock,Exit.then])
 exact bodyPost_ret (C.results_lat results46 _ _ (r+1) 61 _ _ (by rfl) HLz.out underlying61 rfl (by rw[size_row,rowC_len (C.zs_len 32)])) rfl ⟨rfl,HDz.out⟩
end
section
variable {w0 w w':World} {K:Ks} {x y:Sx} {pd:List Cm} {X:Nat→Th} {i B k:Nat} {st t:Int} {v:Value} {L:List C.En}
theorem range_part {w:World}{g:Nat}{ty:TypeId}{xs bs cs:List Value}(h:w.heap[g]?=some (.cells (xs++(bs++cs)).toArray ty (0,0))):w.rangeAt g xs.length bs:=by
 intro j u hu
 rw[cell_of_row _ _ _ _ _ _ h]
 have hj:j<bs.length:=(List.getElem?_eq_some_iff.1 hu).1
 rw[List.getElem?_toArray,List.getElem?_append_right (Nat.le_add_right _ _),Nat.add_sub_cancel_left,List.getElem?_append_left hj]
 exact hu
theorem DkIn.cfg {r:Nat}(h:DkIn w r K):(Instr.loadAt 23 (.pointer (some ⟨r,0,none⟩))).run prog w=.ok (.agg (ccells K.c).toArray) w :=
 run_loadAt_mid w r 0 23 (ccells K.c) _ (range_part (xs:=[]) (bs:=ccells K.c) h) underlying23 rfl (by rw[size23,ccells_len])
theorem size_val:(prog.info? 51).map (·.size)=some 32:=by kernel_rfl
theorem ent_val {g:Nat}{z:C.En}(h:w.heap[g]?=some (.cells (C.ecells z).toArray 54 (0,0)))(hz:z.v.length=32):(Instr.loadAt 51 (.pointer (some ⟨g,1,none⟩))).run prog w=.ok (.agg (U8 z.v).toArray) w :=
 run_loadAt_mid w g 1 51 (U8 z.v) _ (range_part (xs:=[.int .i64 z.b]) (bs:=U8 z.v) h) underlying51 rfl (by rw[size_val];simp[hz])
theorem ent_blk {g:Nat}{z:C.En}(h:w.heap[g]?=some (.cells (C.ecells z).toArray 54 (0,0))):w.cell? ⟨g,0,none⟩=some (.int .i64 z.b):=by rw[cell_of_row _ _ _ _ _ _ h];rfl
abbrev plR:List (Nat × Nat):=[(0,1),(1,1),(2,1),(3,1),(4,1),(5,32),(37,1),(38,1),(39,1),(40,1)]
theorem places_row:C.placesOf prog 61=some plR:=by kernel_rfl
theorem zero_row:(prog.info? 61).bind (·.zero)=some (.agg row0.toArray):=by kernel_rfl
theorem build_row5 (w:World)(k b:Int)(u:List Int)(hu:u.length=32):(Instr.build 61 #[(0,.int .i64 k),(4,.int .i64 b),(5,.agg (U8 u).toArray)]).run prog w=.ok (.agg (rowC k b u 0 0).toArray) w:=by
 refine run_build w 61 _ _ ((C.built_of 61 _ _ _ places_row zero_row).trans ?_)
 show Instr.fill (plR.toArray[·]?) (rowC 0 0 zv 0 0).toArray [(0,.int .i64 k),(4,.int .i64 b),(5,.agg (U8 u).toArray)]=_
 have e1:∀rest,Instr.fill (plR.toArray[·]?) (rowC 0 0 zv 0 0).toArray ((0,.int .i64 k) :: rest)=Instr.fill (plR.toArray[·]?) (rowC k 0 zv 0 0).toArray rest:=fun rest=>C.fill_step 0 1 0 rfl _ [.int .i64 k] _ rfl rfl (by rw[rowC_len (C.zs_len 32)];omega) rest
 have e2:∀rest,Instr.fill (plR.toArray[·]?) (rowC k 0 zv 0 0).toArray ((4,.int .i64 b) :: rest)=Instr.fill (plR.toArray[·]?) (rowC k b zv 0 0).toArray rest:=fun rest=>C.fill_step 4 1 4 rfl _ [.int .i64 b] _ rfl rfl (by rw[rowC_len (C.zs_len 32)];omega) rest
 have e3:∀rest,Instr.fill (plR.toArray[·]?) (rowC k b zv 0 0).toArray ((5,.agg (U8 u).toArray) :: rest)=Instr.fill (plR.toArray[·]?) (rowC k b u 0 0).toArray rest:=fun rest=>by
  rw[C.fill_step 5 32 5 rfl _ (U8 u) _ rfl (by rw[U8_length,hu]) (by rw[rowC_len (C.zs_len 32)];omega) rest]
  congr 2
  rw[U8_length,hu]
  rfl
 rw[e1,e2,e3]
 rfl
theorem carry_bad {z:C.En}(ht:Tab w0)(h:DS w0 w K x y pd X)(hk:x.ws.length≤100000)(h8:8≤i)(h35:i<35)(e:X i=.pt B st t v L k)(e35:X 35=.no)(e36:X 36=.no)(e37:X 37=.no)(HW:Hid (C.EnsWf (L.drop k)))(HZ:Hid ((L.drop k).headD C.en0=z∧z.v.length=32∧Bytes z.v))(hs:¬x.savE z.b=0):Calls prog 44 #[qp B,.agg (pdk K).toArray] w fun e w'=>e=.returned (.tuple #[.agg row0.toArray,.int .i64 (x.savE z.b)])∧DS w0 w' K (x.sav z.b z.v) y pd X:=by
 obtain ⟨r,hr⟩:∃r,w.heap.size=r:=⟨_,rfl⟩
 obtain ⟨w2,hw2⟩:∃W,(w.alloc (.cells (pdk K).toArray 37)).alloc (.cells row0.toArray 61)=W:=⟨_,rfl⟩
 have HD2:Hid (DS w0 w2 K x y pd (X2 X r K)):=by rw[← hw2,← hr];exact h.two
 have HAL:Hid ((Instr.alloc 61 true (.tuple #[])).run prog (w.alloc (.cells (pdk K).toArray 37))=.ok (.pointer (some ⟨r+1,0,none⟩)) w2):=by
  have:=alloc_row (w.alloc (.cells (pdk K).toArray 37))
  rw[World.size_alloc,hr,hw2] at this
  exact this
 have HE:Hid (∀j,j≠36→j≠37→X2 X r K j=X j):=fun j a b=>(put_other _ _ b).trans (put_other _ _ a)
 clear h hw2
 go_enter func44,ntmps44
 go_wp2_with ((with_reducible refine C.at_ops ?_);(refine alI 61 HAL.out ?_))
 have ei2:=(HE.out i (by omega) (by omega)).trans e
 refine (C.next_any (HD2.out.pst h8 (by omega) ei2) HW.out).mono ?_
 rintro e' w3 ⟨rfl,b3⟩
 obtain ⟨E,hE⟩:∃E,w3.heap.size=E:=⟨_,rfl⟩
 obtain ⟨w4,hw4⟩:∃w4,w4=w3.alloc (.cells (C.ecells z).toArray 54):=⟨_,rfl⟩
 have HAL4:Hid ((Instr.alloc 54 true (.tuple #[])).run prog w3=.ok (.pointer (some ⟨E,0,none⟩)) (w3.alloc (.cells (C.ecells C.en0).toArray 54))):=by rw[← hE];exact C.allocE C.etC w3
 have HST4:Hid ((Instr.storeAt 54 (.pointer (some ⟨E,0,none⟩)) (.agg (C.ecells z).toArray)).run prog (w3.alloc (.cells (C.ecells C.en0).toArray 54))=.ok () w4):=by rw[hw4,← hE];exact C.store_newE C.etC w3 z HZ.out.2.1
 have b4:Below w3.heap.size w3 w4:=by rw[hw4];exact C.below_alloc w3 _
 have hd4:=(HD2.out.later b3).fresh b4 (k:=35) (by decide) (u:=.blk E 54 (C.ecells z).toArray) (fun _=>by rw[hw4,← hE];exact heap_alloc_new w3 _) (fun b hb=>by have:b=E:=hb;omega)
 rw[X2_put (by omega)] at hd4
 obtain ⟨X',hX'⟩:∃X':Nat→Th,put X 35 (.blk E 54 (C.ecells z).toArray)=X':=⟨_,rfl⟩
 have HX:Hid (X' 35=.blk E 54 (C.ecells z).toArray∧X' i=.pt B st t v L k∧X' 36=.no∧X' 37=.no∧(∀u,put (put X' i u) 35 .no=put X i u)∧put X' 35 .no=X):=by
  rw[← hX']
  refine⟨put_same _ _ _,(put_other _ _ (by omega)).trans e,(put_other _ _ (by omega)).trans e36,(put_other _ _ (by omega)).trans e37,fun u=>?_,by rw[put_put,put_idem X 35 e35]⟩
  rw[put_comm _ _ _ (show i≠35 by omega),put_put,put_comm _ _ _ (show 35≠i by omega)]
  exact put_idem _ 35 ((put_other _ _ (by omega)).trans e35)
 rw[hX'] at hd4
 have HD4:Hid (DS w0 w4 K x y pd (X2 X' r K)):=hd4
 have d1:=(hd4.dkin rfl).dp
 have HCF:Hid (_):=(hd4.dkin rfl).cfg
 have hb4:w4.heap[E]?=some (.cells (C.ecells z).toArray 54 (0,0)):=hd4.blk (i:=35) (by decide) (by decide) ((put_other _ _ (by decide)).trans ((put_other _ _ (by decide)).trans HX.out.1))
 have z0:=ent_blk hb4
 have HEV:Hid (_):=ent_val hb4 HZ.out.2.1
 rw[HZ.out.1]
 clear hd4 hb4 hw4 b4 b3 hE ei2 HD2 HAL hX' HE e36 e37 e35 e HW
 go_wp2_with ((with_reducible refine C.at_ops ?_);(first | (refine alI 54 HAL4.out ?_) | (refine stI 54 HST4.out ?_) | (refine ldI 23 HCF.out ?_) | (refine ldI 51 HEV.out ?_)))
 refine (p_save ht HD4.out hk z.b z.v HZ.out.2.1 HZ.out.2.2).mono ?_
 rintro e' w5 ⟨rfl,hd⟩
 have HD5:Hid (DS w0 w5 K (x.sav z.b z.v) y pd (X2 X' r K)):=hd
 clear hd HD4 d1 HCF z0 HEV HAL4 HST4
 have e36:=HX.out.2.2.1
 have e37:=HX.out.2.2.2.1
 have HBD:Hid (_):=build_row0 w5
 have HST:Hid ((Instr.storeAt 61 (.pointer (some ⟨r+1,0,none⟩)) (.agg (row0).toArray)).run prog w5=.ok () (w5.setRow (r+1) (row0).toArray)):=store_row (HD5.out.blk (i:=37) (by decide) (by decide) (put_same _ _ _)) (rowC_len (C.zs_len 32)) (rowC_one _ _ _ _ _)
 obtain ⟨hdz,lz⟩:=HD5.out.told e36 e37 (row0)
 have HDz:Hid (DS w0 (w5.setRow (r+1) (row0).toArray) K (x.sav z.b z.v) y pd X'):=hdz
 have HLz:Hid (LAt 61 (w5.setRow (r+1) (row0).toArray) (r+1) (row0)):=lz
 clear hdz lz HD5
 generalize w5.setRow (r+1) (row0).toArray=wz at *
 have HDy:Hid (DS w0 wz K (x.sav z.b z.v) y pd X):=by
  have:=HDz.out.drop (k:=35) (by decide)
  rw[HX.out.2.2.2.2.2] at this
  exact this
 clear HDz e36 e37 HX
 go_wp2_with ((with_reducible refine C.at_ops ?_);(first | ((refine C.wpList_build_is (vs:=[]) (by rfl) 61 rfl (by rfl) HBD.out ?_);simp only[Act.put,zA,zB,zC]) | (refine stI 61 HST.out ?_)))
 (try simp only[Exit.inBlock,Exit.then])
 exact bodyPost_ret (C.results_lat results44 _ _ (r+1) 61 _ _ (by rfl) HLz.out underlying61 rfl (by rw[size_row,rowC_len (C.zs_len 32)])) rfl ⟨rfl,HDy.out⟩
theorem carry_good {z:C.En}{s2:Int}(HS2:Hid ((if k+1<L.length then (2:Int) else 3)=s2))(ht:Tab w0)(h:DS w0 w K x y pd X)(hk:x.ws.length≤100000)(h8:8≤i)(h35:i<35)(e:X i=.pt B st t v L k)(e35:X 35=.no)(e36:X 36=.no)(e37:X 37=.no)(HW:Hid (C.EnsWf (L.drop k)))(HZ:Hid ((L.drop k).headD C.en0=z∧z.v.length=32∧Bytes z.v))(hlt:k<L.length)(hs:x.savE z.b=0):Calls prog 44 #[qp B,.agg (pdk K).toArray] w fun e w'=>e=.returned (.tuple #[.agg (rowC 15 z.b z.v 0 0).toArray,.int .i64 0])∧DS w0 w' K (x.sav z.b z.v) y pd (put X i (.pt B s2 t v L (k+1))):=by
 obtain ⟨r,hr⟩:∃r,w.heap.size=r:=⟨_,rfl⟩
 obtain ⟨w2,hw2⟩:∃W,(w.alloc (.cells (pdk K).toArray 37)).alloc (.cells row0.toArray 61)=W:=⟨_,rfl⟩
 have HD2:Hid (DS w0 w2 K x y pd (X2 X r K)):=by rw[← hw2,← hr];exact h.two
 have HAL:Hid ((Instr.alloc 61 true (.tuple #[])).run prog (w.alloc (.cells (pdk K).toArray 37))=.ok (.pointer (some ⟨r+1,0,none⟩)) w2):=by
  have:=alloc_row (w.alloc (.cells (pdk K).toArray 37))
  rw[World.size_alloc,hr,hw2] at this
  exact this
 have HE:Hid (∀j,j≠36→j≠37→X2 X r K j=X j):=fun j a b=>(put_other _ _ b).trans (put_other _ _ a)
 clear h hw2
 go_enter func44,ntmps44
 go_wp2_with ((with_reducible refine C.at_ops ?_);(refine alI 61 HAL.out ?_))
 have ei2:=(HE.out i (by omega) (by omega)).trans e
 refine (C.next_any (HD2.out.pst h8 (by omega) ei2) HW.out).mono ?_
 rintro e' w3 ⟨rfl,b3⟩
 obtain ⟨E,hE⟩:∃E,w3.heap.size=E:=⟨_,rfl⟩
 obtain ⟨w4,hw4⟩:∃w4,w4=w3.alloc (.cells (C.ecells z).toArray 54):=⟨_,rfl⟩
 have HAL4:Hid ((Instr.alloc 54 true (.tuple #[])).run prog w3=.ok (.pointer (some ⟨E,0,none⟩)) (w3.alloc (.cells (C.ecells C.en0).toArray 54))):=by rw[← hE];exact C.allocE C.etC w3
 have HST4:Hid ((Instr.storeAt 54 (.pointer (some ⟨E,0,none⟩)) (.agg (C.ecells z).toArray)).run prog (w3.alloc (.cells (C.ecells C.en0).toArray 54))=.ok () w4):=by rw[hw4,← hE];exact C.store_newE C.etC w3 z HZ.out.2.1
 have b4:Below w3.heap.size w3 w4:=by rw[hw4];exact C.below_alloc w3 _
 have hd4:=(HD2.out.later b3).fresh b4 (k:=35) (by decide) (u:=.blk E 54 (C.ecells z).toArray) (fun _=>by rw[hw4,← hE];exact heap_alloc_new w3 _) (fun b hb=>by have:b=E:=hb;omega)
 rw[X2_put (by omega)] at hd4
 obtain ⟨X',hX'⟩:∃X':Nat→Th,put X 35 (.blk E 54 (C.ecells z).toArray)=X':=⟨_,rfl⟩
 have HX:Hid (X' 35=.blk E 54 (C.ecells z).toArray∧X' i=.pt B st t v L k∧X' 36=.no∧X' 37=.no∧(∀u,put (put X' i u) 35 .no=put X i u)∧put X' 35 .no=X):=by
  rw[← hX']
  refine⟨put_same _ _ _,(put_other _ _ (by omega)).trans e,(put_other _ _ (by omega)).trans e36,(put_other _ _ (by omega)).trans e37,fun u=>?_,by rw[put_put,put_idem X 35 e35]⟩
  rw[put_comm _ _ _ (show i≠35 by omega),put_put,put_comm _ _ _ (show 35≠i by omega)]
  exact put_idem _ 35 ((put_other _ _ (by omega)).trans e35)
 rw[hX'] at hd4
 have HD4:Hid (DS w0 w4 K x y pd (X2 X' r K)):=hd4
 have d1:=(hd4.dkin rfl).dp
 have HCF:Hid (_):=(hd4.dkin rfl).cfg
 have hb4:w4.heap[E]?=some (.cells (C.ecells z).toArray 54 (0,0)):=hd4.blk (i:=35) (by decide) (by decide) ((put_other _ _ (by decide)).trans ((put_other _ _ (by decide)).trans HX.out.1))
 have z0:=ent_blk hb4
 have HEV:Hid (_):=ent_val hb4 HZ.out.2.1
 rw[HZ.out.1]
 clear hd4 hb4 hw4 b4 b3 hE ei2 HD2 HAL hX' HE e36 e37 e35 e HW
 go_wp2_with ((with_reducible refine C.at_ops ?_);(first | (refine alI 54 HAL4.out ?_) | (refine stI 54 HST4.out ?_) | (refine ldI 23 HCF.out ?_) | (refine ldI 51 HEV.out ?_)))
 refine (p_save ht HD4.out hk z.b z.v HZ.out.2.1 HZ.out.2.2).mono ?_
 rintro e' w5 ⟨rfl,hd⟩
 have HD5:Hid (DS w0 w5 K (x.sav z.b z.v) y pd (X2 X' r K)):=hd
 clear hd HD4 d1 HCF z0 HEV HAL4 HST4
 rw[hs]
 have ei:=(put_other (put X' 36 (.blk r 37 (pdk K).toArray)) (.blk (r+1) 61 row0.toArray) (show i≠37 by omega)).trans ((put_other X' (.blk r 37 (pdk K).toArray) (show i≠36 by omega)).trans HX.out.2.1)
 have hp:=HD5.out.pt h8 (by omega) ei
 have c3:=hp.c3
 have f3:=frozen_row (j:=3) hp.st
 have h64:=hp.few
 have e1:=setCell_eq_setRow w5 B 3 _ 87 (0,0) (.int .i64 (k+1)) hp.st
 have hd6:=HD5.out.ptput h8 (by omega) ei (st':=st) (t':=t) (k':=k+1) (by omega) (cs:=#[.int .i64 st,.int .u64 t,v,.int .i64 (k+1)]) rfl
 rw[X2_put (by omega)] at hd6
 obtain ⟨w6,hw6⟩:∃W,w5.setCell ⟨B,3,none⟩ (.int .i64 (k+1))=W:=⟨_,rfl⟩
 have HD6:Hid (DS w0 w6 K (x.sav z.b z.v) y pd (X2 (put X' i (.pt B st t v L (k+1))) r K)):=by rw[← hw6,e1];exact hd6
 clear hd6 hp e1 HD5 ei hk
 go_wp2_with fail
 refine (homeward_at HD6.out h8 (by omega) (by rw[← X2_put (by omega)];exact put_same _ _ _)).mono ?_
 rintro e' w7 ⟨⟨u,rfl⟩,hd⟩
 rw[X2_put (by omega),put_put,HS2.out] at hd
 have hb7:w7.heap[E]?=some (.cells (C.ecells z).toArray 54 (0,0)):=hd.blk (i:=35) (by decide) (by decide) ((put_other _ _ (by decide)).trans ((put_other _ _ (by decide)).trans ((put_other _ _ (by omega)).trans HX.out.1)))
 have z0:=ent_blk hb7
 have HEV:Hid (_):=ent_val hb7 HZ.out.2.1
 have HD7:Hid (DS w0 w7 K (x.sav z.b z.v) y pd (X2 (put X' i (.pt B s2 t v L (k+1))) r K)):=hd
 have e36:=HX.out.2.2.1
 have e37:=HX.out.2.2.2.1
 clear hd hb7 HD6 c3 f3 hw6
 have HBD:Hid (_):=build_row5 w7 15 z.b z.v HZ.out.2.1
 have HST:Hid ((Instr.storeAt 61 (.pointer (some ⟨r+1,0,none⟩)) (.agg (rowC 15 z.b z.v 0 0).toArray)).run prog w7=.ok () (w7.setRow (r+1) (rowC 15 z.b z.v 0 0).toArray)):=store_row (HD7.out.blk (i:=37) (by decide) (by decide) (put_same _ _ _)) (rowC_len (HZ.out.2.1)) (rowC_one _ _ _ _ _)
 obtain ⟨hdz,lz⟩:=HD7.out.told (by rw[put_other _ _ (by omega)];exact e36) (by rw[put_other _ _ (by omega)];exact e37) (rowC 15 z.b z.v 0 0)
 have HDz:Hid (DS w0 (w7.setRow (r+1) (rowC 15 z.b z.v 0 0).toArray) K (x.sav z.b z.v) y pd (put X' i (.pt B s2 t v L (k+1)))):=hdz
 have HLz:Hid (LAt 61 (w7.setRow (r+1) (rowC 15 z.b z.v 0 0).toArray) (r+1) (rowC 15 z.b z.v 0 0)):=lz
 clear hdz lz HD7
 generalize w7.setRow (r+1) (rowC 15 z.b z.v 0 0).toArray=wz at *
 have HDy:Hid (DS w0 wz K (x.sav z.b z.v) y pd (put X i (.pt B s2 t v L (k+1)))):=by
  have:=HDz.out.drop (k:=35) (by decide)
  rw[HX.out.2.2.2.2.1] at this
  exact this
 clear HDz e36 e37 HX
 go_wp2_with ((with_reducible refine C.at_ops ?_);(first | (refine ldI 51 HEV.out ?_) | ((refine C.wpList_build_is (vs:=[(0,.int .i64 15),(4,.int .i64 z.b),(5,.agg (U8 z.v).toArray)]) (by rfl) 61 rfl (by rfl) HBD.out ?_);simp only[Act.put,zA,zB,zC]) | (refine stI 61 HST.out ?_)))
 (try simp only[Exit.inBlock,Exit.then])
 exact bodyPost_ret (C.results_lat results44 _ _ (r+1) 61 _ _ (by rfl) HLz.out underlying61 rfl (by rw[size_row,rowC_len HZ.out.2.1])) rfl ⟨rfl,HDy.out⟩
end
section
variable {w0 w w':World} {K:Ks} {x y:Sx} {pd:List Cm} {X:Nat→Th} {i B k:Nat} {st t:Int} {v:Value} {L:List C.En}
theorem own_zero {w:World}{base:Nat}{e:TypeId}{size:Nat}{v:Value}{n:Nat}{xs:List Value}(h:w.ownsRow base e size v n xs):w.ownsRow 0 e size v n xs:=by
 refine⟨h.1,?_⟩
 rcases h.2 with h | ⟨g,cap,cur,a,_,b⟩
 ·exact .inl h
 ·exact .inr ⟨g,cap,cur,a,Nat.zero_le _,b⟩
theorem DS.ptnew (h:DS w0 w K x y pd X)(h8:8≤i)(h40:i<40)(e:X i=.pt B st t v L k){w5:World}(b5:Below w.heap.size w w5){v':Value}{L':List C.En}(hr:C.EOwn 54 w5 w.heap.size v' L')(hw:C.EnsWf L')(hf:L'.length≤64){st' t':Int}{cs1 cs2:Array Value}(h2:cs2=#[.int .i64 st',.int .u64 t',v',.int .i64 0]):DS w0 ((w5.setRow B cs1).setRow B cs2) K x y pd (put X i (.pt B st' t' v' L' 0)):=by
 have hB:=(h.pt h8 h40 e).lt
 have hst:=(h.pt h8 h40 e).st
 have k1:C.Kept (fun b=>b=B) w5 (w5.setRow B cs1):=C.Kept.setRow w5 B cs1
 have k2:C.Kept (fun b=>b=B) (w5.setRow B cs1) ((w5.setRow B cs1).setRow B cs2):=C.Kept.setRow _ B cs2
 have kk:C.Kept (fun b=>b=B) w5 ((w5.setRow B cs1).setRow B cs2):=k1.trans k2 fun _ _ e=>e
 refine h.turnG h8 h40 (S:=fun b=>b=B) (N:=fun g=>v'.ownBlock=some g) (fun G at'=>?_) ((C.Kept.of_below _ b5).trans kk fun _ _ e=>e) (fun b hb=>by rw[e];exact hb) (fun b hb=>by rw[e];exact .inl hb) (fun g hg=>?_)
 ·have s5:w5.heap[B]?=_:=(b5.block B hB).trans hst
  refine⟨⟨by rw[h2];exact setRow_heap _ B _ _ 87 (0,0) (setRow_heap w5 B _ _ 87 (0,0) s5),C.O.own_far (own_zero hr) kk fun g hg eg=>?_,hw,hf,Nat.zero_le _⟩,fun g hg=>.inr hg⟩
  have:=(World.ownsRow.lt hr g hg).1
  have:g=B:=eg
  omega
 ·have a:=World.ownsRow.lt hr g hg
  refine⟨a.1,Nat.lt_of_lt_of_le a.2 kk.size,fun (eg:g=B)=>?_⟩
  have:=a.1
  omega
theorem choose_at {s2:Int}(HS2:Hid ((if 0<x.L.length then (2:Int) else 3)=s2))(h:DS w0 w K x y pd X)(h8:8≤i)(h36:i<36)(e:X i=.pt B st t v L k)(e36:X 36=.no)(e37:X 37=.no):Calls prog 48 #[qp B,.agg (pdk K).toArray] w fun e w'=>∃v',e=.returned (.tuple #[.agg (rowC 14 (-1) zv (x.p+1) x.L.length).toArray,.int .i64 0])∧DS w0 w' K x y pd (put X i (.pt B s2 (x.p+1) v' x.L 0)):=by
 obtain ⟨r,hr⟩:∃r,w.heap.size=r:=⟨_,rfl⟩
 obtain ⟨w2,hw2⟩:∃W,(w.alloc (.cells (pdk K).toArray 37)).alloc (.cells row0.toArray 61)=W:=⟨_,rfl⟩
 have HD2:Hid (DS w0 w2 K x y pd (X2 X r K)):=by rw[← hw2,← hr];exact h.two
 have HAL:Hid ((Instr.alloc 61 true (.tuple #[])).run prog (w.alloc (.cells (pdk K).toArray 37))=.ok (.pointer (some ⟨r+1,0,none⟩)) w2):=by
  have:=alloc_row (w.alloc (.cells (pdk K).toArray 37))
  rw[World.size_alloc,hr,hw2] at this
  exact this
 have HE:Hid (∀j,j≠36→j≠37→X2 X r K j=X j):=fun j a b=>(put_other _ _ b).trans (put_other _ _ a)
 clear h hw2
 go_enter func48,ntmps48
 have HLK:Hid (_):=(HD2.out.dkin rfl).load
 go_wp2_with ((with_reducible refine C.at_ops ?_);(first | (refine alI 61 HAL.out ?_) | (refine ldI 37 HLK.out ?_)))
 refine (target_at HD2.out).mono ?_
 rintro e' w3 ⟨rfl,b3⟩
 have ei:=(HE.out i (by omega) (by omega)).trans e
 have hd3:=HD2.out.later b3
 have hp:=hd3.pt h8 (by omega) ei
 have c1:=hp.c1
 have f1:=frozen_row (j:=1) hp.st
 have e1:=setCell_eq_setRow w3 B 1 _ 87 (0,0) (.int .u64 (x.p+1)) hp.st
 have hd4:=hd3.ptput h8 (by omega) ei (st':=st) (t':=x.p+1) (k':=k) hp.le (cs:=#[.int .i64 st,.int .u64 (x.p+1),v,.int .i64 k]) rfl
 rw[X2_put h36] at hd4
 obtain ⟨w4,hw4⟩:∃W,w3.setCell ⟨B,1,none⟩ (.int .u64 (x.p+1))=W:=⟨_,rfl⟩
 have HD4:Hid (DS w0 w4 K x y pd (X2 (put X i (.pt B st (x.p+1) v L k)) r K)):=by rw[← hw4,e1];exact hd4
 have p4:=(HD4.out.dkin rfl).kp
 have HI4:Hid (X2 (put X i (.pt B st (x.p+1) v L k)) r K i=.pt B st (x.p+1) v L k):=by
  show _=_
  rw[← X2_put h36];exact put_same _ _ _
 clear hd4 hp e1 hd3 b3 ei HD2 HAL HLK HE
 go_wp2_with fail
 refine (p_entries HD4.out).mono ?_
 rintro e' w5 ⟨v',rfl,hr5,b5⟩
 obtain ⟨q,cc,rfl⟩:=C.O.own_shape hr5
 have hp:=(HD4.out.later b5).pt h8 (by omega) HI4.out
 have c2:=hp.c2
 have f2:=frozen_row (j:=2) hp.st
 have e1:=setCell_eq_setRow w5 B 2 _ 87 (0,0) (.slice q x.L.length cc) hp.st
 have s6:(w5.setCell ⟨B,2,none⟩ (.slice q x.L.length cc)).heap[B]?=some (.cells #[.int .i64 st,.int .u64 (x.p+1),.slice q x.L.length cc,.int .i64 k] 87 (0,0)):=by rw[e1];exact setRow_heap w5 B _ _ 87 (0,0) hp.st
 have e2:=setCell_eq_setRow (w5.setCell ⟨B,2,none⟩ (.slice q x.L.length cc)) B 3 _ 87 (0,0) (.int .i64 0) s6
 have c3:(w5.setCell ⟨B,2,none⟩ (.slice q x.L.length cc)).cell? ⟨B,3,none⟩=some (.int .i64 k):=by rw[cell_of_row _ _ _ _ _ _ s6];rfl
 have f3:=frozen_row (j:=3) s6
 have hd7:=HD4.out.ptnew h8 (by omega) HI4.out b5 hr5 HD4.out.okx.k.wf HD4.out.okx.k.few (st':=st) (t':=x.p+1) (cs1:=#[.int .i64 st,.int .u64 (x.p+1),.slice q x.L.length cc,.int .i64 k]) (cs2:=#[.int .i64 st,.int .u64 (x.p+1),.slice q x.L.length cc,.int .i64 0]) rfl
 rw[X2_put h36,put_put] at hd7
 obtain ⟨w7,hw7⟩:∃W,(w5.setCell ⟨B,2,none⟩ (.slice q x.L.length cc)).setCell ⟨B,3,none⟩ (.int .i64 0)=W:=⟨_,rfl⟩
 have HD7:Hid (DS w0 w7 K x y pd (X2 (put X i (.pt B st (x.p+1) (.slice q x.L.length cc) x.L 0)) r K)):=by rw[← hw7,e2,e1];exact hd7
 clear hd7 hp e1 e2 s6 HD4 p4 HI4 b5 hr5
 go_wp2_with fail
 refine (homeward_at HD7.out h8 (by omega) (by rw[← X2_put h36];exact put_same _ _ _)).mono ?_
 rintro e' w8 ⟨⟨u,rfl⟩,hd⟩
 rw[X2_put h36,put_put,HS2.out] at hd
 have HD8:Hid (DS w0 w8.drew K x y pd (X2 (put X i (.pt B s2 (x.p+1) (.slice q x.L.length cc) x.L 0)) r K)):=hd.later (C.below_drawn 1)
 have HP8:Hid (C.PtAt w8.drew B s2 (x.p+1) (.slice q x.L.length cc) x.L 0):=HD8.out.pt h8 (by omega) (by rw[← X2_put h36];exact put_same _ _ _)
 clear hd HD7 c2 f2 c3 f3 hw7 c1 f1 hw4
 go_wp2_with fail
 refine wp_region_noPanic ?_
 refine wp_region_held_drew (S:=fun W=>C.PtAt W B s2 (x.p+1) (.slice q x.L.length cc) x.L 0) (by kernel_rfl) HP8.out (fun hHeld=>?_)
 generalize w8.drew=w9 at *
 have HBD:Hid (_):=build_row67 w9 14 (x.p+1) x.L.length
 have HST:Hid ((Instr.storeAt 61 (.pointer (some ⟨r+1,0,none⟩)) (.agg (rowC 14 (-1) zv (x.p+1) x.L.length).toArray)).run prog w9=.ok () (w9.setRow (r+1) (rowC 14 (-1) zv (x.p+1) x.L.length).toArray)):=store_row (HD8.out.blk (i:=37) (by decide) (by decide) (put_same _ _ _)) (rowC_len (C.zs_len 32)) (rowC_one _ _ _ _ _)
 obtain ⟨hdz,lz⟩:=HD8.out.told (by rw[put_other _ _ (by omega)];exact e36) (by rw[put_other _ _ (by omega)];exact e37) (rowC 14 (-1) zv (x.p+1) x.L.length)
 have HDz:Hid (DS w0 (w9.setRow (r+1) (rowC 14 (-1) zv (x.p+1) x.L.length).toArray) K x y pd (put X i (.pt B s2 (x.p+1) (.slice q x.L.length cc) x.L 0))):=hdz
 have HLz:Hid (LAt 61 (w9.setRow (r+1) (rowC 14 (-1) zv (x.p+1) x.L.length).toArray) (r+1) (rowC 14 (-1) zv (x.p+1) x.L.length)):=lz
 clear hdz lz HD8
 generalize w9.setRow (r+1) (rowC 14 (-1) zv (x.p+1) x.L.length).toArray=wz at *
 have HPz:Hid (C.PtAt wz B s2 (x.p+1) (.slice q x.L.length cc) x.L 0):=HDz.out.pt h8 (by omega) (put_same _ _ _)
 clear HP8 HBD
 refine tk 0 hHeld ?_
 refine tk 1 hHeld ?_
 refine tk 2 hHeld ?_
 refine tkl 3 hHeld (fun _ s=>s.c1) ?_
 refine tk 4 hHeld ?_
 refine tk 5 hHeld ?_
 refine tk 6 hHeld ?_
 refine tkl 7 hHeld (fun _ s=>s.c2) ?_
 refine tk 8 hHeld ?_
 refine tkb 9 [(0,.int .i64 14),(4,.int .i64 (-1)),(6,.int .u64 (x.p+1)),(7,.int .i64 x.L.length)] hHeld (fun w=>build_row67 w 14 (x.p+1) x.L.length) ?_
 refine tkr 10 fun Kc hKc=>?_
 refine C.step_store_is (by rfl) 61 rfl rfl rfl HST.out ?_
 simp only[Act.put]
 refine hKc.out _ _ HPz.out (fun hHeld=>?_)
 clear hKc Kc
 refine tk 11 hHeld ?_
 clear hHeld
 refine wpAnyH_done (by kernel_rfl) (NoPanic.normal ?_) _
 go_wp2
 (try simp only[Exit.inBlock,Exit.then])
 exact bodyPost_ret (C.results_lat results48 _ _ (r+1) 61 _ _ (by rfl) HLz.out underlying61 rfl (by rw[size_row,rowC_len (C.zs_len 32)])) rfl ⟨_,rfl,HDz.out⟩
end
end Go.Proofs.YtcdjepkhdjpjcaaGreatDoor.Q
