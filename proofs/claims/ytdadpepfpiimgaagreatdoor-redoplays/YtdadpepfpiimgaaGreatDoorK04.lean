import Derived.Test.YtdadpepfpiimgaaGreatDoorK03
set_option maxHeartbeats 20000000
set_option maxRecDepth 100000
namespace Go.Proofs.YtdadpepfpiimgaaGreatDoor
open Go.Proofs.Tryz
open Go.RowKit
structure Mid (w wr:World) (S:Nat→Prop) (p n:Nat) (ws:List Wr) (q cap:Nat) (v:Value) (D N:Nat→List Int):Prop where
 str:wr.heap[p]?=some (.cells #[.slice (some ⟨q,0,none⟩) n cap,.slice none 0 0] 105 (0,0))
 pl:Pl wr q n cap D N
 wt:wr.ownsRow 0 114 65 v ws.length (WC ws)
 kp:Kept S w wr
theorem Mid.below {w wr w':World}{S:Nat→Prop}{p n:Nat}{ws:List Wr}{q cap:Nat}{v:Value}{D N:Nat→List Int}(h:Mid w wr S p n ws q cap v D N)(hb:Below wr.heap.size wr w'):Mid w w' S p n ws q cap v D N :=
 have hp:p<wr.heap.size:=Blk.lt (t:=105) (sz:=2) ⟨_,h.str,rfl⟩
 ⟨(hb.block p hp).trans h.str,h.pl.same (hb.block q h.pl.blk.lt),own_same h.wt (fun _ hk=>hb.block _ ((own_ownBlk h.wt hk).elim fun _ hb=>hb.lt)),h.kp.trans (T:=fun _=>False) (Kept.of_below hb) (fun _ _ f=>f.elim)⟩
theorem Mid.cell0 {w wr:World}{S:Nat→Prop}{p n:Nat}{ws:List Wr}{q cap:Nat}{v:Value}{D N:Nat→List Int}(h:Mid w wr S p n ws q cap v D N):wr.cell? ⟨p,0,none⟩=some (.slice (some ⟨q,0,none⟩) n cap):=by
 rw[cell_of_row _ _ _ _ 105 (0,0) h.str];rfl
theorem Mid.set {w wr:World}{S:Nat→Prop}{p n:Nat}{ws:List Wr}{q cap:Nat}{v:Value}{D N D' N':Nat→List Int}(h:Mid w wr S p n ws q cap v D N)(hq:S q)(o:Nat)(vs:List Value)(hp:Pl (wr.setCells q o vs) q n cap D' N'):Mid w (wr.setCells q o vs) S p n ws q cap v D' N':=by
 have hb3:Blk wr p 105 2:=⟨_,h.str,rfl⟩
 have ho:∀k,k≠q→(wr.setCells q o vs).heap[k]?=wr.heap[k]?:=fun k hk=>setCells_other hk _ _ _
 refine⟨(ho p (hb3.ne h.pl.blk (by decide))).trans h.str,hp,own_same h.wt (fun k hk=>?_),Kept.setCells (fun _=>hq) _ _ _ h.kp⟩
 obtain ⟨sz,hk'⟩:=own_ownBlk h.wt hk
 exact ho k (hk'.ne h.pl.blk (by decide))
theorem Mid.start {w:World}{S:Nat→Prop}{p n:Nat}{d:List Int}{ws:List Wr}{q cap:Nat}{v:Value}(h:PD w S p n d ws q cap v):Mid w (w.setCell ⟨p,1,none⟩ (.slice none 0 0)) S p n ws q cap v (sec d) (newest ws d):=by
 refine⟨setCell_row (cs:=[_,_]) h.str 1 _,h.pl.same (heap_setCell_other _ _ _ _ (fun e=>h.pq e.symm)),own_same h.wt (fun k hk=>heap_setCell_other _ _ _ _ (h.pv k hk).1),(Kept.refl S w).setCell (fun _=>h.sp) _⟩
theorem Mid.done {w wr:World}{S:Nat→Prop}{p n:Nat}{d:List Int}{ws:List Wr}{q cap:Nat}{v:Value}{N:Nat→List Int}{K:Nat→Bool}(h:Mid w wr S p n ws q cap v (sec (settle K ws d)) N)(hp:PD w S p n d ws q cap v)(hn:∀i,i<n→N i=sec (settle K ws d) i):Dsk wr S p n (settle K ws d) [] :=
 ⟨q,cap,.slice none 0 0,h.str,h.pl.congr (fun _ _=>rfl) (fun i hi=>hn i hi),World.ownsRow_nil _ _ _ _,hp.sp,hp.sq,fun k hk=>(by simp[Value.ownBlock] at hk),hp.n1,hp.n2,setl_length hp.dl hp.fit _,setl_bytes hp.db hp.fit _,Fit.nil _⟩
theorem wt_range {w:World}{v:Value}{ws:List Wr}{n k:Nat}(h:w.ownsRow 0 114 65 v ws.length (WC ws))(hf:Fit n ws)(hk:k<ws.length):∃g c,v=.slice (some ⟨g,0,none⟩) ws.length c∧w.rangeAt g (k*65) (wcell ws[k]):=by
 obtain ⟨pv,c,rfl,h0,h1⟩:=own_slice h
 cases pv with
 | none=>have:=(h0 rfl).1;omega
 | some a =>
  obtain ⟨g,rfl⟩:=h1 a rfl
  refine⟨g,c,rfl,own_range_part h (fun j u hu=>?_)⟩
  have hj:j<65:=by
   have:=(List.getElem?_eq_some_iff.1 hu).1
   simpa [wcell,(hf.at k hk).2.1] using this
  have e:=flat_at (ws.map wcell) (wcell_length hf) k (by simpa using hk) j hj
  rw[Nat.mul_comm] at e
  unfold WC
  rw[e]
  simpa using hu
theorem flush1_any (i:Int)(w:World):Calls prog 104 #[.int .i64 i] w fun e w'=>e=.returned (.bool true)∧w=w':=by
 go_enter func104,ntmps104
 go_wp2
 go_ret
 exact⟨rfl,rfl⟩
structure Keeps (w:World) (c g m:Nat) (K:Nat→Bool):Prop where
 box:w.heap[c]?=some (.cells #[.slice (some ⟨g,0,none⟩) m m] 133 (0,0))
 row:w.heap[g]?=some (.cells ((List.range m).map fun i=>Value.bool (K i)).toArray 4 (0,0))
theorem Keeps.kept {w w':World}{S:Nat→Prop}{c g m:Nat}{K:Nat→Bool}(h:Keeps w c g m K)(hk:Kept S w w')(h1:¬S c)(h2:¬S g):Keeps w' c g m K :=
 ⟨(hk.block c (Array.getElem?_eq_some_iff.1 h.box).1 h1).trans h.box,(hk.block g (Array.getElem?_eq_some_iff.1 h.row).1 h2).trans h.row⟩
theorem crash1_any (i m c g:Nat)(K:Nat→Bool)(w:World)(h:Keeps w c g m K)(hi:i<m):Calls prog 51 #[.int .i64 i,.pointer (some ⟨c,0,none⟩)] w fun e w'=>e=.returned (.bool (K i))∧w=w':=by
 have c0:w.cell? ⟨c,0,none⟩=some (.slice (some ⟨g,0,none⟩) m m):=by rw[cell_of_row _ _ _ _ _ _ h.box];rfl
 have c1:w.cell? ⟨g,i,none⟩=some (.bool (K i)):=by rw[cell_of_row _ _ _ _ _ _ h.row];simp[hi]
 clear h
 generalize K i=kk at *
 go_enter func51,ntmps51
 go_wp2
 go_ret
 exact⟨rfl,rfl⟩
theorem settle_flush {w:World}{S:Nat→Prop}{p n:Nat}{d:List Int}{ws:List Wr}(h:Dsk w S p n d ws)(hk:ws.length≤100000)(K:Nat→Bool)(hKt:∀k,K k=true) :
  Calls prog 50 #[.pointer (some ⟨p,0,none⟩),.func (.func 104) #[] #[]] w fun e w'=>e=.returned (.int .i64 ws.length)∧Dsk w' S p n (settle K ws d) []∧Kept S w w':=by
 obtain ⟨q,cap,v,h⟩:=h
 have h1:=h.cell1
 have hf:=h.free 1
 have HH:Hid (PD w S p n d ws q cap v):=h
 have HM:Hid (Mid w (w.setCell ⟨p,1,none⟩ (.slice none 0 0)) S p n ws q cap v (sec d) (newest ws d)):=Mid.start h
 obtain ⟨pv,cv,rfl,_⟩:=own_slice h.wt
 clear h
 have HK:Hid (∀k,K k=true):=hKt
 clear hKt
 go_enter func50,ntmps50
 go_wp2
 clear h1 hf
 go_loopw [20] (fun i wr=>∃k:Nat,k≤ws.length∧i=.int .i64 k∧Hid (Mid w wr S p n ws q cap (.slice pv ws.length cv) (sec (setl K ws d k)) (newest ws d))) (fun i _=>ws.length-(intOf i).toNat)
 case atStart=>exact⟨0,by omega,rfl,HM.out⟩
 case round =>
  obtain ⟨k,hkl,rfl,HR⟩:=hrel
  by_cases hlt:k<ws.length
  ·obtain ⟨g,c',e,hr⟩:=wt_range HR.out.wt HH.out.fit hlt
   simp only[Value.slice.injEq,true_and] at e
   obtain ⟨rfl,rfl⟩:=e
   have HX:=HH.out.fit.at k hlt
   have HS:Hid (setl K ws d (k+1)=if K k then put (setl K ws d k) ws[k].s ws[k].b else setl K ws d k):=setl_step K ws d k hlt
   generalize ws[k]=X at *
   go_wp2_with (first | (refine wpList_load_mid (by rfl) 114 (.tmp 23) (by rfl) g (k*65) (by rfl) (wcell X) _ hr underlying114 rfl (by rw[size80];simp[wcell,HX.2.1]) ?_) | (refine wpList_alloc80 (by rfl) (by rfl) ?_) | (refine wpList_store80 (by rfl) (.tmp 7) (.tmp 24) (by rfl) X (by rfl) (by rfl) HX.2.1 ?_) | fail)
   have hM:=HR.out.below (below_alloc wr (.cells (wcell X).toArray 114))
   have hkk:=HK.out k
   refine (flush1_any k _).mono ?_
   rw[← hkk]
   rintro e w1 ⟨rfl,rfl⟩
   cases hKk:K k with
   | false =>
    have HM2:Hid (Mid w (wr.alloc (.cells (wcell X).toArray 114)) S p n ws q cap (.slice (some ⟨g,0,none⟩) ws.length cv) (sec (setl K ws d (k+1))) (newest ws d)):=by
     show Mid _ _ _ _ _ _ _ _ _ _ _
     rw[HS.out,hKk]
     exact hM
    clear hM hr HR HS hKk
    go_wp2
    go_roundw
    case rel=>exact⟨k+1,by omega,by go_num,HM2.out⟩
    case measure=>simp[intOf];omega
   | true =>
    have t0:=hM.cell0
    have t1:(wr.alloc (.cells (wcell X).toArray 114)).cell? ⟨wr.heap.size,0,none⟩=some (.int .i64 (X.s:Int)):=by
     rw[cell_of_row _ _ _ _ 114 (0,0) (heap_alloc_new wr _)];rfl
    have t2:(wr.alloc (.cells (wcell X).toArray 114)).rangeAt wr.heap.size 1 (U8 X.b):=new_range_at wr _ _ 1 114 (wcell_data X)
    have t3:(wr.alloc (.cells (wcell X).toArray 114)).there q (X.s*128) 64:=hM.pl.blk.there _ _ (by have:=hM.pl.ncap;omega)
    have HM2:Hid (Mid w ((wr.alloc (.cells (wcell X).toArray 114)).setCells q (X.s*128) (U8 X.b)) S p n ws q cap (.slice (some ⟨g,0,none⟩) ws.length cv) (sec (setl K ws d (k+1))) (newest ws d)):=by
     show Mid _ _ _ _ _ _ _ _ _ _ _
     rw[HS.out,hKk,if_pos rfl]
     refine hM.set HH.out.sq _ _ ((hM.pl.setD X.b HX.2.1 HX.1).congr (fun i hi=>?_) (fun _ _=>rfl))
     exact (sec_put (setl_length HH.out.dl HH.out.fit k) HX.1 HX.2.1 hi).symm
    have hpq:p≠q:=HH.out.pq
    have hwq:wr.heap.size≠q:=by have:=HR.out.pl.blk.lt;omega
    have HXl:Hid (X.b.length=64):=HX.2.1
    have i1:(X.s:Int)<(n:Int):=by omega
    have i0:(0:Int)≤(X.s:Int):=by omega
    obtain ⟨W,hW⟩:∃W,wr.alloc (.cells (wcell X).toArray 114)=W:=⟨_,rfl⟩
    rw[hW] at t0 t1 t2 t3 HM2 ⊢
    clear hM hr HR HS hKk HX hW
    go_wp2
    have hu:=underlying107
    have hl69:(U8 X.b).length=64:=by rw[U8_length];exact HXl.out
    have hi69:(prog.info? 107).map (·.size)=some (U8 X.b).length:=by rw[hl69];exact size69
    have hu1:=ones_u8 X.b
    have k0:(W.drew.setCells q (X.s*128) (U8 X.b)).cell? ⟨p,0,none⟩=some (.slice (some ⟨q,0,none⟩) n cap):=by
     rw[World.cell?_setCells_out _ _ _ _ _ (fun e=>absurd e hpq)];exact t0
    have k1:(W.drew.setCells q (X.s*128) (U8 X.b)).cell? ⟨wr.heap.size,0,none⟩=some (.int .i64 (X.s:Int)):=by
     rw[World.cell?_setCells_out _ _ _ _ _ (fun e=>absurd e hwq)];exact t1
    have k2:(W.drew.setCells q (X.s*128) (U8 X.b)).rangeAt wr.heap.size 1 (U8 X.b):=World.rangeAt_setCells_apart (w:=W.drew) t2 _ _ _ (Or.inl hwq)
    have k3:(W.drew.setCells q (X.s*128) (U8 X.b)).there q (X.s*128) 64:=World.there_setCells (w:=W.drew) t3 _ _ _
    go_region_held3 (fun w'=>w'.cell? ⟨p,0,none⟩=some (.slice (some ⟨q,0,none⟩) n cap)∧w'.cell? ⟨wr.heap.size,0,none⟩=some (.int .i64 (X.s:Int))∧w'.rangeAt wr.heap.size 1 (U8 X.b)∧w'.there q (X.s*128) 64) (first | exact⟨t0,t1,t2,t3⟩ | exact⟨k0,k1,k2,k3⟩) (fail)
    clear hu hi69 hl69 hu1 k0 k1 k2 k3 t0 t1 t2 t3
    rw[setCells_drew]
    go_wp2
    go_roundw
    case rel=>exact⟨k+1,by omega,by go_num,HM2.out.below ⟨rfl,rfl,rfl,Nat.le_refl _,fun _ _=>rfl⟩⟩
    case measure=>simp[intOf];omega
  ·obtain rfl:ws.length=k:=by omega
   have HR2:Hid (Mid w wr S p n ws q cap (.slice pv ws.length cv) (sec (settle K ws d)) (fun i=>again (settle K ws d) ws d i 0)):=HR.out
   clear HR
   go_wp2
   clear HM
   obtain ⟨w0,hw0⟩:∃w0,w0=wr:=⟨_,rfl⟩
   subst hw0
   go_loopw [41] (fun i wr=>∃k:Nat,k≤ws.length∧i=.int .i64 k∧Hid (Mid w wr S p n ws q cap (.slice pv ws.length cv) (sec (settle K ws d)) (fun i=>again (settle K ws d) ws d i k))) (fun i _=>ws.length-(intOf i).toNat)
   case atStart=>exact⟨0,by omega,rfl,HR2.out⟩
   case round =>
    obtain ⟨k,hkl2,rfl,HR⟩:=hrel
    by_cases hlt2:k<ws.length
    ·obtain ⟨g,c',e,hr⟩:=wt_range HR.out.wt HH.out.fit hlt2
     simp only[Value.slice.injEq,true_and] at e
     obtain ⟨rfl,rfl⟩:=e
     have HX:=HH.out.fit.at k hlt2
     have HS:Hid (∀i,again (settle K ws d) ws d i (k+1)=if ws[k].s=i then sec (settle K ws d) i else again (settle K ws d) ws d i k):=fun i=>again_step _ ws d i k hlt2
     generalize ws[k]=X at *
     have hM:=HR.out.below (below_alloc wr (.cells (wcell X).toArray 114))
     have t0:=hM.cell0
     have t1:(wr.alloc (.cells (wcell X).toArray 114)).cell? ⟨wr.heap.size,0,none⟩=some (.int .i64 (X.s:Int)):=by
      rw[cell_of_row _ _ _ _ 114 (0,0) (heap_alloc_new wr _)];rfl
     have HL:Hid ((sec (settle K ws d) X.s).length=64):=hM.pl.dl X.s HX.1
     have HT:Hid ((wr.alloc (.cells (wcell X).toArray 114)).drew.rangeAt q (X.s*128) (U8 (sec (settle K ws d) X.s))∧(wr.alloc (.cells (wcell X).toArray 114)).drew.there q (X.s*128+64) 64):=⟨hM.pl.dur X.s HX.1,hM.pl.blk.there _ _ (by have:=hM.pl.ncap;omega)⟩
     have HM2:Hid (Mid w ((wr.alloc (.cells (wcell X).toArray 114)).setCells q (X.s*128+64) (U8 (sec (settle K ws d) X.s))) S p n ws q cap (.slice (some ⟨g,0,none⟩) ws.length cv) (sec (settle K ws d)) (fun i=>again (settle K ws d) ws d i (k+1))):=by
      refine hM.set HH.out.sq _ _ ((hM.pl.setN _ HL.out HX.1).congr (fun _ _=>rfl) (fun i hi=>?_))
      show (if i=X.s then _ else _)=again (settle K ws d) ws d i (k+1)
      rw[HS.out i]
      by_cases c:i=X.s
      ·rw[if_pos c,if_pos c.symm,c]
      ·rw[if_neg c,if_neg (fun e=>c e.symm)]
     have i1:(X.s:Int)<(n:Int):=by omega
     have i0:(0:Int)≤(X.s:Int):=by omega
     clear hM HR HS
     generalize sec (settle K ws d) X.s=B at *
     go_wp2_with (first | (refine wpList_load_mid (by rfl) 114 (.tmp 43) (by rfl) g (k*65) (by rfl) (wcell X) _ hr underlying114 rfl (by rw[size80];simp[wcell,HX.2.1]) ?_) | (refine wpList_alloc80 (by rfl) (by rfl) ?_) | (refine wpList_store80 (by rfl) (.tmp 9) (.tmp 44) (by rfl) X (by rfl) (by rfl) HX.2.1 ?_) | fail)
     simp only[Act.put,zA,zB,zC]
     obtain ⟨W,hW⟩:∃W,wr.alloc (.cells (wcell X).toArray 114)=W:=⟨_,rfl⟩
     rw[hW] at t0 t1 HT HM2 ⊢
     clear hW hr
     go_region_held3 (fun w'=>w'.cell? ⟨p,0,none⟩=some (.slice (some ⟨q,0,none⟩) n cap)∧w'.cell? ⟨wr.heap.size,0,none⟩=some (.int .i64 (X.s:Int))) (exact⟨t0,t1⟩) (fail)
     clear t0 t1
     go_wp2_with (first | (refine wpList_load_mid (by rfl) 107 (.tmp 55) (by rfl) q (X.s*128) (by rfl) (U8 B) _ HT.out.1 underlying107 rfl (by rw[size69,U8_length,HL.out]) ?_) | (refine wpList_store_mid (by rfl) 107 (.tmp 58) (.tmp 56) (by rfl) q (X.s*128+64) (U8 B).toArray (by rfl) (by rfl) (by rw[List.size_toArray,U8_length,HL.out];exact HT.out.2) (by rw[size69,List.size_toArray,U8_length,HL.out]) (u8_ones B) ?_) | fail)
     rw[setCells_drew]
     go_roundw
     case rel=>exact⟨k+1,by omega,by go_num,HM2.out.below ⟨rfl,rfl,rfl,Nat.le_refl _,fun _ _=>rfl⟩⟩
     case measure=>simp[intOf];omega
    ·obtain rfl:ws.length=k:=by omega
     have HD:Hid (Dsk wr S p n (settle K ws d) []∧Kept S w wr):=⟨HR.out.done HH.out (fun i hi=>again_all HH.out.dl HH.out.fit hi),HR.out.kp⟩
     clear HR HR2
     go_wp2
     go_ret
     exact⟨rfl,HD.out.1,HD.out.2⟩
theorem settle_crash {w:World}{S:Nat→Prop}{p n:Nat}{d:List Int}{ws:List Wr}(h:Dsk w S p n d ws)(hk:ws.length≤100000)(K:Nat→Bool)(c0 g0 m0:Nat)(hks:Keeps w c0 g0 m0 K)(hS1:¬S c0)(hS2:¬S g0)(hm0:ws.length≤m0) :
  Calls prog 50 #[.pointer (some ⟨p,0,none⟩),.func (.func 51) #[] #[.pointer (some ⟨c0,0,none⟩)]] w fun e w'=>e=.returned (.int .i64 ws.length)∧Dsk w' S p n (settle K ws d) []∧Kept S w w':=by
 obtain ⟨q,cap,v,h⟩:=h
 have h1:=h.cell1
 have hf:=h.free 1
 have HH:Hid (PD w S p n d ws q cap v):=h
 have HM:Hid (Mid w (w.setCell ⟨p,1,none⟩ (.slice none 0 0)) S p n ws q cap v (sec d) (newest ws d)):=Mid.start h
 obtain ⟨pv,cv,rfl,_⟩:=own_slice h.wt
 clear h
 have HK:Hid (Keeps w c0 g0 m0 K∧¬S c0∧¬S g0):=⟨hks,hS1,hS2⟩
 clear hks hS1 hS2
 go_enter func50,ntmps50
 go_wp2
 clear h1 hf
 go_loopw [20] (fun i wr=>∃k:Nat,k≤ws.length∧i=.int .i64 k∧Hid (Mid w wr S p n ws q cap (.slice pv ws.length cv) (sec (setl K ws d k)) (newest ws d))) (fun i _=>ws.length-(intOf i).toNat)
 case atStart=>exact⟨0,by omega,rfl,HM.out⟩
 case round =>
  obtain ⟨k,hkl,rfl,HR⟩:=hrel
  by_cases hlt:k<ws.length
  ·obtain ⟨g,c',e,hr⟩:=wt_range HR.out.wt HH.out.fit hlt
   simp only[Value.slice.injEq,true_and] at e
   obtain ⟨rfl,rfl⟩:=e
   have HX:=HH.out.fit.at k hlt
   have HS:Hid (setl K ws d (k+1)=if K k then put (setl K ws d k) ws[k].s ws[k].b else setl K ws d k):=setl_step K ws d k hlt
   generalize ws[k]=X at *
   go_wp2_with (first | (refine wpList_load_mid (by rfl) 114 (.tmp 23) (by rfl) g (k*65) (by rfl) (wcell X) _ hr underlying114 rfl (by rw[size80];simp[wcell,HX.2.1]) ?_) | (refine wpList_alloc80 (by rfl) (by rfl) ?_) | (refine wpList_store80 (by rfl) (.tmp 7) (.tmp 24) (by rfl) X (by rfl) (by rfl) HX.2.1 ?_) | fail)
   have hM:=HR.out.below (below_alloc wr (.cells (wcell X).toArray 114))
   refine (crash1_any k m0 c0 g0 K _ (HK.out.1.kept hM.kp HK.out.2.1 HK.out.2.2) (by omega)).mono ?_
   rintro e w1 ⟨rfl,rfl⟩
   cases hKk:K k with
   | false =>
    have HM2:Hid (Mid w (wr.alloc (.cells (wcell X).toArray 114)) S p n ws q cap (.slice (some ⟨g,0,none⟩) ws.length cv) (sec (setl K ws d (k+1))) (newest ws d)):=by
     show Mid _ _ _ _ _ _ _ _ _ _ _
     rw[HS.out,hKk]
     exact hM
    clear hM hr HR HS hKk
    go_wp2
    go_roundw
    case rel=>exact⟨k+1,by omega,by go_num,HM2.out⟩
    case measure=>simp[intOf];omega
   | true =>
    have t0:=hM.cell0
    have t1:(wr.alloc (.cells (wcell X).toArray 114)).cell? ⟨wr.heap.size,0,none⟩=some (.int .i64 (X.s:Int)):=by
     rw[cell_of_row _ _ _ _ 114 (0,0) (heap_alloc_new wr _)];rfl
    have t2:(wr.alloc (.cells (wcell X).toArray 114)).rangeAt wr.heap.size 1 (U8 X.b):=new_range_at wr _ _ 1 114 (wcell_data X)
    have t3:(wr.alloc (.cells (wcell X).toArray 114)).there q (X.s*128) 64:=hM.pl.blk.there _ _ (by have:=hM.pl.ncap;omega)
    have HM2:Hid (Mid w ((wr.alloc (.cells (wcell X).toArray 114)).setCells q (X.s*128) (U8 X.b)) S p n ws q cap (.slice (some ⟨g,0,none⟩) ws.length cv) (sec (setl K ws d (k+1))) (newest ws d)):=by
     show Mid _ _ _ _ _ _ _ _ _ _ _
     rw[HS.out,hKk,if_pos rfl]
     refine hM.set HH.out.sq _ _ ((hM.pl.setD X.b HX.2.1 HX.1).congr (fun i hi=>?_) (fun _ _=>rfl))
     exact (sec_put (setl_length HH.out.dl HH.out.fit k) HX.1 HX.2.1 hi).symm
    have hpq:p≠q:=HH.out.pq
    have hwq:wr.heap.size≠q:=by have:=HR.out.pl.blk.lt;omega
    have HXl:Hid (X.b.length=64):=HX.2.1
    have i1:(X.s:Int)<(n:Int):=by omega
    have i0:(0:Int)≤(X.s:Int):=by omega
    obtain ⟨W,hW⟩:∃W,wr.alloc (.cells (wcell X).toArray 114)=W:=⟨_,rfl⟩
    rw[hW] at t0 t1 t2 t3 HM2 ⊢
    clear hM hr HR HS hKk HX hW
    go_wp2
    have hu:=underlying107
    have hl69:(U8 X.b).length=64:=by rw[U8_length];exact HXl.out
    have hi69:(prog.info? 107).map (·.size)=some (U8 X.b).length:=by rw[hl69];exact size69
    have hu1:=ones_u8 X.b
    have k0:(W.drew.setCells q (X.s*128) (U8 X.b)).cell? ⟨p,0,none⟩=some (.slice (some ⟨q,0,none⟩) n cap):=by
     rw[World.cell?_setCells_out _ _ _ _ _ (fun e=>absurd e hpq)];exact t0
    have k1:(W.drew.setCells q (X.s*128) (U8 X.b)).cell? ⟨wr.heap.size,0,none⟩=some (.int .i64 (X.s:Int)):=by
     rw[World.cell?_setCells_out _ _ _ _ _ (fun e=>absurd e hwq)];exact t1
    have k2:(W.drew.setCells q (X.s*128) (U8 X.b)).rangeAt wr.heap.size 1 (U8 X.b):=World.rangeAt_setCells_apart (w:=W.drew) t2 _ _ _ (Or.inl hwq)
    have k3:(W.drew.setCells q (X.s*128) (U8 X.b)).there q (X.s*128) 64:=World.there_setCells (w:=W.drew) t3 _ _ _
    go_region_held3 (fun w'=>w'.cell? ⟨p,0,none⟩=some (.slice (some ⟨q,0,none⟩) n cap)∧w'.cell? ⟨wr.heap.size,0,none⟩=some (.int .i64 (X.s:Int))∧w'.rangeAt wr.heap.size 1 (U8 X.b)∧w'.there q (X.s*128) 64) (first | exact⟨t0,t1,t2,t3⟩ | exact⟨k0,k1,k2,k3⟩) (fail)
    clear hu hi69 hl69 hu1 k0 k1 k2 k3 t0 t1 t2 t3
    rw[setCells_drew]
    go_wp2
    go_roundw
    case rel=>exact⟨k+1,by omega,by go_num,HM2.out.below ⟨rfl,rfl,rfl,Nat.le_refl _,fun _ _=>rfl⟩⟩
    case measure=>simp[intOf];omega
  ·obtain rfl:ws.length=k:=by omega
   have HR2:Hid (Mid w wr S p n ws q cap (.slice pv ws.length cv) (sec (settle K ws d)) (fun i=>again (settle K ws d) ws d i 0)):=HR.out
   clear HR
   go_wp2
   clear HM
   obtain ⟨w0,hw0⟩:∃w0,w0=wr:=⟨_,rfl⟩
   subst hw0
   go_loopw [41] (fun i wr=>∃k:Nat,k≤ws.length∧i=.int .i64 k∧Hid (Mid w wr S p n ws q cap (.slice pv ws.length cv) (sec (settle K ws d)) (fun i=>again (settle K ws d) ws d i k))) (fun i _=>ws.length-(intOf i).toNat)
   case atStart=>exact⟨0,by omega,rfl,HR2.out⟩
   case round =>
    obtain ⟨k,hkl2,rfl,HR⟩:=hrel
    by_cases hlt2:k<ws.length
    ·obtain ⟨g,c',e,hr⟩:=wt_range HR.out.wt HH.out.fit hlt2
     simp only[Value.slice.injEq,true_and] at e
     obtain ⟨rfl,rfl⟩:=e
     have HX:=HH.out.fit.at k hlt2
     have HS:Hid (∀i,again (settle K ws d) ws d i (k+1)=if ws[k].s=i then sec (settle K ws d) i else again (settle K ws d) ws d i k):=fun i=>again_step _ ws d i k hlt2
     generalize ws[k]=X at *
     have hM:=HR.out.below (below_alloc wr (.cells (wcell X).toArray 114))
     have t0:=hM.cell0
     have t1:(wr.alloc (.cells (wcell X).toArray 114)).cell? ⟨wr.heap.size,0,none⟩=some (.int .i64 (X.s:Int)):=by
      rw[cell_of_row _ _ _ _ 114 (0,0) (heap_alloc_new wr _)];rfl
     have HL:Hid ((sec (settle K ws d) X.s).length=64):=hM.pl.dl X.s HX.1
     have HT:Hid ((wr.alloc (.cells (wcell X).toArray 114)).drew.rangeAt q (X.s*128) (U8 (sec (settle K ws d) X.s))∧(wr.alloc (.cells (wcell X).toArray 114)).drew.there q (X.s*128+64) 64):=⟨hM.pl.dur X.s HX.1,hM.pl.blk.there _ _ (by have:=hM.pl.ncap;omega)⟩
     have HM2:Hid (Mid w ((wr.alloc (.cells (wcell X).toArray 114)).setCells q (X.s*128+64) (U8 (sec (settle K ws d) X.s))) S p n ws q cap (.slice (some ⟨g,0,none⟩) ws.length cv) (sec (settle K ws d)) (fun i=>again (settle K ws d) ws d i (k+1))):=by
      refine hM.set HH.out.sq _ _ ((hM.pl.setN _ HL.out HX.1).congr (fun _ _=>rfl) (fun i hi=>?_))
      show (if i=X.s then _ else _)=again (settle K ws d) ws d i (k+1)
      rw[HS.out i]
      by_cases c:i=X.s
      ·rw[if_pos c,if_pos c.symm,c]
      ·rw[if_neg c,if_neg (fun e=>c e.symm)]
     have i1:(X.s:Int)<(n:Int):=by omega
     have i0:(0:Int)≤(X.s:Int):=by omega
     clear hM HR HS
     generalize sec (settle K ws d) X.s=B at *
     go_wp2_with (first | (refine wpList_load_mid (by rfl) 114 (.tmp 43) (by rfl) g (k*65) (by rfl) (wcell X) _ hr underlying114 rfl (by rw[size80];simp[wcell,HX.2.1]) ?_) | (refine wpList_alloc80 (by rfl) (by rfl) ?_) | (refine wpList_store80 (by rfl) (.tmp 9) (.tmp 44) (by rfl) X (by rfl) (by rfl) HX.2.1 ?_) | fail)
     simp only[Act.put,zA,zB,zC]
     obtain ⟨W,hW⟩:∃W,wr.alloc (.cells (wcell X).toArray 114)=W:=⟨_,rfl⟩
     rw[hW] at t0 t1 HT HM2 ⊢
     clear hW hr
     go_region_held3 (fun w'=>w'.cell? ⟨p,0,none⟩=some (.slice (some ⟨q,0,none⟩) n cap)∧w'.cell? ⟨wr.heap.size,0,none⟩=some (.int .i64 (X.s:Int))) (exact⟨t0,t1⟩) (fail)
     clear t0 t1
     go_wp2_with (first | (refine wpList_load_mid (by rfl) 107 (.tmp 55) (by rfl) q (X.s*128) (by rfl) (U8 B) _ HT.out.1 underlying107 rfl (by rw[size69,U8_length,HL.out]) ?_) | (refine wpList_store_mid (by rfl) 107 (.tmp 58) (.tmp 56) (by rfl) q (X.s*128+64) (U8 B).toArray (by rfl) (by rfl) (by rw[List.size_toArray,U8_length,HL.out];exact HT.out.2) (by rw[size69,List.size_toArray,U8_length,HL.out]) (u8_ones B) ?_) | fail)
     rw[setCells_drew]
     go_roundw
     case rel=>exact⟨k+1,by omega,by go_num,HM2.out.below ⟨rfl,rfl,rfl,Nat.le_refl _,fun _ _=>rfl⟩⟩
     case measure=>simp[intOf];omega
    ·obtain rfl:ws.length=k:=by omega
     have HD:Hid (Dsk wr S p n (settle K ws d) []∧Kept S w wr):=⟨HR.out.done HH.out (fun i hi=>again_all HH.out.dl HH.out.fit hi),HR.out.kp⟩
     clear HR HR2
     go_wp2
     go_ret
     exact⟨rfl,HD.out.1,HD.out.2⟩
theorem flush_nil (w:World):Calls prog 75 #[.pointer none] w fun e w'=>e=.returned (.tuple #[.int .i64 0,.int .i64 1])∧w=w':=by
 go_enter func75,ntmps75
 go_wp2
 go_ret2
 exact⟨rfl,rfl⟩
theorem flush_any {w:World}{S:Nat→Prop}{p n:Nat}{d:List Int}{ws:List Wr}(h:Dsk w S p n d ws)(hk:ws.length≤100000) :
  Calls prog 75 #[.pointer (some ⟨p,0,none⟩)] w fun e w'=>e=.returned (.tuple #[.int .i64 ws.length,.int .i64 0])∧Dsk w' S p n (settle (fun _=>true) ws d) []∧Kept S w w':=by
 go_enter func75,ntmps75
 go_wp2_with fail
 refine (settle_flush h hk (fun _=>true) (fun _=>rfl)).mono ?_
 rintro e w1 ⟨rfl,hd,hkp⟩
 go_wp2
 go_ret2
 exact⟨rfl,hd,hkp⟩
structure JIn (w:World) (p:Option Addr) (n:Nat) (xs:List Int):Prop where
 len:xs.length=n
 cells:0<n→∃b o,p=some ⟨b,o,none⟩∧∀i,i<n→w.cell? ⟨b,o+i,none⟩=some (.int .i64 (xs.getD i 0))
theorem JIn.lt {w:World}{a:Addr}{n:Nat}{xs:List Int}(h:JIn w (some a) n xs)(h0:0<n):a.block<w.heap.size:=by
 obtain ⟨b,o,e,hc⟩:=h.cells h0
 simp only[Option.some.injEq] at e
 subst e
 exact World.block_lt_of_cell? w _ (hc 0 h0)
theorem JIn.later {w w':World}{p:Option Addr}{n:Nat}{xs:List Int}(h:JIn w p n xs)(hb:Below w.heap.size w w'):JIn w' p n xs:=by
 refine⟨h.len,fun h0=>?_⟩
 obtain ⟨b,o,rfl,hc⟩:=h.cells h0
 refine⟨b,o,rfl,fun i hi=>?_⟩
 rw[hb.cell (p:=⟨b,o+i,none⟩) (h.lt h0)]
 exact hc i hi
def keptK (xs:List Int)(k:Nat):Nat→Bool:=fun i=>decide ((i:Int)∈xs.take k)
def keepsK (xs:List Int):Nat→Bool:=fun i=>decide ((i:Int)∈xs)
theorem keptK_all (xs:List Int)(k:Nat)(h:xs.length≤k):keptK xs k=keepsK xs:=by
 funext i;simp only[keptK,keepsK,List.take_of_length_le h]
def bools (m:Nat)(K:Nat→Bool):List Value:=(List.range m).map fun i=>Value.bool (K i)
theorem bools_zero (xs:List Int)(m:Nat):List.replicate m (Value.bool false)=bools m (keptK xs 0):=by
 apply List.ext_getElem?
 intro i
 simp only[bools,keptK,List.getElem?_replicate,List.getElem?_map]
 by_cases h:i<m <;> simp[h]
theorem bools_set (xs:List Int)(k m x:Nat)(hk:k<xs.length)(hx:xs[k]=(x:Int)):(bools m (keptK xs k)).set x (Value.bool true)=bools m (keptK xs (k+1)):=by
 apply List.ext_getElem?
 intro i
 rw[List.getElem?_set]
 simp only[bools,keptK,List.getElem?_map,List.length_map,List.length_range]
 rw[List.take_succ_eq_append_getElem hk,hx]
 by_cases hi:i<m
 ·by_cases c:x=i
  ·subst c;simp[hi]
  ·simp only[if_neg c,List.getElem?_range hi,Option.map_some,List.mem_append,List.mem_singleton]
   simp[show ¬(i:Int)=(x:Int) from by omega]
 ·rw[List.getElem?_eq_none (by simpa using hi)]
  by_cases c:x=i <;> simp[c,hi]
theorem bools_out (xs:List Int)(k m:Nat)(hk:k<xs.length)(hx:xs[k]<0∨(m:Int)≤xs[k]):bools m (keptK xs k)=bools m (keptK xs (k+1)):=by
 unfold bools
 apply List.map_congr_left
 intro i hi
 have hi':=List.mem_range.1 hi
 simp only[keptK,List.take_succ_eq_append_getElem hk,List.mem_append,List.mem_singleton]
 simp[show ¬(i:Int)=xs[k] from by omega]
theorem info4:(prog.info? 4).map (fun i=>(i.zero,i.size,i.bytes))=some (some (.bool false),1,1):=by kernel_rfl
structure Look (w wr:World) (m:Nat) (K:Nat→Bool):Prop where
 below:Below w.heap.size w wr
 ks:Keeps wr (w.heap.size+1) w.heap.size m K
theorem crash_low {w:World}{S:Nat→Prop}{p n:Nat}{d:List Int}{ws:List Wr}(h:Dsk w S p n d ws)(hk:ws.length≤100000)(a:Option Addr)(m c:Nat)(xs:List Int)(hx:JIn w a m xs)(hm:m≤140737488355328)(hS:∀k,S k→k<w.heap.size) :
  Calls prog 21 #[.pointer (some ⟨p,0,none⟩),.slice a m c] w fun e w'=>e=.returned (.tuple #[.int .i64 ws.length,.int .i64 0])∧Dsk w' S p n (settle (keepsK xs) ws d) []∧Kept S w w':=by
 obtain ⟨i0,hi,hz0,hz1,hz2⟩:=info_parts info4
 have HH:Hid (Dsk w S p n d ws):=h
 obtain ⟨q,cap,v,h⟩:=h
 have h1:=h.cell1
 obtain ⟨pv,cv,rfl,_⟩:=own_slice h.wt
 have hmk:=run_make (P:=prog) w 133 4 i0 _ underlying133 hi hz0 .i64 .i64 (ws.length:Int) (ws.length:Int) (by omega) (Int.le_refl _) (by rw[hz2];omega) (by omega)
 rw[hz1] at hmk
 simp only[Int.toNat_natCast,Nat.mul_one,Value.cells] at hmk
 rw[show madeCells #[Value.bool false] ws.length=(bools ws.length (keptK xs 0)).toArray by rw[← bools_zero];exact made_rep 1 (.bool false) (by omega) ws.length] at hmk
 obtain ⟨ob,hob⟩:∃ob,Obj.cells (bools ws.length (keptK xs 0)).toArray 4=ob:=⟨_,rfl⟩
 rw[hob] at hmk
 have HL:Hid (Look w ((w.alloc ob).alloc (.cells #[.slice (some ⟨w.heap.size,0,none⟩) ws.length ws.length] 133)) ws.length (keptK xs 0)):=by
  refine⟨((Below.refl _ w).alloc (Nat.le_refl _) _).alloc (by simp) _,heap_alloc2_new w _ _,?_⟩
  rw[heap_alloc2_old w ob _,← hob];rfl
 have HX:Hid (JIn w a m xs):=hx
 clear h hx hob
 go_enter func21,ntmps21
 go_wp2
 clear hmk h1
 generalize (w.alloc ob).alloc (.cells #[.slice (some ⟨w.heap.size,0,none⟩) ws.length ws.length] 133)=W0 at *
 go_loopw [19] (fun i wr=>∃k:Nat,k≤m∧i=.int .i64 k∧Hid (Look w wr ws.length (keptK xs k))) (fun i _=>m-(intOf i).toNat)
 case atStart=>exact⟨0,by omega,rfl,HL.out⟩
 case round =>
  obtain ⟨k,hkm,rfl,HR⟩:=hrel
  by_cases hlt:k<m
  ·obtain ⟨g,o,rfl,hc⟩:=(HX.out.later HR.out.below).cells (by omega)
   have hck:=hc k hlt
   have c0:wr.cell? ⟨w.heap.size+1,0,none⟩=some (.slice (some ⟨w.heap.size,0,none⟩) ws.length ws.length):=by rw[cell_of_row _ _ _ _ _ _ HR.out.ks.box];rfl
   have hkx:k<xs.length:=by rw[HX.out.len];exact hlt
   have ex:xs.getD k 0=xs[k]:=by simp[List.getD,List.getElem?_eq_getElem hkx]
   rw[ex] at hck
   clear ex hc
   obtain ⟨x,hxk⟩:∃x,x=xs[k]:=⟨_,rfl⟩
   have HE:Hid (x=xs[k]):=hxk
   rw[← hxk] at hck
   clear hxk
   by_cases cx:0≤x∧x<(ws.length:Int)
   ·obtain ⟨y,rfl⟩:∃y:Nat,x=y:=⟨x.toNat,by omega⟩
    have hy:y<ws.length:=by omega
    have cy:wr.cell? ⟨w.heap.size,y,none⟩=some (.bool (keptK xs k y)):=by rw[cell_of_row _ _ _ _ _ _ HR.out.ks.row];simp[hy]
    have fy:=frozen_of_row wr w.heap.size y _ 4 HR.out.ks.row
    have HN:Hid (Look w (wr.setCell ⟨w.heap.size,y,none⟩ (.bool true)) ws.length (keptK xs (k+1))):=by
     refine⟨HR.out.below.setCell (Nat.le_refl _) _,?_,?_⟩
     ·exact (heap_setCell_other _ _ _ _ (by show w.heap.size+1≠w.heap.size;omega)).trans HR.out.ks.box
     ·have e:=setCell_row (cs:=bools ws.length (keptK xs k)) HR.out.ks.row y (.bool true)
      rw[bools_set xs k ws.length y hkx HE.out.symm] at e
      exact e
    clear HR HL
    generalize keptK xs k y=kk at *
    have cx1:¬(y:Int)<0:=by omega
    go_wp2
    go_roundw
    case rel=>exact⟨k+1,by omega,by go_num,HN.out⟩
    case measure=>simp[intOf];omega
   ·have HN:Hid (Look w wr ws.length (keptK xs (k+1))):=by
     refine⟨HR.out.below,HR.out.ks.box,?_⟩
     have e:=HR.out.ks.row
     have e2:=bools_out xs k ws.length hkx (by rw[← HE.out];omega)
     unfold bools at e2
     rw[e2] at e
     exact e
    clear HR HL
    by_cases cx0:0≤x
    ·have cx1:(ws.length:Int)≤x:=by omega
     go_wp2
     go_roundw
     case rel=>exact⟨k+1,by omega,by go_num,HN.out⟩
     case measure=>simp[intOf];omega
    ·go_wp2
     go_roundw
     case rel=>exact⟨k+1,by omega,by go_num,HN.out⟩
     case measure=>simp[intOf];omega
  ·obtain rfl:m=k:=by omega
   have HN:Hid (Look w wr ws.length (keepsK xs)):=by
    have:=HR.out
    rw[keptK_all xs m (by rw[HX.out.len];omega)] at this
    exact this
   clear HR HL
   go_wp2_with fail
   have hle:=HN.out.below.size
   have hb:=HN.out.below
   refine (settle_crash (HH.out.later hb) hk (keepsK xs) (w.heap.size+1) w.heap.size ws.length HN.out.ks (fun s=>by have:=hS _ s;omega) (fun s=>by have:=hS _ s;omega) (by omega)).mono ?_
   rintro e w1 ⟨rfl,hd,hkp⟩
   go_wp2
   go_ret2
   exact⟨rfl,hd,(Kept.of_below hb).trans hkp (fun _ _ h=>h)⟩
theorem crash_any {w:World}{S:Nat→Prop}{p n:Nat}{d:List Int}{ws:List Wr}(h:Dsk w S p n d ws)(hk:ws.length≤100000)(a:Option Addr)(m c:Nat)(xs:List Int)(hx:JIn w a m xs)(hm:m≤140737488355328) :
  Calls prog 21 #[.pointer (some ⟨p,0,none⟩),.slice a m c] w fun e w'=>e=.returned (.tuple #[.int .i64 ws.length,.int .i64 0])∧Dsk w' S p n (settle (keepsK xs) ws d) []∧Kept S w w':=by
 refine (crash_low (S:=fun k=>S k∧k<w.heap.size) (h.mono (fun k hk hs=>⟨hs,hk⟩)) hk a m c xs hx hm (fun _ h=>h.2)).mono ?_
 rintro e w' ⟨rfl,hd,hkp⟩
 exact⟨rfl,hd.mono (fun _ _ h=>h.1),hkp.mono (fun _ _ h=>h.1)⟩
structure Told (w:World) (B g:Nat) (ws:List Wr) (vs:List Value):Prop where
 len:vs.length=ws.length
 blk:Blk w g 117 (ws.length*2)
 hg:B≤g
 sect:∀i (h:i<ws.length),w.cell? ⟨g,i*2,none⟩=some (.int .i64 (ws[i].s:Int))
 data:∀i (h:i<vs.length),w.cell? ⟨g,i*2+1,none⟩=some vs[i]
 each:∀i (h:i<ws.length) (h2:i<vs.length),w.ownsRow B 5 1 vs[i] 64 (U8 ws[i].b)
 apart:∀i j (hi:i<vs.length) (hj:j<vs.length),i<j→∀a b,vs[i].ownBlock=some a→vs[j].ownBlock=some b→a<b
structure Tel (w wr:World) (ws:List Wr) (k:Nat) (vs:List Value):Prop where
 len:vs.length=k
 hk:k≤ws.length
 blk:Blk wr w.heap.size 117 (ws.length*2)
 sect:∀i (h:i<ws.length),i<k→wr.cell? ⟨w.heap.size,i*2,none⟩=some (.int .i64 (ws[i].s:Int))
 data:∀i (h:i<vs.length),wr.cell? ⟨w.heap.size,i*2+1,none⟩=some vs[i]
 each:∀i (h:i<ws.length) (h2:i<vs.length),wr.ownsRow (w.heap.size+1) 5 1 vs[i] 64 (U8 ws[i].b)
 apart:∀i j (hi:i<vs.length) (hj:j<vs.length),i<j→∀a b,vs[i].ownBlock=some a→vs[j].ownBlock=some b→a<b
 below:Below w.heap.size w wr
theorem Tel.later {w wr w':World}{ws:List Wr}{k:Nat}{vs:List Value}(h:Tel w wr ws k vs)(hb:Below wr.heap.size wr w'):Tel w w' ws k vs :=
 ⟨h.len,h.hk,h.blk.same (hb.block _ h.blk.lt),fun i hi hik=>(hb.cell (p:=⟨w.heap.size,i*2,none⟩) h.blk.lt).trans (h.sect i hi hik),fun i hi=>(hb.cell (p:=⟨w.heap.size,i*2+1,none⟩) h.blk.lt).trans (h.data i hi),fun i h1 h2=>own_later (h.each i h1 h2) hb,h.apart,h.below.trans (hb.mono h.below.size)⟩
theorem Blk.some {w:World}{g t sz:Nat}(h:Blk w g t sz)(o:Nat)(ho:o<sz):∃u,w.cell? ⟨g,o,none⟩=some u:=by
 obtain ⟨cur,h,hs⟩:=h
 exact⟨cur[o],by rw[cell_of_row w g o cur t (0,0) h,Array.getElem?_eq_getElem (by omega)]⟩
theorem Blk.free {w:World}{g t sz:Nat}(h:Blk w g t sz)(o:Nat):w.frozen? ⟨g,o,none⟩=false:=by
 obtain ⟨cur,h,hs⟩:=h
 exact frozen_of_row w g o _ t h
theorem Tel.step {w wr w1:World}{ws:List Wr}{k:Nat}{vs:List Value}{v:Value}(h:Tel w wr ws k vs)(hb:Below wr.heap.size wr w1)(hk:k<ws.length)(hv:w1.ownsRow wr.heap.size 5 1 v 64 (U8 ws[k].b)) :
  Tel w ((w1.setCell ⟨w.heap.size,k*2,none⟩ (.int .i64 (ws[k].s:Int))).setCell ⟨w.heap.size,k*2+1,none⟩ v) ws (k+1) (vs++[v]):=by
 have h1:=h.later hb
 have hlt:=h.blk.lt
 obtain ⟨u0,c0⟩:=h1.blk.some (k*2) (by omega)
 obtain ⟨u1,c1⟩:=(h1.blk.setCell (g':=w.heap.size) (o:=k*2) (.int .i64 (ws[k].s:Int))).some (k*2+1) (by omega)
 have hold:∀{vv:Value} {xs:List Value} {nn:Nat},w1.ownsRow (w.heap.size+1) 5 1 vv nn xs→((w1.setCell ⟨w.heap.size,k*2,none⟩ (.int .i64 (ws[k].s:Int))).setCell ⟨w.heap.size,k*2+1,none⟩ v).ownsRow (w.heap.size+1) 5 1 vv nn xs:=fun {vv xs nn} ho =>
  own_same ho (fun b hb'=>(heap_setCell_other _ _ _ _ (by have:=(ho.lt b hb').1;show b≠w.heap.size;omega)).trans (heap_setCell_other _ _ _ _ (by have:=(ho.lt b hb').1;show b≠w.heap.size;omega)))
 refine⟨by simp[h.len],by omega,(h1.blk.setCell _).setCell _,fun i hi hik=>?_,fun i hi=>?_,fun i hi h2=>?_,fun i j hi hj hij a b ha hb'=>?_,(h1.below.setCell (Nat.le_refl _) _).setCell (Nat.le_refl _) _⟩
 ·rw[World.cell?_setCell_other _ _ _ _ (by intro e;simp only[Addr.mk.injEq] at e;omega)]
  by_cases c:i=k
  ·subst c
   exact World.cell?_setCell_same _ _ _ c0
  ·rw[World.cell?_setCell_other _ _ _ _ (by intro e;simp only[Addr.mk.injEq] at e;omega)]
   exact h1.sect i hi (by omega)
 ·by_cases c:i<vs.length
  ·have hl:=h.len
   rw[World.cell?_setCell_other _ _ _ _ (by intro e;simp only[Addr.mk.injEq] at e;omega),World.cell?_setCell_other _ _ _ _ (by intro e;simp only[Addr.mk.injEq] at e;omega),List.getElem_append_left c]
   exact h1.data i c
  ·have e:i=k:=by simp at hi;have:=h.len;omega
   subst e
   rw[World.cell?_setCell_same _ _ _ c1]
   simp[← h.len]
 ·by_cases c:i<vs.length
  ·rw[List.getElem_append_left c]
   exact hold (h1.each i hi c)
  ·have e:i=k:=by simp at h2;have:=h.len;omega
   subst e
   have e2:(vs++[v])[i]=v:=by simp[← h.len]
   rw[e2]
   exact hold (own_mono hv (by have:=h.blk.lt;omega))
 ·by_cases c:j<vs.length
  ·rw[List.getElem_append_left c] at hb'
   rw[List.getElem_append_left (by omega)] at ha
   exact h.apart i j (by omega) c hij a b ha hb'
  ·have e:j=k:=by simp at hj;have:=h.len;omega
   subst e
   have e2:(vs++[v])[j]=v:=by simp[← h.len]
   rw[e2] at hb'
   have hi':i<vs.length:=by have:=h.len;omega
   rw[List.getElem_append_left hi'] at ha
   have f1:=(hv.lt b hb').1
   have f2:=((h.each i (by omega) hi').lt a ha).2
   omega
theorem info82:(prog.info? 117).map (fun i=>(i.zero,i.size,i.bytes))=some (some (.agg #[.int .i64 0,.slice none 0 0]),2,32):=by kernel_rfl
theorem waiting_any {w:World}{S:Nat→Prop}{p n:Nat}{d:List Int}{ws:List Wr}(h:Dsk w S p n d ws)(hk:ws.length≤100000) :
  Calls prog 13 #[.pointer (some ⟨p,0,none⟩)] w fun e w'=>∃g vs,e=.returned (.slice (some ⟨g,0,none⟩) ws.length ws.length)∧Told w' w.heap.size g ws vs∧Below w.heap.size w w':=by
 obtain ⟨i0,hi,hz0,hz1,hz2⟩:=info_parts info82
 obtain ⟨q,cap,v,h⟩:=h
 have h1:=h.cell1
 have HH:Hid (PD w S p n d ws q cap v):=h
 obtain ⟨pv,cv,rfl,_⟩:=own_slice h.wt
 clear h
 have hmk:=run_make (P:=prog) w 46 117 i0 _ underlying46 hi hz0 .i64 .i64 (ws.length:Int) (ws.length:Int) (by omega) (Int.le_refl _) (by rw[hz2];omega) (by omega)
 rw[hz1] at hmk
 simp only[Int.toNat_natCast,Value.cells] at hmk
 have HT:Hid (Tel w (w.alloc (.cells (madeCells #[.int .i64 0,.slice none 0 0] (ws.length*2)) 117)) ws 0 []) :=
  ⟨rfl,Nat.zero_le _,⟨_,heap_alloc_new w _,size_madeCells _ _⟩,fun i _ h=>by omega,fun i h=>by simp at h,fun i _ h=>by simp at h,fun i j h=>by simp at h,below_alloc w _⟩
 obtain ⟨ob,hob⟩:∃ob,Obj.cells (madeCells #[.int .i64 0,.slice none 0 0] (ws.length*2)) 117=ob:=⟨_,rfl⟩
 rw[hob] at hmk HT
 clear hob
 have h1':(w.alloc ob).cell? ⟨p,1,none⟩=some (.slice pv ws.length cv):=(HH.out.later (below_alloc w ob)).cell1
 go_enter func13,ntmps13
 go_wp2
 clear hmk h1'
 generalize w.alloc ob=W0 at *
 go_loopw [19] (fun i wr=>∃(k:Nat) (vs:List Value),i=.int .i64 k∧Hid (Tel w wr ws k vs)) (fun i _=>ws.length-(intOf i).toNat)
 case atStart=>exact⟨0,[],rfl,HT.out⟩
 case round =>
  obtain ⟨k,vs,rfl,HR⟩:=hrel
  clear HT
  have hkl:=HR.out.hk
  by_cases hlt:k<ws.length
  ·have hp1:=HH.out.later HR.out.below
   obtain ⟨g,c',e,hr⟩:=wt_range hp1.wt HH.out.fit hlt
   simp only[Value.slice.injEq,true_and] at e
   obtain ⟨rfl,rfl⟩:=e
   have HX:=HH.out.fit.at k hlt
   have HS:Hid (∀(w1:World) (v:Value),Below (wr.alloc (.cells (wcell ws[k]).toArray 114)).heap.size (wr.alloc (.cells (wcell ws[k]).toArray 114)) w1→w1.ownsRow (wr.alloc (.cells (wcell ws[k]).toArray 114)).heap.size 5 1 v 64 (U8 ws[k].b)→Tel w ((w1.setCell ⟨w.heap.size,k*2,none⟩ (.int .i64 (ws[k].s:Int))).setCell ⟨w.heap.size,k*2+1,none⟩ v) ws (k+1) (vs++[v])) :=
    fun w1 v hb ho=>(HR.out.later (below_alloc wr _)).step hb hlt ho
   have HB0:Hid (Blk (wr.alloc (.cells (wcell ws[k]).toArray 114)) w.heap.size 117 (ws.length*2)):=(HR.out.later (below_alloc wr _)).blk
   generalize ws[k]=X at *
   have t1:(wr.alloc (.cells (wcell X).toArray 114)).cell? ⟨wr.heap.size,0,none⟩=some (.int .i64 (X.s:Int)):=by
    rw[cell_of_row _ _ _ _ 114 (0,0) (heap_alloc_new wr _)];rfl
   have t2:(wr.alloc (.cells (wcell X).toArray 114)).rangeAt wr.heap.size 1 (U8 X.b):=new_range_at wr _ _ 1 114 (wcell_data X)
   have hsz:(wr.alloc (.cells (wcell X).toArray 114)).heap.size=wr.heap.size+1:=by simp
   have hwlt:w.heap.size<wr.heap.size:=HR.out.blk.lt
   have HXl:Hid (X.b.length=64):=HX.2.1
   clear HR hp1 h1
   go_wp2_with (first | (refine wpList_load_mid (by rfl) 114 (.tmp 22) (by rfl) g (k*65) (by rfl) (wcell X) _ hr underlying114 rfl (by rw[size80];simp[wcell,HX.2.1]) ?_) | (refine wpList_alloc80 (by rfl) (by rfl) ?_) | (refine wpList_store80 (by rfl) (.tmp 5) (.tmp 23) (by rfl) X (by rfl) (by rfl) HX.2.1 ?_) | fail)
   simp only[Act.put]
   obtain ⟨W,hW⟩:∃W,wr.alloc (.cells (wcell X).toArray 114)=W:=⟨_,rfl⟩
   rw[hW] at t1 t2 HS HB0 hsz ⊢
   clear hW hr HX
   have i1:(k:Int)<(ws.length:Int):=by omega
   have i0':(0:Int)≤(k:Int):=by omega
   have hne:¬wr.heap.size=w.heap.size:=by omega
   go_region_held3 (fun w'=>w'.cell? ⟨wr.heap.size,0,none⟩=some (.int .i64 (X.s:Int))∧w'.rangeAt wr.heap.size 1 (U8 X.b)) (first | exact⟨t1,t2⟩ | exact⟨a1,a2⟩ | exact⟨b1,b2⟩) (first | (go_at_call 42;refine (clone_range wr.heap.size 1 64 64 X.b _ HXl.out (by omega) ?_).mono ?_;exact (‹_∧World.rangeAt _ _ _ _›).2;rintro e wa ⟨v1,rfl,hown,hba⟩;have hba':Below W.heap.size W wa:=⟨hba.os,hba.tape,hba.output,hba.size,hba.block⟩;obtain ⟨pv1,cv1,rfl,_⟩:=own_slice hown;have a1:wa.cell? ⟨wr.heap.size,0,none⟩=some (.int .i64 (X.s:Int)):=(hba'.cell (p:=⟨wr.heap.size,0,none⟩) (by show wr.heap.size<W.heap.size;omega)).trans t1;have a2:=rangeAt_same t2 (hba'.block wr.heap.size (by omega));have HB1:=HB0.out.same (hba'.block w.heap.size HB0.out.lt);obtain ⟨u0,s0⟩:=HB1.some (k*2) (by omega);obtain ⟨u1,s1⟩:=HB1.some (k*2+1) (by omega);have f0:=HB1.free (k*2);have f1:=HB1.free (k*2+1);have HN:=HS.out wa _ hba' hown;have b1:((wa.setCell ⟨w.heap.size,k*2,none⟩ (.int .i64 (X.s:Int))).setCell ⟨w.heap.size,k*2+1,none⟩ (.slice pv1 64 cv1)).cell? ⟨wr.heap.size,0,none⟩=some (.int .i64 (X.s:Int)):=by { rw[World.cell?_setCell_far _ _ _ _ (by show w.heap.size≠wr.heap.size;omega),World.cell?_setCell_far _ _ _ _ (by show w.heap.size≠wr.heap.size;omega)];exact a1 };have b2:((wa.setCell ⟨w.heap.size,k*2,none⟩ (.int .i64 (X.s:Int))).setCell ⟨w.heap.size,k*2+1,none⟩ (.slice pv1 64 cv1)).rangeAt wr.heap.size 1 (U8 X.b):=rangeAt_same a2 ((heap_setCell_other _ _ _ _ (by show wr.heap.size≠w.heap.size;omega)).trans (heap_setCell_other _ _ _ _ (by show wr.heap.size≠w.heap.size;omega)))))
   clear b1 b2 a1 a2 s0 s1 f0 f1 HB1 HS t1 t2
   have HN2:Hid (Tel w ((wa.setCell ⟨w.heap.size,k*2,none⟩ (.int .i64 (X.s:Int))).setCell ⟨w.heap.size,k*2+1,none⟩ (.slice pv1 64 cv1)) ws (k+1) (vs++[.slice pv1 64 cv1])):=HN
   clear HN
   go_wp2
   go_roundw
   case rel=>exact⟨k+1,_,by go_num,HN2.out⟩
   case measure=>simp[intOf];omega
  ·obtain rfl:k=ws.length:=by omega
   have HF:Hid (Told wr w.heap.size w.heap.size ws vs∧Below w.heap.size w wr) :=
    ⟨⟨HR.out.len,HR.out.blk,Nat.le_refl _,fun i hi=>HR.out.sect i hi hi,HR.out.data,fun i h1 h2=>own_mono (HR.out.each i h1 h2) (Nat.le_succ _),HR.out.apart⟩,HR.out.below⟩
   clear HR
   go_wp2
   go_ret
   exact⟨_,vs,rfl,HF.out.1,HF.out.2⟩
def ZC (ws:List Wr)(vs:List Value):List Value:=(List.zipWith (fun (x:Wr) u=>[Value.int .i64 (x.s:Int),u]) ws vs).flatten
structure RD (w:World) (S:Nat→Prop) (p n:Nat) (d:List Int) (ws:List Wr) (g L cap:Nat) (v:Value) (vs:List Value):Prop where
 str:w.heap[p]?=some (.cells #[.slice (some ⟨g,0,none⟩) L cap,v] 100 (0,0))
 dur:w.ownsRow 0 5 1 (.slice (some ⟨g,0,none⟩) L cap) L (U8 d)
 wr:w.ownsRow 0 152 2 v ws.length (ZC ws vs)
 len:vs.length=ws.length
 dat:∀i (h:i<ws.length) (h2:i<vs.length),w.ownsRow 0 5 1 vs[i] 64 (U8 ws[i].b)
 ne:∀i (h2:i<vs.length),vs[i].ownBlock≠some g
 sp:S p
 sg:S g
 sv:∀k,v.ownBlock=some k→S k
 sd:∀i (h2:i<vs.length) k,vs[i].ownBlock=some k→S k
 hL:L=64*n
 n1:1≤n
 n2:n≤4096
 dl:d.length=64*n
 db:Bytes d
 fit:Fit n ws
def Ref (w:World)(S:Nat→Prop)(p n:Nat)(d:List Int)(ws:List Wr):Prop:=∃g L cap v vs,RD w S p n d ws g L cap v vs
theorem RD.blk {w:World}{S:Nat→Prop}{p n:Nat}{d:List Int}{ws:List Wr}{g L cap:Nat}{v:Value}{vs:List Value}(h:RD w S p n d ws g L cap v vs):Blk w p 100 2:=⟨_,h.str,rfl⟩
theorem RD.cell0 {w:World}{S:Nat→Prop}{p n:Nat}{d:List Int}{ws:List Wr}{g L cap:Nat}{v:Value}{vs:List Value}(h:RD w S p n d ws g L cap v vs):w.cell? ⟨p,0,none⟩=some (.slice (some ⟨g,0,none⟩) L cap):=by
 rw[cell_of_row w p 0 _ 100 (0,0) h.str];rfl
theorem RD.cell1 {w:World}{S:Nat→Prop}{p n:Nat}{d:List Int}{ws:List Wr}{g L cap:Nat}{v:Value}{vs:List Value}(h:RD w S p n d ws g L cap v vs):w.cell? ⟨p,1,none⟩=some v:=by
 rw[cell_of_row w p 1 _ 100 (0,0) h.str];rfl
theorem RD.same {w w':World}{S T:Nat→Prop}{p n:Nat}{d:List Int}{ws:List Wr}{g L cap:Nat}{v:Value}{vs:List Value}(h:RD w S p n d ws g L cap v vs)(hs:∀k,k<w.heap.size→S k→T k)(e:∀k,k<w.heap.size→S k→w'.heap[k]?=w.heap[k]?):RD w' T p n d ws g L cap v vs :=
 have hp:=h.blk.lt
 have hg:=(own_blk h.dur).1.lt
 have hv:∀k,v.ownBlock=some k→k<w.heap.size:=fun _ hk=>(own_ownBlk h.wr hk).elim fun _ hb=>hb.lt
 have hd:∀i (h2:i<vs.length) k,vs[i].ownBlock=some k→k<w.heap.size:=fun i h2 _ hk=>(own_ownBlk (h.dat i (by have:=h.len;omega) h2) hk).elim fun _ hb=>hb.lt
 ⟨(e p hp h.sp).trans h.str,own_same h.dur (fun k hk=>by simp only[Value.ownBlock,Option.some.injEq] at hk;subst hk;exact e _ hg h.sg),own_same h.wr (fun k hk=>e k (hv k hk) (h.sv k hk)),h.len,fun i h1 h2=>own_same (h.dat i h1 h2) (fun k hk=>e k (hd i h2 k hk) (h.sd i h2 k hk)),h.ne,hs p hp h.sp,hs g hg h.sg,fun k hk=>hs k (hv k hk) (h.sv k hk),fun i h2 k hk=>hs k (hd i h2 k hk) (h.sd i h2 k hk),h.hL,h.n1,h.n2,h.dl,h.db,h.fit⟩
theorem RD.later {w w':World}{S:Nat→Prop}{p n:Nat}{d:List Int}{ws:List Wr}{g L cap:Nat}{v:Value}{vs:List Value}(h:RD w S p n d ws g L cap v vs)(hb:Below w.heap.size w w'):RD w' S p n d ws g L cap v vs :=
 h.same (fun _ _=>id) (fun k' hk' _=>hb.block k' hk')
theorem Ref.later {w w':World}{S:Nat→Prop}{p n:Nat}{d:List Int}{ws:List Wr}(h:Ref w S p n d ws)(hb:Below w.heap.size w w'):Ref w' S p n d ws:=by
 obtain ⟨g,L,cap,v,vs,h⟩:=h;exact⟨g,L,cap,v,vs,h.later hb⟩
theorem Ref.kept {w w':World}{S T:Nat→Prop}{p n:Nat}{d:List Int}{ws:List Wr}(h:Ref w S p n d ws)(hk:Kept T w w')(hd:∀k,S k→T k→False):Ref w' S p n d ws:=by
 obtain ⟨g,L,cap,v,vs,h⟩:=h;exact⟨g,L,cap,v,vs,h.same (fun _ _=>id) (fun k hk' hs=>hk.block k hk' (fun t=>hd k hs t))⟩
theorem Ref.mono {w:World}{S T:Nat→Prop}{p n:Nat}{d:List Int}{ws:List Wr}(h:Ref w S p n d ws)(hs:∀k,k<w.heap.size→S k→T k):Ref w T p n d ws:=by
 obtain ⟨g,L,cap,v,vs,h⟩:=h;exact⟨g,L,cap,v,vs,h.same hs (fun _ _ _=>rfl)⟩
theorem ref_fin {w w1:World}{g L cap n:Nat}{d:List Int}(hb:Below w.heap.size w w1)(hd:w1.ownsRow w.heap.size 5 1 (.slice (some ⟨g,0,none⟩) L cap) L (U8 d))(hL:L=64*n)(hn1:1≤n)(hn2:n≤4096)(hy:Bytes d) :
  Ref (w1.alloc (.cells #[.slice (some ⟨g,0,none⟩) L cap,.slice none 0 0] 100)) (fun k=>w.heap.size≤k) w1.heap.size n d []∧Below w.heap.size w (w1.alloc (.cells #[.slice (some ⟨g,0,none⟩) L cap,.slice none 0 0] 100)):=by
 have hl:d.length=64*n:=by have:=hd.1;rw[U8_length] at this;omega
 refine⟨⟨g,L,cap,.slice none 0 0,[],heap_alloc_new _ _,own_mono (hd.alloc _) (Nat.zero_le _),World.ownsRow_nil _ _ _ _,rfl,fun i h=>by simp at h,fun i h=>by simp at h,hb.size,(own_blk hd).2.2.2,fun k hk=>by simp[Value.ownBlock] at hk,fun i h=>by simp at h,hL,hn1,hn2,hl,hy,Fit.nil _⟩,hb.alloc hb.size _⟩
theorem rlen_any {w:World}{S:Nat→Prop}{p n:Nat}{d:List Int}{ws:List Wr}(h:Ref w S p n d ws):Calls prog 56 #[.pointer (some ⟨p,0,none⟩)] w fun e w'=>e=.returned (.int .i64 n)∧w=w':=by
 obtain ⟨g,L,cap,v,vs,h⟩:=h
 have h0:=h.cell0
 have e1:(L:Int) / 64=(n:Int):=by have:=h.hL;omega
 have hn2:=h.n2
 have hw:Go.RowKit.wrap64 (n:Int)=(n:Int):=by have:=IntKind.wrap_i64 (n:Int);unfold Go.RowKit.wrap64;omega
 clear h
 go_enter func56,ntmps56
 go_wp2
 go_ret
 exact⟨rfl,rfl⟩
end Go.Proofs.YtdadpepfpiimgaaGreatDoor
namespace Go.Proofs.YtdadpepfpiimgaaGreatDoor
open Go.RowKit
section
variable {P:Program} {ops:Array Oper} {Q:Exit→Act→World→Prop} {md:Region.Mode} {S:World→Prop} {L:Nat}
def wpAnyL (P:Program)(md:Region.Mode)(ops:Array Oper)(Q:Exit→Act→World→Prop)(S:World→Prop)(L:Nat):Nat→Array Bool→Act→World→Prop
 | 0,listed,a,w=>Region.ready md ops listed=[]∧Q .normal a w
 | fuel+1,listed,a,w =>
  (Region.ready md ops listed=[]→Q .normal a w) ∧
  ∀i∈Region.ready md ops listed,wpOp P ops Q i (fun a' w'=>(i≠L→S w')∧wpAnyL P md ops Q S L fuel (listed.setIfInBounds i true) a' w') a w
theorem wpAny_of_L:∀(fuel:Nat) (listed:Array Bool) (a:Act) (w:World),wpAnyL P md ops Q S L fuel listed a w→wpAny P md ops Q fuel listed a w
 | 0,_,_,_,h=>h
 | fuel+1,_,_,_,h=>⟨h.1,fun i hi=>wpOp_mono (fun a' w' h'=>wpAny_of_L fuel _ a' w' h'.2) (h.2 i hi)⟩
theorem wpAnyL_first {i:Nat}{oi:Oper}{v:Value}(hi:ops[i]?=some oi)(hsel:∀(j:Nat) (o:Oper) cs b,ops[j]?=some o→o.op≠.select cs b)
  (hQ:∀c a w,Q (.panic c) (a.put oi.dst v) w→Q (.panic c) a w) (hdep:∀o,ops[L]?=some o→∃e∈o.after,Region.binds md e=true∧e.on=i) :
  ∀(fuel:Nat) (listed:Array Bool) (a:Act) (w:World),
   (∀j oj,ops[j]?=some oj→j≠i→listed.getD j true=false→(∀e∈oj.after,Region.binds md e=true→e.on≠i)→oi.apart ops oj=true) →
   i∈Region.ready md ops listed→YieldsIf P ops S oi v a→S w →
   wpAnyL P md ops Q S L fuel (listed.setIfInBounds i true) (a.put oi.dst v) w→wpAnyL P md ops Q S L (fuel+1) listed a w:=by
 intro fuel
 induction fuel with
 | zero =>
  intro listed a w _ hr hy hS H
  refine⟨fun h=>(by rw[h] at hr;cases hr),fun j hj=>?_⟩
  by_cases hji:j=i
  ·subst hji;exact hy.wpOp hi hS ⟨fun _=>hS,H⟩
  ·have:=ready_mono hj hji
   rw[H.1] at this
   cases this
 | succ fuel ih =>
  intro listed a w hfree hr hy hS H
  refine⟨fun h=>(by rw[h] at hr;cases hr),fun j hj=>?_⟩
  by_cases hji:j=i
  ·subst hji;exact hy.wpOp hi hS ⟨fun _=>hS,H⟩
  ·have h1:=H.2 j (ready_mono hj hji)
   obtain ⟨hjun,oj,hoj,hall⟩:=mem_ready.1 hj
   have hnot:∀e∈oj.after,Region.binds md e=true→e.on≠i:=fun e he hb heq=>by
    have h1:=hall e he hb
    have h0:=(mem_ready.1 hr).1
    rw[heq] at h1
    rcases Nat.lt_or_ge i listed.size with h' | h'
    ·simp[h'] at h0 h1;rw[h0] at h1;cases h1
    ·simp[Array.getElem?_eq_none h'] at h1
   have hjL:j≠L:=fun e=>by
    subst e
    obtain ⟨e,he,hb,ho⟩:=hdep oj hoj
    exact hnot e he hb ho
   have h2:=wpOp_putIf hoj (hfree j oj hoj hji hjun hnot) (fun cs b=>hsel i oi cs b hi) (fun cs b=>hsel j oj cs b hoj) hQ hy h1
   have hfree':∀k ok,ops[k]?=some ok→k≠i→(listed.setIfInBounds j true).getD k true=false →
     (∀e∈ok.after,Region.binds md e=true→e.on≠i)→oi.apart ops ok=true:=fun k ok hk hki hun hno=>by
    refine hfree k ok hk hki ?_ hno
    by_cases hjk:j=k
    ·subst hjk;exact hjun
    ·rw[getD_set_ne true hjk] at hun;exact hun
   refine wpOp_mono (fun a' w' h3=>⟨fun _=>h3.2.1 hjL,ih (listed.setIfInBounds j true) a' w' hfree' (ready_mono hr (Ne.symm hji)) h3.1 (h3.2.1 hjL) ?_⟩) h2
   rw[Array.setIfInBounds_comm _ _ hji]
   exact h3.2.2
theorem wpAnyL_take {i:Nat}{oi:Oper}{v:Value}{fuel:Nat}{listed:Array Bool}{a:Act}{w:World}(hi:ops[i]?=some oi)
  (hs:Region.noSelect ops=true) (hf:Region.free md ops listed i=true) (hr:(Region.ready md ops listed).contains i=true)
  (hd:(match ops[L]? with | some o=>o.after.any (fun e=>Region.binds md e && e.on == i) | none=>true)=true)
  (hQ:∀c a w,Q (.panic c) (a.put oi.dst v) w→Q (.panic c) a w) (hy:YieldsIf P ops S oi v a) (hS:S w)
  (h:wpAnyL P md ops Q S L fuel (listed.setIfInBounds i true) (a.put oi.dst v) w):wpAnyL P md ops Q S L (fuel+1) listed a w :=
 wpAnyL_first hi (Region.noSelect_spec hs) hQ (fun o ho=>by
  rw[ho] at hd
  obtain ⟨e,he,hb⟩:=Array.any_eq_true'.1 hd
  simp only[Bool.and_eq_true,beq_iff_eq] at hb
  exact⟨e,he,hb.1,hb.2⟩) fuel listed a w (Region.free_spec hi hf) (by simpa using hr) hy hS h
theorem tkL (i:Nat){oi:Oper}{v:Value}{fuel:Nat}{listed:Array Bool}{a a':Act}{w:World}(hS:S w)(h:wpAnyL P md ops Q S L fuel (listed.setIfInBounds i true) a' w)(hi:ops[i]?=some oi:=by simp;rfl)(hs:Region.noSelect ops=true:=by kernel_rfl)(hf:Region.free md ops listed i=true:=by kernel_rfl)(hr:(Region.ready md ops listed).contains i=true:=by kernel_rfl)(hd:(match ops[L]? with | some o=>o.after.any (fun e=>Region.binds md e && e.on == i) | none=>true)=true:=by kernel_rfl)(hg:Region.wanted oi (yielded ops a.tmps)=true:=by rfl)(hy:∀w,(execOp a.eval oi).run P w=.ok (.value v) w:=by intro w;go_simp;with_reducible rfl)(ha:a.put oi.dst v=a':=by simp only[Act.put,zA,zB,zC];with_reducible rfl)(hQ:∀c a w,Q (.panic c) (a.put oi.dst v) w→Q (.panic c) a w:=by exact fun _ _ _ h=>h):wpAnyL P md ops Q S L (fuel+1) listed a w :=
 wpAnyL_take hi hs hf hr hd hQ (.inl ⟨hg,fun w _=>hy w⟩) hS (ha ▸ h)
def AllReadyL (P:Program)(md:Region.Mode)(ops:Array Oper)(Q:Exit→Act→World→Prop)(S:World→Prop)(L fuel:Nat)(listed:Array Bool)(a:Act)(w:World)(rs:List Nat):Prop :=
 ∀i∈rs,wpOp P ops Q i (fun a' w'=>(i≠L→S w')∧wpAnyL P md ops Q S L fuel (listed.setIfInBounds i true) a' w') a w
theorem AllReadyL.nil {fuel:Nat}{listed:Array Bool}{a:Act}{w:World}:AllReadyL P md ops Q S L fuel listed a w []:=fun _ h=>by cases h
theorem AllReadyL.cons {fuel:Nat}{listed:Array Bool}{a:Act}{w:World}{i:Nat}{o:Oper}{rs:List Nat}(ho:ops[i]?=some o)
  (h:∀K':Act→World→Prop,Shut (∀a w,(i≠L→S w)→wpAnyL P md ops Q S L fuel (listed.setIfInBounds i true) a w→K' a w)→if Region.wanted o (yielded ops a.tmps)=true then Oper.wp P o a w K' Q else K' (a.put o.dst undef) w)
  (hs:AllReadyL P md ops Q S L fuel listed a w rs):AllReadyL P md ops Q S L fuel listed a w (i :: rs):=fun j hj=>by
 rcases List.mem_cons.1 hj with rfl | hj
 ·exact wpOp_step ho (fun K' hK=>h K' (fun a w hS hW=>hK a w ⟨hS,hW⟩))
 ·exact hs j hj
theorem wpAnyL_ready {rs:List Nat}{fuel:Nat}{listed:Array Bool}{a:Act}{w:World}(hr:Region.ready md ops listed=rs)(hne:rs≠[])
  (h:AllReadyL P md ops Q S L fuel listed a w rs):wpAnyL P md ops Q S L (fuel+1) listed a w :=
 ⟨fun h0=>absurd (hr ▸ h0) hne,hr ▸ h⟩
theorem wpAnyL_done {listed:Array Bool}{a:Act}{w:World}(hr:Region.ready md ops listed=[])(h:Q .normal a w) :
  ∀fuel,wpAnyL P md ops Q S L fuel listed a w
 | 0=>⟨hr,h⟩
 | _+1=>⟨fun _=>h,by rw[hr];simp⟩
theorem wp_region_last {id:Nat}{a:Act}{w:World}(L:Nat)(S:World→Prop)(hm:P.follows .mixedOrders=true)
  (h:wpAnyL P .any ops Q S L ops.size (Array.replicate ops.size false) a w.drew):(Code.region id ops true).wp P Q a w :=
 wp_region_any hm (wpAny_of_L _ _ _ _ h)
end
end Go.Proofs.YtdadpepfpiimgaaGreatDoor
