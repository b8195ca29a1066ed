import Derived.Test.YtdadpepfpiimgaaGreatDoorK04
set_option maxHeartbeats 20000000
set_option maxRecDepth 100000
namespace Go.Proofs.YtdadpepfpiimgaaGreatDoor
open Go.Proofs.Tryz
open Go.RowKit
theorem info85:(prog.info? 152).map (fun i=>(i.zero,i.size,i.bytes))=some (some (.agg #[.int .i64 0,.slice none 0 0]),2,32):=by kernel_rfl
theorem ZC_snoc {ws:List Wr}{vs:List Value}(h:vs.length=ws.length)(x:Wr)(u:Value):ZC (ws++[x]) (vs++[u])=ZC ws vs++[.int .i64 (x.s:Int),u]:=by
 unfold ZC
 rw[List.zipWith_append h.symm]
 simp
theorem ZC_len {ws:List Wr}{vs:List Value}:∀l∈List.zipWith (fun (x:Wr) u=>[Value.int .i64 (x.s:Int),u]) ws vs,l.length=2:=fun l hl=>by
 obtain ⟨i,hi,e⟩:=List.getElem_of_mem hl
 rw[← e]
 simp
theorem ZC_at {ws:List Wr}{vs:List Value}(h:vs.length=ws.length)(i:Nat)(hi:i<ws.length):(ZC ws vs)[i*2]?=some (.int .i64 (ws[i].s:Int))∧(ZC ws vs)[i*2+1]?=some (vs[i]'(by omega)):=by
 have hl:i<(List.zipWith (fun (x:Wr) u=>[Value.int .i64 (x.s:Int),u]) ws vs).length:=by simp;omega
 have e0:=flat_at _ (ZC_len (ws:=ws) (vs:=vs)) i hl 0 (by omega)
 have e1:=flat_at _ (ZC_len (ws:=ws) (vs:=vs)) i hl 1 (by omega)
 rw[Nat.mul_comm] at e0 e1
 constructor
 ·unfold ZC
  rw[show i*2=i*2+0 from rfl,e0]
  simp
 ·unfold ZC
  rw[e1]
  simp
theorem rwrite_fin {w w3 w4:World}{S:Nat→Prop}{p n:Nat}{d:List Int}{ws:List Wr}{g L cap:Nat}{v:Value}{vs:List Value}{i:Nat}{b:List Int}{sl:Value}{g' c':Nat}
  (h:RD w S p n d ws g L cap v vs) (hb:Below w.heap.size w w3) (hsl:w3.ownsRow w.heap.size 5 1 sl 64 (U8 b))
  (hown:w4.ownsRow 0 152 2 (.slice (some ⟨g',0,none⟩) (ws.length+1) c') (ws.length+1) (ZC ws vs++[.int .i64 (i:Int),sl])) (hgrow:w3.grownBy w4 v.ownBlock) (hat:v.ownBlock=some g'∨w.heap.size≤g') (hi:i<n) (hbl:b.length=64) (hby:Bytes b) :
  w4.cell? ⟨p,1,none⟩=some v∧w4.frozen? ⟨p,1,none⟩=false ∧
  Ref (w4.setCell ⟨p,1,none⟩ (.slice (some ⟨g',0,none⟩) (ws.length+1) c')) (More S w) p n d (ws++[⟨i,b⟩])∧Kept S w (w4.setCell ⟨p,1,none⟩ (.slice (some ⟨g',0,none⟩) (ws.length+1) c')):=by
 have h3:=h.later hb
 have hp3:=h3.blk.lt
 have hg3:=(own_blk h3.dur).1
 have nv:∀k sz t,Blk w3 k t sz→t≠152→some k≠v.ownBlock:=fun k sz t hk ht e=>by
  obtain ⟨sz',hk'⟩:=own_ownBlk h3.wr e.symm
  exact hk.ne hk' ht rfl
 have bp:w4.heap[p]?=some (.cells #[.slice (some ⟨g,0,none⟩) L cap,v] 100 (0,0)):=(hgrow.block p hp3 (nv p 2 100 h3.blk (by decide))).trans h3.str
 have b5:∀{base:Nat} {u:Value} {m:Nat} {xs:List Value},w3.ownsRow base 5 1 u m xs→w4.ownsRow base 5 1 u m xs:=fun {base u m xs} ho =>
  own_same ho (fun k hk=>by
   obtain ⟨sz,hb'⟩:=own_ownBlk ho hk
   exact hgrow.block k hb'.lt (nv k sz 5 hb' (by decide)))
 have hgp:g'≠p:=(own_blk hown).1.ne ⟨_,bp,rfl⟩ (by decide)
 have np:∀k sz t,Blk w4 k t sz→t≠100→k≠p:=fun k sz t hk ht=>hk.ne (sz':=2) ⟨_,bp,rfl⟩ ht
 have b5':∀{base:Nat} {u:Value} {m:Nat} {xs:List Value},w3.ownsRow base 5 1 u m xs→(w4.setCell ⟨p,1,none⟩ (.slice (some ⟨g',0,none⟩) (ws.length+1) c')).ownsRow base 5 1 u m xs:=fun {base u m xs} ho =>
  own_same (b5 ho) (fun k hk=>by
   obtain ⟨sz,hb'⟩:=own_ownBlk (b5 ho) hk
   exact heap_setCell_other _ _ _ _ (np k sz 5 hb' (by decide)))
 refine⟨by rw[cell_of_row _ _ _ _ 100 (0,0) bp];rfl,frozen_of_row _ _ _ _ 100 bp,⟨g,L,cap,.slice (some ⟨g',0,none⟩) (ws.length+1) c',vs++[sl],?_⟩,?_⟩
 ·refine⟨setCell_row (cs:=[_,_]) bp 1 _,b5' h3.dur,?_,by simp[h.len],fun j h1 h2=>?_,fun j h2=>?_,.inl h.sp,.inl h.sg,fun k hk=>?_,fun j h2 k hk=>?_,h.hL,h.n1,h.n2,h.dl,h.db,h.fit.snoc hi hbl hby⟩
  ·rw[ZC_snoc h.len,List.length_append,List.length_singleton]
   exact own_same hown (fun k hk=>heap_setCell_other _ _ _ _ (by simp only[Value.ownBlock,Option.some.injEq] at hk;rw[← hk];exact hgp))
  ·by_cases c:j<vs.length
   ·rw[List.getElem_append_left c,List.getElem_append_left (by have:=h.len;omega)]
    exact b5' (h3.dat j (by have:=h.len;omega) c)
   ·have e:j=ws.length:=by simp at h1;have:=h.len;omega
    subst e
    have e2:(vs++[sl])[ws.length]=sl:=by simp[← h.len]
    rw[e2]
    simp only[List.getElem_concat_length]
    exact own_mono (b5' hsl) (Nat.zero_le _)
  ·by_cases c:j<vs.length
   ·rw[List.getElem_append_left c];exact h.ne j c
   ·have e:j=vs.length:=by simp at h2;omega
    subst e
    simp only[List.getElem_concat_length]
    intro e
    have:=(hsl.lt g e).1
    have:=(own_blk h.dur).1.lt
    omega
  ·simp only[Value.ownBlock,Option.some.injEq] at hk
   subst hk
   exact or_map hat (h.sv _) id
  ·by_cases c:j<vs.length
   ·rw[List.getElem_append_left c] at hk;exact .inl (h.sd j c k hk)
   ·have e:j=vs.length:=by simp at h2;omega
    subst e
    simp only[List.getElem_concat_length] at hk
    exact .inr (hsl.lt k hk).1
 ·exact ((Kept.of_below hb).grown hgrow (fun k hk _=>h.sv k hk)).setCell (fun _=>h.sp) _
theorem rwrite_bad {w:World}{S:Nat→Prop}{p n:Nat}{d:List Int}{ws:List Wr}(h:Ref w S p n d ws)(i:Int)(v:Value)(hi:i<0∨(n:Int)≤i):Calls prog 32 #[.pointer (some ⟨p,0,none⟩),.int .i64 i,v] w fun e w'=>e=.returned (.int .i64 40)∧w=w':=by
 by_cases c:i<0
 ·go_enter func32,ntmps32
  go_wp2
  go_ret
  exact⟨rfl,rfl⟩
 ·have c2:(n:Int)≤i:=by omega
  go_enter func32,ntmps32
  go_wp2_with fail
  refine (rlen_any h).mono ?_
  rintro e w1 ⟨rfl,rfl⟩
  go_wp2
  go_ret
  exact⟨rfl,rfl⟩
theorem rwrite_good {w:World}{S:Nat→Prop}{p n:Nat}{d:List Int}{ws:List Wr}(h:Ref w S p n d ws)(i:Nat)(hi:i<n)(a:Option Addr)(c:Nat)(b:List Int)(hb:BIn w a 64 b)(hk:ws.length≤100000):Calls prog 32 #[.pointer (some ⟨p,0,none⟩),.int .i64 i,.slice a 64 c] w fun e w'=>e=.returned (.int .i64 0)∧Ref w' (More S w) p n d (ws++[⟨i,b⟩])∧Kept S w w':=by
 obtain ⟨i5,hi5,hz50,hz51,hz52⟩:=info_parts info5
 obtain ⟨i85,hi85,hz850,hz851,hz852⟩:=info_parts info85
 have c1:¬(i:Int)<0:=by omega
 have c2:¬(n:Int)≤(i:Int):=by omega
 obtain ⟨ga,oa,rfl,_⟩:=hb.cells (by omega)
 have HBi:Hid (BIn w (some ⟨ga,oa,none⟩) 64 b):=hb
 clear hb
 go_enter func32,ntmps32
 go_wp2_with fail
 refine (rlen_any h).mono ?_
 rintro e w1 ⟨rfl,rfl⟩
 obtain ⟨g,L,cap,v,vs,h⟩:=h
 have HH:Hid (RD w S p n d ws g L cap v vs):=h
 have s0:=h.cell1
 obtain ⟨pv,cv,rfl,_⟩:=own_slice h.wr
 clear h
 go_wp2
 refine wp_region_noPanic ?_
 refine wp_region_last 14 (fun w'=>w'.cell? ⟨p,1,none⟩=some (.slice pv ws.length cv)) (by kernel_rfl) ?_
 have hHeld:w.drew.cell? ⟨p,1,none⟩=some (.slice pv ws.length cv):=s0
 refine tkL 0 hHeld ?_
 refine tkL 1 hHeld ?_
 refine tkL 2 hHeld ?_
 refine tkL 3 hHeld ?_
 refine wpAnyL_take (i:=4) (v:=?v4) (by simp;rfl) (by kernel_rfl) (by kernel_rfl) (by kernel_rfl) (by kernel_rfl) (fun _ _ _ h=>h) (Or.inl ⟨by rfl,?y4⟩) hHeld ?r4
 case y4=>intro w hSw;go_simp;with_reducible rfl
 simp only[Act.put,zA,zB,zC]
 refine tkL 5 hHeld ?_
 refine tkL 7 hHeld ?_
 refine wpAnyL_ready (rs:=[6]) (by kernel_rfl) (by simp) ?_
 refine AllReadyL.cons (by simp;rfl) (fun K hK=>?_) AllReadyL.nil
 go_simp
 have hH6:(w.alloc (.cells #[] 5)).drew.cell? ⟨p,1,none⟩=some (.slice pv ws.length cv):=(HH.out.later (below_alloc w _)).cell1
 refine hK.out _ _ (fun _=>hH6) ?_
 clear hK K hHeld
 have hHeld:=hH6
 refine wpAnyL_ready (rs:=[8]) (by kernel_rfl) (by simp) ?_
 refine AllReadyL.cons (by simp;rfl) (fun K hK=>?_) AllReadyL.nil
 refine step_append_lies _ rfl (.tmp 24) (.tmp 25) 27 rfl w.heap.size 5 i5 (.int .u8 0) 1 1 underlying27 hi5 hz50 hz51 hz52 rfl (by omega) _ 0 [] rfl (World.ownsRow_made w #[] 0 (Nat.le_refl _) (Nat.zero_le _) rfl) ⟨ga,oa,none⟩ 64 c (U8 b) rfl (by rw[U8_length];exact HBi.out.len) ((HBi.out.later (below_alloc w _)).news) (ones_u8 _) (by omega) (by unfold maxLen;omega) (by omega) (by simp) _ rfl ?_
 intro g2 cap2 w2 hown2 hgrow2 hat2 hlt2
 simp only[Nat.zero_add,List.nil_append] at hown2 ⊢
 have hb2:Below w.heap.size w w2:=((Below.refl _ w).alloc (Nat.le_refl _) (.cells #[] 5)).trans ⟨hgrow2.os,hgrow2.tape,hgrow2.output,hgrow2.size,fun k hk=>hgrow2.block k (Nat.lt_of_lt_of_le hk (by show _≤(w.alloc _).heap.size;simp)) (fun e=>by have e':k=w.heap.size:=Option.some.inj e;omega)⟩
 have hH8:=(HH.out.later hb2).cell1
 refine hK.out _ _ (fun _=>hH8) ?_
 clear hK K hHeld hH6 hgrow2 hat2 hlt2
 have hHeld:=hH8
 simp only[Act.put,zA,zB,zC]
 refine tkL 9 hHeld ?_
 refine wpAnyL_ready (rs:=[10]) (by kernel_rfl) (by simp) ?_
 refine AllReadyL.cons (by simp;rfl) (fun K hK=>?_) AllReadyL.nil
 go_simp
 have hb3:Below w.heap.size w (w2.alloc (.cells #[.int .i64 (i:Int),.slice (some ⟨g2,0,none⟩) 64 cap2] 152)):=hb2.alloc hb2.size _
 have hHA:=(HH.out.later hb3).cell1
 refine hK.out _ _ (fun _=>hHA) ?_
 clear hK K hHeld hH8
 have hHeld:=hHA
 refine wpAnyL_ready (rs:=[11]) (by kernel_rfl) (by simp) ?_
 refine AllReadyL.cons (by simp;rfl) (fun K hK=>?_) AllReadyL.nil
 have hz2:=hb2.size
 refine step_append_lies _ rfl (.tmp 22) (.tmp 28) 98 rfl 0 152 i85 (.agg #[.int .i64 0,.slice none 0 0]) 2 32 underlying98 hi85 hz850 hz851 hz852 rfl (by omega) _ ws.length (ZC ws vs) rfl (HH.out.later hb3).wr ⟨w2.heap.size,0,none⟩ 1 1 [.int .i64 (i:Int),.slice (some ⟨g2,0,none⟩) 64 cap2] rfl rfl ?_ (by simp[Value.oneCell']) (by omega) (by unfold maxLen;omega) (by omega) (Nat.zero_le _) _ rfl ?_
 ·intro j u hu
  have e:=new_range w2 [.int .i64 (i:Int),.slice (some ⟨g2,0,none⟩) 64 cap2] 152 j u hu
  rw[Addr.add_mid]
  exact e
 intro g4 cap4 w4 hown4 hgrow4 hat4 hlt4
 obtain ⟨f1,f2,f3,f4⟩:=rwrite_fin HH.out hb3 (hown2.alloc _) hown4 hgrow4 (or_map hat4 id (fun e=>by rw[e];simp;omega)) hi HBi.out.len HBi.out.byte
 refine hK.out _ _ (fun _=>f1) ?_
 clear hK K hHeld hHA hgrow4 hat4 hlt4 hown4
 have HF:Hid (Ref (w4.setCell ⟨p,1,none⟩ (.slice (some ⟨g4,0,none⟩) (ws.length+1) cap4)) (More S w) p n d (ws++[⟨i,b⟩])∧Kept S w (w4.setCell ⟨p,1,none⟩ (.slice (some ⟨g4,0,none⟩) (ws.length+1) cap4))):=⟨f3,f4⟩
 clear f3 f4
 have hHeld:=f1
 simp only[Act.put,zA,zB,zC]
 refine wpAnyL_ready (rs:=[12]) (by kernel_rfl) (by simp) ?_
 refine AllReadyL.cons (by simp;rfl) (fun K hK=>?_) AllReadyL.nil
 go_simp
 refine hK.out _ _ (fun _=>f1) ?_
 clear hK K
 refine wpAnyL_ready (rs:=[13]) (by kernel_rfl) (by simp) ?_
 refine AllReadyL.cons (by simp;rfl) (fun K hK=>?_) AllReadyL.nil
 go_simp
 refine hK.out _ _ (fun _=>f1) ?_
 clear hK K
 refine wpAnyL_ready (rs:=[14]) (by kernel_rfl) (by simp) ?_
 refine AllReadyL.cons (by simp;rfl) (fun K hK=>?_) AllReadyL.nil
 go_simp
 refine hK.out _ _ (fun h=>absurd rfl h) ?_
 clear hK K
 refine wpAnyL_done (by kernel_rfl) (NoPanic.normal ?_) _
 clear f1 f2 hHeld
 go_wp2
 go_ret
 exact⟨rfl,HF.out.1,HF.out.2⟩
theorem RD.at {w:World}{S:Nat→Prop}{p n:Nat}{d:List Int}{ws:List Wr}{g L cap:Nat}{v:Value}{vs:List Value}(h:RD w S p n d ws g L cap v vs)(k:Nat)(hk:k<ws.length) :
  ∃gv cv gb cb,v=.slice (some ⟨gv,0,none⟩) ws.length cv∧w.cell? ⟨gv,k*2,none⟩=some (.int .i64 (ws[k].s:Int))∧w.cell? ⟨gv,k*2+1,none⟩=some (.slice (some ⟨gb,0,none⟩) 64 cb)∧BIn w (some ⟨gb,0,none⟩) 64 ws[k].b∧gb≠g:=by
 obtain ⟨pv,cv,e,h0,h1⟩:=own_slice h.wr
 cases pv with
 | none=>have:=(h0 rfl).1;omega
 | some a =>
  obtain ⟨gv,rfl⟩:=h1 a rfl
  subst e
  have hkv:k<vs.length:=by rw[h.len];exact hk
  have hd:=h.dat k hk hkv
  obtain ⟨pb,cb,e,hb,_⟩:=own_in hd (h.fit.at k hk).2.2
  obtain ⟨gb,ob,rfl,_⟩:=hb.cells (by omega)
  have h00:ob=0:=by
   obtain ⟨_,_,e2,_,h3⟩:=own_slice hd
   rw[e] at e2
   simp only[Value.slice.injEq] at e2
   obtain ⟨g3,h4⟩:=h3 ⟨gb,ob,none⟩ e2.1.symm
   simp only[Addr.mk.injEq] at h4
   exact h4.2.1
  subst h00
  obtain ⟨c0,c1⟩:=ZC_at h.len k hk
  have hr:=own_range h.wr
  refine⟨gv,cv,gb,cb,rfl,?_,?_,hb,fun e3=>?_⟩
  ·have:=hr (k*2) _ c0
   rwa [Nat.zero_add] at this
  ·have:=hr (k*2+1) _ c1
   rw[Nat.zero_add] at this
   rw[this,e]
  ·apply h.ne k hkv
   rw[e,← e3]
   rfl
theorem rread_good {w:World}{S:Nat→Prop}{p n:Nat}{d:List Int}{ws:List Wr}(h:Ref w S p n d ws)(i:Nat)(hi:i<n)(hk:ws.length≤100000):Calls prog 138 #[.pointer (some ⟨p,0,none⟩),.int .i64 i] w fun e w'=>∃v,e=.returned (.tuple #[v,.int .i64 0])∧w'.ownsRow w.heap.size 5 1 v 64 (U8 (newest ws d i))∧Below w.heap.size w w':=by
 obtain ⟨i5,hi5,hz50,hz51,hz52⟩:=info_parts info5
 have c1:¬(i:Int)<0:=by omega
 have c2:¬(n:Int)≤(i:Int):=by omega
 go_enter func138,ntmps138
 go_wp2_with fail
 refine (rlen_any h).mono ?_
 rintro e w1 ⟨rfl,rfl⟩
 obtain ⟨g,L,cap,v,vs,h⟩:=h
 have s0:=h.cell0
 have HH:Hid (RD w S p n d ws g L cap v vs):=h
 have hL:=h.hL
 have hn2:=h.n2
 have hLc:=(own_blk h.dur).2.1
 have e1:IntKind.i64.wrap ((i:Int)*64)=(i:Int)*64:=by rw[IntKind.wrap_i64];omega
 have e2:IntKind.i64.wrap (((i:Int)+1)*64)=((i:Int)+1)*64:=by rw[IntKind.wrap_i64];omega
 have e3:(i:Int)*64≤((i:Int)+1)*64:=by omega
 have e4:((i:Int)+1)*64≤(cap:Int):=by omega
 have e5:¬(cap:Int)=(i:Int)*64:=by omega
 have E6:Hid ((i+1)*64-i*64=64):=by show _=_;omega
 have s0':(w.alloc (.cells #[] 5)).cell? ⟨p,0,none⟩=some (.slice (some ⟨g,0,none⟩) L cap):=(h.later (below_alloc w _)).cell0
 have HN:Hid (∀j u,(U8 (sec d i))[j]?=some u→(w.alloc (.cells #[] 5)).cell? ((⟨g,i*64,none⟩:Addr).add j)=some u):=fun j u hu=>by
  have hj:j<64:=by have:=(List.getElem?_eq_some_iff.1 hu).1;rw[U8_length,sec_length h.dl hi] at this;exact this
  have hr:=own_range (h.later (below_alloc w (.cells #[] 5))).dur (i*64+j) u (by rw[← hu];simp only[U8,List.getElem?_map,sec_get d i j hj];rw[Nat.mul_comm])
  rw[Addr.add_mid]
  rwa [Nat.zero_add] at hr
 have HL:Hid ((sec d i).length=64):=sec_length h.dl hi
 clear h hL
 go_wp2_with (at_builtin;refine wpList_append_own _ rfl (.tmp 16) (.tmp 26) 27 rfl w.heap.size 5 i5 (.int .u8 0) 1 1 underlying27 hi5 hz50 hz51 hz52 rfl (by omega) _ 0 [] rfl (World.ownsRow_made w #[] 0 (Nat.le_refl _) (Nat.zero_le _) rfl) ⟨g,i*64,none⟩ ((i+1)*64-i*64) (cap-i*64) (U8 (sec d i)) rfl ?_ ?_ ?_ ?_ ?_ ?_ ?_)
 ·rw[E6.out,U8_length];exact HL.out
 ·exact HN.out
 ·exact ones_u8 _
 ·rw[E6.out];unfold maxLen;omega
 ·rw[E6.out];omega
 ·simp
 intro v0 w0 hown hgrow _
 rw[E6.out] at hown
 have HR0:Hid (w0.ownsRow w.heap.size 5 1 v0 64 (U8 (newk ws d i 0))∧Below w.heap.size w w0):=⟨hown,((Below.refl _ w).alloc (Nat.le_refl _) _).grown hgrow (by simp) (by intro k hk;simp[Value.ownBlock] at hk;omega)⟩
 clear hown hgrow HN
 go_wp2
 clear e1 e2 e3 e4 e5 E6 s0 s0'
 go_loopw [6,7] (fun o j wr=>∃k:Nat,k≤ws.length∧j=.int .i64 k∧Hid (wr.ownsRow w.heap.size 5 1 o 64 (U8 (newk ws d i k))∧Below w.heap.size w wr)) (fun _ j _=>ws.length-(intOf j).toNat)
 case atStart=>exact⟨0,by omega,rfl,HR0.out⟩
 case round =>
  obtain ⟨k,hkl,rfl,HR⟩:=hrel
  clear HR0
  have h1:=HH.out.later HR.out.2
  have s1:=h1.cell1
  by_cases hlt:k<ws.length
  ·obtain ⟨gv,cv,gb,cb,rfl,t1,t2,t3,_⟩:=h1.at k hlt
   have HS:Hid (newk ws d i (k+1)=if ws[k].s=i then ws[k].b else newk ws d i k):=newk_step ws d i k hlt
   have HXl:Hid (ws[k].b.length=64):=(HH.out.fit.at k hlt).2.1
   generalize ws[k]=X at *
   by_cases hx:X.s=i
   ·have HE:Hid (newk ws d i (k+1)=X.b):=by show _=_;rw[HS.out,if_pos hx]
    have ex:((X.s:Int) == (i:Int))=true:=by rw[hx];simp
    have s1':(wr.alloc (.cells #[] 5)).cell? ⟨p,1,none⟩=some (.slice (some ⟨gv,0,none⟩) ws.length cv):=(h1.later (below_alloc wr _)).cell1
    have t2':(wr.alloc (.cells #[] 5)).cell? ⟨gv,k*2+1,none⟩=some (.slice (some ⟨gb,0,none⟩) 64 cb):=by
     rw[World.cell?_alloc_lt _ _ _ (World.block_lt_of_cell? wr _ t2)];exact t2
    have HN:Hid (∀j u,(U8 X.b)[j]?=some u→(wr.alloc (.cells #[] 5)).cell? ((⟨gb,0,none⟩:Addr).add j)=some u):=(t3.later (below_alloc wr _)).news
    have hle:=HR.out.2.size
    clear hx h1 t3
    go_wp2_with (at_builtin;refine wpList_append_own _ rfl (.tmp 47) (.tmp 55) 27 rfl wr.heap.size 5 i5 (.int .u8 0) 1 1 underlying27 hi5 hz50 hz51 hz52 rfl (by omega) _ 0 [] rfl (World.ownsRow_made wr #[] 0 (Nat.le_refl _) (Nat.zero_le _) rfl) ⟨gb,0,none⟩ 64 cb (U8 X.b) rfl ?_ ?_ ?_ ?_ ?_ ?_ ?_)
    ·rw[U8_length];exact HXl.out
    ·exact HN.out
    ·exact ones_u8 _
    ·unfold maxLen;omega
    ·omega
    ·simp
    intro v2 w2 hown hgrow _
    have HU:Hid (w2.ownsRow w.heap.size 5 1 v2 64 (U8 (newk ws d i (k+1)))∧Below w.heap.size w w2):=by
     rw[HE.out]
     exact⟨own_mono hown hle,(HR.out.2.alloc hle _).grown hgrow (by simp;omega) (by intro j hj;simp[Value.ownBlock] at hj;omega)⟩
    clear hown hgrow HN
    go_wp2
    go_roundw
    case rel=>exact⟨k+1,by omega,by go_num,HU.out⟩
    case measure=>simp[intOf];omega
   ·have HU:Hid (wr.ownsRow w.heap.size 5 1 u6 64 (U8 (newk ws d i (k+1)))∧Below w.heap.size w wr):=by rw[HS.out,if_neg hx];exact HR
    have ex:((X.s:Int) == (i:Int))=false:=by rw[beq_eq_false_iff_ne];omega
    clear hx h1 t3 t2 HS HR
    go_wp2
    go_roundw
    case rel=>exact⟨k+1,by omega,by go_num,HU.out⟩
    case measure=>simp[intOf];omega
  ·obtain rfl:k=ws.length:=by omega
   obtain ⟨pv,cv,rfl,_⟩:=own_slice HH.out.wr
   go_wp2
   go_ret2
   exact⟨_,rfl,HR.out.1,HR.out.2⟩
theorem BIn.kept {w w':World}{S:Nat→Prop}{p:Option Addr}{n:Nat}{xs:List Int}(h:BIn w p n xs)(hk:Kept S w w')(hs:∀a,p=some a→¬S a.block):BIn w' p n xs:=by
 refine⟨h.len,h.byte,fun h0=>?_⟩
 obtain ⟨b,o,rfl,hc⟩:=h.cells h0
 refine⟨b,o,rfl,fun i hi=>?_⟩
 rw[World.cell?_of_block (w:=w) (a:=⟨b,o+i,none⟩) (hk.block b (h.lt h0) (hs _ rfl))]
 exact hc i hi
theorem JIn.kept {w w':World}{S:Nat→Prop}{p:Option Addr}{n:Nat}{xs:List Int}(h:JIn w p n xs)(hk:Kept S w w')(hs:∀a,p=some a→¬S a.block):JIn w' p n xs:=by
 refine⟨h.len,fun h0=>?_⟩
 obtain ⟨b,o,rfl,hc⟩:=h.cells h0
 refine⟨b,o,rfl,fun i hi=>?_⟩
 rw[World.cell?_of_block (w:=w) (a:=⟨b,o+i,none⟩) (hk.block b (h.lt h0) (hs _ rfl))]
 exact hc i hi
abbrev I64 (xs:List Int):List Value:=xs.map (Value.int .i64)
theorem ints_in {w:World}{base:Nat}{v:Value}{n:Nat}{xs:List Int}(h:w.ownsRow base 3 1 v n (I64 xs)):∃p c,v=.slice p n c∧JIn w p n xs∧n≤c∧(p=none→c=0)∧(∀a,p=some a→base≤a.block∧a.block<w.heap.size):=by
 have hl:xs.length=n:=by have:=h.1;simpa [I64] using this
 rcases h.2 with ⟨rfl,rfl⟩ | ⟨g,cap,cur,rfl,h1,hg,hnc,hcm,hsz,htake⟩
 ·exact⟨none,0,rfl,⟨hl,fun h0=>absurd h0 (Nat.lt_irrefl 0)⟩,Nat.le_refl _,fun _=>rfl,fun a e=>by cases e⟩
 ·refine⟨_,cap,rfl,⟨hl,fun h0=>⟨g,0,rfl,fun i hi=>?_⟩⟩,hnc,(fun e=>by cases e),fun a e=>?_⟩
  ·have:=h.cellAt i (by omega)
   rw[Nat.zero_add,this]
   simp[I64,List.getD,List.getElem?_eq_getElem (show i<xs.length by omega)]
  ·simp only[Option.some.injEq] at e
   subst e
   exact⟨h1,(Array.getElem?_eq_some_iff.1 hg).1⟩
def putj (e:List Int)(s:Nat)(b:List Int)(j:Nat):List Int:=e.take (64*s)++b.take j++e.drop (64*s+j)
theorem putj_zero (e:List Int)(s:Nat)(b:List Int):putj e s b 0=e:=by simp[putj]
theorem putj_all {e b:List Int}{s:Nat}(hb:b.length=64):putj e s b 64=put e s b:=by unfold putj put;rw[show b.take 64=b from List.take_of_length_le (by omega)]
theorem putj_length {e b:List Int}{n s j:Nat}(he:e.length=64*n)(hs:s<n)(hb:b.length=64)(hj:j≤64):(putj e s b j).length=64*n:=by
 simp[putj,he,hb];omega
theorem putj_step {e b:List Int}{n s j:Nat}(he:e.length=64*n)(hs:s<n)(hb:b.length=64)(hj:j<64):(putj e s b j).set (s*64+j) (b.getD j 0)=putj e s b (j+1):=by
 have hjb:j<b.length:=by omega
 have e1:b.getD j 0=b[j]:=by simp[List.getD,List.getElem?_eq_getElem hjb]
 have hd:64*s+j<e.length:=by omega
 unfold putj
 rw[e1,List.take_succ_eq_append_getElem hjb,List.append_assoc,List.append_assoc]
 rw[List.set_append_right _ _ (by simp[he];omega)]
 congr 1
 rw[show s*64+j-(e.take (64*s)).length=j by simp[he];omega,List.set_append_right _ _ (by simp;omega)]
 rw[show j-(b.take j).length=0 by simp;omega,List.append_assoc]
 congr 1
 rw[List.drop_eq_getElem_cons hd,zB]
 rfl
theorem put_put {e b:List Int}{n s:Nat}(he:e.length=64*n)(hs:s<n)(hb:b.length=64):put (put e s b) s b=put e s b:=by
 apply ext_sec (put_length (put_length he hs hb) hs hb) (put_length he hs hb)
 intro i hi
 rw[sec_put (put_length he hs hb) hs hb hi,sec_put he hs hb hi]
 split <;> rfl
def rk (K:List Int)(ws:List Wr)(d:List Int)(X:Wr)(i k:Nat):List Int:=if (i:Int)∈K.take k then put (setl (keepsK K) ws d i) X.s X.b else setl (keepsK K) ws d i
theorem rk_zero (K:List Int)(ws:List Wr)(d:List Int)(X:Wr)(i:Nat):rk K ws d X i 0=setl (keepsK K) ws d i:=by simp[rk]
theorem rk_all {K:List Int}{ws:List Wr}{d:List Int}{i:Nat}(hi:i<ws.length):rk K ws d ws[i] i K.length=setl (keepsK K) ws d (i+1):=by
 unfold rk
 rw[setl_step _ ws d i hi,List.take_of_length_le (Nat.le_refl _)]
 by_cases h:(i:Int)∈K
 ·rw[if_pos h,if_pos (show keepsK K i=true by simpa [keepsK] using h)]
 ·rw[if_neg h,if_neg (show ¬keepsK K i=true by simpa [keepsK] using h)]
theorem rk_miss {K:List Int}{ws:List Wr}{d:List Int}{X:Wr}{i k:Nat}(hk:k<K.length)(h:¬K[k]=(i:Int)):rk K ws d X i (k+1)=rk K ws d X i k:=by
 unfold rk
 rw[List.take_succ_eq_append_getElem hk]
 by_cases c:(i:Int)∈K.take k
 ·rw[if_pos (List.mem_append_left _ c),if_pos c]
 ·rw[if_neg (fun hh=>(List.mem_append.1 hh).elim c (fun e=>h (List.mem_singleton.1 e).symm)),if_neg c]
theorem rk_hit {K:List Int}{ws:List Wr}{d:List Int}{X:Wr}{n i k:Nat}(hk:k<K.length)(h:K[k]=(i:Int))(hd:d.length=64*n)(hf:Fit n ws)(hX:X.s<n∧X.b.length=64):put (rk K ws d X i k) X.s X.b=rk K ws d X i (k+1):=by
 unfold rk
 rw[List.take_succ_eq_append_getElem hk,h]
 rw[if_pos (show (i:Int)∈K.take k++[(i:Int)] by simp)]
 split
 ·exact put_put (setl_length hd hf i) hX.1 hX.2
 ·rfl
theorem rk_length {K:List Int}{ws:List Wr}{d:List Int}{X:Wr}{n i k:Nat}(hd:d.length=64*n)(hf:Fit n ws)(hX:X.s<n∧X.b.length=64):(rk K ws d X i k).length=64*n:=by
 unfold rk
 split
 ·exact put_length (setl_length hd hf i) hX.1 hX.2
 ·exact setl_length hd hf i
structure RMid (w wr:World) (S:Nat→Prop) (p:Nat) (g L cap:Nat) (v:Value) (vs:List Value) (ws:List Wr) (e:List Int):Prop where
 str:wr.heap[p]?=some (.cells #[.slice (some ⟨g,0,none⟩) L cap,v] 100 (0,0))
 dur:wr.ownsRow 0 5 1 (.slice (some ⟨g,0,none⟩) L cap) L (U8 e)
 kp:Kept (fun k=>k=g) w wr
theorem RMid.start {w:World}{S:Nat→Prop}{p n:Nat}{d:List Int}{ws:List Wr}{g L cap:Nat}{v:Value}{vs:List Value}(h:RD w S p n d ws g L cap v vs):RMid w w S p g L cap v vs ws d:=⟨h.str,h.dur,Kept.refl _ _⟩
theorem RMid.below {w wr w':World}{S:Nat→Prop}{p:Nat}{g L cap:Nat}{v:Value}{vs:List Value}{ws:List Wr}{e:List Int}(h:RMid w wr S p g L cap v vs ws e)(hb:Below wr.heap.size wr w'):RMid w w' S p g L cap v vs ws e :=
 ⟨(hb.block p (Blk.lt (t:=100) (sz:=2) ⟨_,h.str,rfl⟩)).trans h.str,own_later h.dur hb,h.kp.trans (T:=fun _=>False) (Kept.of_below hb) (fun _ _ f=>f.elim)⟩
theorem RMid.cell0 {w wr:World}{S:Nat→Prop}{p:Nat}{g L cap:Nat}{v:Value}{vs:List Value}{ws:List Wr}{e:List Int}(h:RMid w wr S p g L cap v vs ws e):wr.cell? ⟨p,0,none⟩=some (.slice (some ⟨g,0,none⟩) L cap):=by
 rw[cell_of_row _ _ _ _ 100 (0,0) h.str];rfl
theorem RMid.cell1 {w wr:World}{S:Nat→Prop}{p:Nat}{g L cap:Nat}{v:Value}{vs:List Value}{ws:List Wr}{e:List Int}(h:RMid w wr S p g L cap v vs ws e):wr.cell? ⟨p,1,none⟩=some v:=by
 rw[cell_of_row _ _ _ _ 100 (0,0) h.str];rfl
theorem RMid.at {w wr:World}{S:Nat→Prop}{p n:Nat}{d:List Int}{ws:List Wr}{g L cap:Nat}{v:Value}{vs:List Value}{e:List Int}(h:RMid w wr S p g L cap v vs ws e)(h0:RD w S p n d ws g L cap v vs)(k:Nat)(hk:k<ws.length) :
  ∃gv cv gb cb,v=.slice (some ⟨gv,0,none⟩) ws.length cv∧wr.cell? ⟨gv,k*2,none⟩=some (.int .i64 (ws[k].s:Int))∧wr.cell? ⟨gv,k*2+1,none⟩=some (.slice (some ⟨gb,0,none⟩) 64 cb)∧BIn wr (some ⟨gb,0,none⟩) 64 ws[k].b∧gb≠g:=by
 obtain ⟨gv,cv,gb,cb,rfl,t1,t2,t3,t4⟩:=h0.at k hk
 have hgv:gv≠g:=(own_blk h0.wr).1.ne (own_blk h0.dur).1 (by decide)
 have b1:=h.kp.block gv (World.block_lt_of_cell? w _ t1) hgv
 exact⟨gv,cv,gb,cb,rfl,(World.cell?_of_block (w:=w) (a:=⟨gv,k*2,none⟩) b1).trans t1,(World.cell?_of_block (w:=w) (a:=⟨gv,k*2+1,none⟩) b1).trans t2,t3.kept h.kp (fun a e=>by simp only[Option.some.injEq] at e;subst e;exact t4),t4⟩
theorem RMid.set {w wr:World}{S:Nat→Prop}{p:Nat}{g L cap:Nat}{v:Value}{vs:List Value}{ws:List Wr}{e:List Int}(h:RMid w wr S p g L cap v vs ws e)(k:Nat)(x:Int):RMid w (wr.setCell ⟨g,k,none⟩ (.int .u8 x)) S p g L cap v vs ws (e.set k x):=by
 have hpg:p≠g:=Blk.ne (t:=100) (sz:=2) ⟨_,h.str,rfl⟩ (own_blk h.dur).1 (by decide)
 refine⟨(heap_setCell_other _ _ _ _ hpg).trans h.str,?_,h.kp.setCell (fun _=>rfl) _⟩
 have:=(h.dur.stored k (.int .u8 x)).1
 rwa [show (U8 e).set k (.int .u8 x)=U8 (e.set k x) by simp[U8,List.map_set]] at this
theorem RMid.done {w wr:World}{S:Nat→Prop}{p n:Nat}{d:List Int}{ws:List Wr}{g L cap:Nat}{v:Value}{vs:List Value}{e:List Int}(h:RMid w wr S p g L cap v vs ws e)(h0:RD w S p n d ws g L cap v vs)(he:e.length=64*n)(hy:Bytes e) :
  Ref (wr.setCell ⟨p,1,none⟩ (.slice none 0 0)) S p n e []∧Kept S w (wr.setCell ⟨p,1,none⟩ (.slice none 0 0)):=by
 have hpg:p≠g:=Blk.ne (t:=100) (sz:=2) ⟨_,h.str,rfl⟩ (own_blk h.dur).1 (by decide)
 refine⟨⟨g,L,cap,.slice none 0 0,[],setCell_row (cs:=[_,_]) h.str 1 _,own_same h.dur (fun k hk=>heap_setCell_other _ _ _ _ (by simp only[Value.ownBlock,Option.some.injEq] at hk;rw[← hk];exact fun e=>hpg e.symm)),World.ownsRow_nil _ _ _ _,rfl,fun i h=>by simp at h,fun i h=>by simp at h,h0.sp,h0.sg,fun k hk=>by simp[Value.ownBlock] at hk,fun i h=>by simp at h,h0.hL,h0.n1,h0.n2,he,hy,Fit.nil _⟩,?_⟩
 exact (h.kp.mono (fun i _ e=>by subst e;exact h0.sg)).setCell (fun _=>h0.sp) _
theorem rcrash_any {w:World}{S:Nat→Prop}{p n:Nat}{d:List Int}{ws:List Wr}(h:Ref w S p n d ws)(hk:ws.length≤100000)(a:Option Addr)(m c:Nat)(xs:List Int)(hx:JIn w a m xs)(ha:∀b,a=some b→0<m→¬S b.block)(hm:m≤140737488355328) :
  Calls prog 63 #[.pointer (some ⟨p,0,none⟩),.slice a m c] w fun e w'=>e=.returned (.int .i64 ws.length)∧Ref w' S p n (settle (keepsK xs) ws d) []∧Kept S w w':=by
 obtain ⟨g,L,cap,v,vs,h⟩:=h
 have s1:=h.cell1
 have HH:Hid (RD w S p n d ws g L cap v vs):=h
 have HX:Hid (JIn w a m xs∧(∀b,a=some b→0<m→b.block≠g)):=⟨hx,fun b e h0 e2=>ha b e h0 (by rw[e2];exact h.sg)⟩
 obtain ⟨pv,cv,rfl,_⟩:=own_slice h.wr
 have HLn:Hid (L=64*n∧n≤4096∧L≤cap):=⟨h.hL,h.n2,(own_blk h.dur).2.1⟩
 have HM0:Hid (RMid w w S p g L cap (.slice pv ws.length cv) vs ws d):=RMid.start h
 clear h hx ha
 go_enter func63,ntmps63
 go_wp2
 clear s1
 go_loopw [6] (fun j wr=>∃i:Nat,i≤ws.length∧j=.int .i64 i∧Hid (RMid w wr S p g L cap (.slice pv ws.length cv) vs ws (setl (keepsK xs) ws d i))) (fun j _=>ws.length-(intOf j).toNat)
 case atStart=>exact⟨0,by omega,rfl,HM0.out⟩
 case round =>
  obtain ⟨i,hil,rfl,HR⟩:=hrel
  clear HM0
  by_cases hlt:i<ws.length
  ·have HXi:=HH.out.fit.at i hlt
   have HR1:Hid (RMid w wr S p g L cap (.slice pv ws.length cv) vs ws (rk xs ws d ws[i] i 0)):=by rw[rk_zero];exact HR
   have HAll:Hid (rk xs ws d ws[i] i xs.length=setl (keepsK xs) ws d (i+1)):=rk_all hlt
   have HAt:Hid (∀(wr:World) (e:List Int),RMid w wr S p g L cap (.slice pv ws.length cv) vs ws e→∃gv cv' gb cb,Value.slice pv ws.length cv=.slice (some ⟨gv,0,none⟩) ws.length cv'∧wr.cell? ⟨gv,i*2,none⟩=some (.int .i64 (ws[i].s:Int))∧wr.cell? ⟨gv,i*2+1,none⟩=some (.slice (some ⟨gb,0,none⟩) 64 cb)∧BIn wr (some ⟨gb,0,none⟩) 64 ws[i].b∧gb≠g):=fun wr e hM=>hM.at HH.out i hlt
   generalize ws[i]=X at *
   clear HR
   go_wp2
   go_loopw [7] (fun j wr=>∃k:Nat,k≤m∧j=.int .i64 k∧Hid (RMid w wr S p g L cap (.slice pv ws.length cv) vs ws (rk xs ws d X i k))) (fun j _=>m-(intOf j).toNat)
   case atStart=>exact⟨0,by omega,rfl,HR1.out⟩
   case round =>
    obtain ⟨k,hkm,rfl,HQ⟩:=hrel
    clear HR1
    by_cases hkl:k<m
    ·obtain ⟨ga,oa,hae,hca⟩:=(HX.out.1.kept HQ.out.kp (fun b e=>HX.out.2 b e (by omega))).cells (by omega)
     have hck:=hca k hkl
     have hkx:k<xs.length:=by rw[HX.out.1.len];exact hkl
     have ey:xs.getD k 0=xs[k]:=by simp[List.getD,List.getElem?_eq_getElem hkx]
     rw[ey] at hck
     obtain ⟨y,hy⟩:∃y,y=xs[k]:=⟨_,rfl⟩
     have HY:Hid (y=xs[k]):=hy
     rw[← hy] at hck
     have HA:Hid (a=some ⟨ga,oa,none⟩):=hae
     clear hy hca hae ey
     rw[HA.out]
     by_cases hyi:y=(i:Int)
     ·subst hyi
      obtain ⟨gv,cv',gb,cb,hv,t1,t2,t3,t4⟩:=HAt.out _ _ HQ.out
      simp only[Value.slice.injEq,true_and] at hv
      obtain ⟨rfl,rfl⟩:=hv
      have s1:=HQ.out.cell1
      have HHit:Hid (put (rk xs ws d X i k) X.s X.b=rk xs ws d X i (k+1)):=rk_hit hkx HY.out.symm HH.out.dl HH.out.fit ⟨HXi.1,HXi.2.1⟩
      have HLen:Hid ((rk xs ws d X i k).length=64*n):=rk_length HH.out.dl HH.out.fit ⟨HXi.1,HXi.2.1⟩
      obtain ⟨wk,hwk⟩:∃wk,wk=wr:=⟨_,rfl⟩
      subst hwk
      have HV:Hid (RMid w (wk.alloc (.cells #[.int .i64 (X.s:Int),.slice (some ⟨gb,0,none⟩) 64 cb] 152)) S p g L cap (.slice (some ⟨gv,0,none⟩) ws.length cv) vs ws (putj (rk xs ws d X i k) X.s X.b 0)∧(wk.alloc (.cells #[.int .i64 (X.s:Int),.slice (some ⟨gb,0,none⟩) 64 cb] 152)).heap[wk.heap.size]?=some (.cells #[.int .i64 (X.s:Int),.slice (some ⟨gb,0,none⟩) 64 cb] 152 (0,0))∧BIn (wk.alloc (.cells #[.int .i64 (X.s:Int),.slice (some ⟨gb,0,none⟩) 64 cb] 152)) (some ⟨gb,0,none⟩) 64 X.b):=⟨by rw[putj_zero];exact HQ.out.below (below_alloc _ _),heap_alloc_new _ _,t3.later (below_alloc _ _)⟩
      have HGl:Hid (g<wk.heap.size∧p<wk.heap.size):=⟨(own_blk HQ.out.dur).1.lt,Blk.lt (t:=100) (sz:=2) ⟨_,HQ.out.str,rfl⟩⟩
      clear t3
      go_wp2
      clear t1 t2 s1 hck HQ
      generalize wk.alloc (.cells #[.int .i64 (X.s:Int),.slice (some ⟨gb,0,none⟩) 64 cb] 152)=W1 at *
      go_loopw [9] (fun jj wr=>∃j:Nat,j≤64∧jj=.int .i64 j∧Hid (RMid w wr S p g L cap (.slice (some ⟨gv,0,none⟩) ws.length cv) vs ws (putj (rk xs ws d X i k) X.s X.b j)∧wr.heap[wk.heap.size]?=some (.cells #[.int .i64 (X.s:Int),.slice (some ⟨gb,0,none⟩) 64 cb] 152 (0,0))∧BIn wr (some ⟨gb,0,none⟩) 64 X.b)) (fun jj _=>64-(intOf jj).toNat)
      case atStart=>exact⟨0,by omega,rfl,HV.out⟩
      case round =>
       obtain ⟨j,hj,rfl,HJ⟩:=hrel
       clear HV
       by_cases hj2:j<64
       ·have u0:=HJ.out.1.cell0
        have u1:wr.cell? ⟨wk.heap.size,0,none⟩=some (.int .i64 (X.s:Int)):=by rw[cell_of_row _ _ _ _ _ _ HJ.out.2.1];rfl
        have u2:wr.cell? ⟨wk.heap.size,1,none⟩=some (.slice (some ⟨gb,0,none⟩) 64 cb):=by rw[cell_of_row _ _ _ _ _ _ HJ.out.2.1];rfl
        obtain ⟨_,_,eg,hcg⟩:=HJ.out.2.2.cells (by omega)
        simp only[Option.some.injEq,Addr.mk.injEq,and_true] at eg
        obtain ⟨rfl,rfl⟩:=eg
        have u3:=hcg j hj2
        rw[Nat.zero_add] at u3
        have hpl:=putj_length (j:=j) HLen.out HXi.1 HXi.2.1 hj
        have hsn:X.s<n:=HXi.1
        have u4:∃u,wr.cell? ⟨g,X.s*64+j,none⟩=some u:=(own_blk HJ.out.1.dur).1.some _ (by have:=HLn.out;rw[Nat.mul_one];omega)
        obtain ⟨u,u4⟩:=u4
        have u5:=(own_blk HJ.out.1.dur).1.free (X.s*64+j)
        have hx0:=(HXi.2.2.getD j)
        obtain ⟨bx,hbx⟩:∃bx,bx=X.b.getD j 0:=⟨_,rfl⟩
        have HBx:Hid (bx=X.b.getD j 0):=hbx
        rw[← hbx] at u3 hx0
        have hVg:wk.heap.size≠g:=by have:=HGl.out;omega
        have hpg:p≠g:=Blk.ne (t:=100) (sz:=2) ⟨_,HJ.out.1.str,rfl⟩ (own_blk HJ.out.1.dur).1 (by decide)
        have HU:Hid (RMid w (wr.setCell ⟨g,X.s*64+j,none⟩ (.int .u8 bx)) S p g L cap (.slice (some ⟨gv,0,none⟩) ws.length cv) vs ws (putj (rk xs ws d X i k) X.s X.b (j+1))∧(wr.setCell ⟨g,X.s*64+j,none⟩ (.int .u8 bx)).heap[wk.heap.size]?=some (.cells #[.int .i64 (X.s:Int),.slice (some ⟨gb,0,none⟩) 64 cb] 152 (0,0))∧BIn (wr.setCell ⟨g,X.s*64+j,none⟩ (.int .u8 bx)) (some ⟨gb,0,none⟩) 64 X.b):=by
         refine⟨?_,(heap_setCell_other _ _ _ _ hVg).trans HJ.out.2.1,HJ.out.2.2.kept (S:=fun k=>k=g) ((Kept.refl (fun k=>k=g) wr).setCell (p:=⟨g,X.s*64+j,none⟩) (fun _=>rfl) _) (fun a e=>by simp only[Option.some.injEq] at e;subst e;exact t4)⟩
         rw[← putj_step HLen.out HXi.1 HXi.2.1 hj2,← HBx.out]
         exact HJ.out.1.set _ _
        have k0:(wr.setCell ⟨g,X.s*64+j,none⟩ (.int .u8 bx)).cell? ⟨p,0,none⟩=some (.slice (some ⟨g,0,none⟩) L cap):=HU.out.1.cell0
        have k1:(wr.setCell ⟨g,X.s*64+j,none⟩ (.int .u8 bx)).cell? ⟨wk.heap.size,0,none⟩=some (.int .i64 (X.s:Int)):=by rw[cell_of_row _ _ _ _ _ _ HU.out.2.1];rfl
        have k2:(wr.setCell ⟨g,X.s*64+j,none⟩ (.int .u8 bx)).cell? ⟨wk.heap.size,1,none⟩=some (.slice (some ⟨gb,0,none⟩) 64 cb):=by rw[cell_of_row _ _ _ _ _ _ HU.out.2.1];rfl
        have k3:(wr.setCell ⟨g,X.s*64+j,none⟩ (.int .u8 bx)).cell? ⟨gb,j,none⟩=some (.int .u8 bx):=by rw[World.cell?_setCell_far _ _ _ _ (by show g≠gb;exact fun e=>t4 e.symm)];exact u3
        clear hcg hpl hbx HBx HJ
        go_wp2
        have hLn:=HLn.out
        have m1:IntKind.i64.wrap ((X.s:Int)*64)=(X.s:Int)*64:=by rw[IntKind.wrap_i64];omega
        have m2:IntKind.i64.wrap ((X.s:Int)*64+(j:Int))=(X.s:Int)*64+(j:Int):=by rw[IntKind.wrap_i64];omega
        have m3:(X.s:Int)*64+(j:Int)<(L:Int):=by omega
        have m4:(0:Int)≤(X.s:Int)*64+(j:Int):=by omega
        have m5:(j:Int)<64:=by omega
        have m6:(0:Int)≤(j:Int):=by omega
        have m7:((X.s:Int)*64+(j:Int)).toNat=X.s*64+j:=by omega
        clear hLn
        go_region_held3 (fun w'=>w'.cell? ⟨p,0,none⟩=some (.slice (some ⟨g,0,none⟩) L cap)∧w'.cell? ⟨wk.heap.size,0,none⟩=some (.int .i64 (X.s:Int))∧w'.cell? ⟨wk.heap.size,1,none⟩=some (.slice (some ⟨gb,0,none⟩) 64 cb)∧w'.cell? ⟨gb,j,none⟩=some (.int .u8 bx)) (first | exact⟨u0,u1,u2,u3⟩ | exact⟨k0,k1,k2,k3⟩) (fail)
        clear k0 k1 k2 k3 u0 u1 u2 u3 u4 u5 m1 m2 m3 m4 m5 m6 m7
        go_wp2
        go_roundw
        case rel=>exact⟨j+1,by omega,by go_num,HU.out.1.below ⟨rfl,rfl,rfl,Nat.le_refl _,fun _ _=>rfl⟩,HU.out.2.1,HU.out.2.2.drew⟩
        case measure=>simp[intOf];omega
       ·obtain rfl:j=64:=by omega
        have HQ2:Hid (RMid w wr S p g L cap (.slice (some ⟨gv,0,none⟩) ws.length cv) vs ws (rk xs ws d X i (k+1))):=by
         have:=HJ.out.1
         rw[putj_all HXi.2.1,HHit.out] at this
         exact this
        clear HJ
        go_wp2
        go_roundw
        case rel=>exact⟨k+1,by omega,by go_num,HQ2⟩
        case measure=>simp[intOf];omega
     ·have HM:Hid (rk xs ws d X i (k+1)=rk xs ws d X i k):=rk_miss hkx (fun e=>hyi (HY.out.trans e))
      have by1:(y == (i:Int))=false:=by rw[beq_eq_false_iff_ne];exact hyi
      go_wp2
      go_roundw
      case rel=>exact⟨k+1,by omega,by go_num,by rw[HM.out];exact HQ⟩
      case measure=>simp[intOf];omega
    ·obtain rfl:k=m:=by omega
     have HQ2:Hid (RMid w wr S p g L cap (.slice pv ws.length cv) vs ws (setl (keepsK xs) ws d (i+1))):=by
      rw[← HAll.out,HX.out.1.len];exact HQ
     go_wp2
     go_roundw
     case rel=>exact⟨i+1,by omega,by go_num,HQ2⟩
     case measure=>simp[intOf];omega
  ·obtain rfl:i=ws.length:=by omega
   have f1:=frozen_of_row wr p 1 _ 100 HR.out.str
   have s1:=HR.out.cell1
   have HD:Hid (Ref (wr.setCell ⟨p,1,none⟩ (.slice none 0 0)) S p n (settle (keepsK xs) ws d) []∧Kept S w (wr.setCell ⟨p,1,none⟩ (.slice none 0 0))):=HR.out.done HH.out (setl_length HH.out.dl HH.out.fit _) (setl_bytes HH.out.db HH.out.fit _)
   clear HR
   go_wp2
   go_ret
   exact⟨rfl,HD.out.1,HD.out.2⟩
theorem setl_congr {K K':Nat→Bool}{ws:List Wr}{d:List Int}:∀k,(∀j,j<k→K j=K' j)→setl K ws d k=setl K' ws d k
 | 0,_=>rfl
 | k+1,h=>by
  have ih:=setl_congr (ws:=ws) (d:=d) k (fun j hj=>h j (by omega))
  by_cases hk:k<ws.length
  ·rw[setl_step K ws d k hk,setl_step K' ws d k hk,ih,h k (by omega)]
  ·simp only[setl,List.getElem?_eq_none (show ws.length≤k by omega)];exact ih
def rng (k:Nat):List Int:=(List.range k).map fun (i:Nat)=>(i:Int)
theorem rng_succ (k:Nat):rng (k+1)=rng k++[(k:Int)]:=by simp[rng,List.range_succ]
theorem rng_mem (n j:Nat)(h:j<n):keepsK (rng n) j=true:=by
 simp only[keepsK,decide_eq_true_eq,rng,List.mem_map,List.mem_range]
 exact⟨j,h,rfl⟩
theorem rflush_any {w:World}{S:Nat→Prop}{p n:Nat}{d:List Int}{ws:List Wr}(h:Ref w S p n d ws)(hk:ws.length≤100000)(hS:∀k,S k→k<w.heap.size) :
  Calls prog 33 #[.pointer (some ⟨p,0,none⟩)] w fun e w'=>e=.returned (.int .i64 ws.length)∧Ref w' S p n (settle (fun _=>true) ws d) []∧Kept S w w':=by
 obtain ⟨i0,hi0,hz0,hz1,hz2⟩:=info_parts info3
 have HH:Hid (Ref w S p n d ws):=h
 clear h
 go_enter func33,ntmps33
 go_wp2
 go_loopw [3,4] (fun v i wr=>∃k:Nat,k≤ws.length∧i=.int .i64 k∧Hid (wr.ownsRow w.heap.size 3 1 v k (I64 (rng k))∧Below w.heap.size w wr)) (fun _ i _=>ws.length-(intOf i).toNat)
 case atStart=>exact⟨0,by omega,rfl,World.ownsRow_nil _ _ _ _,Below.refl _ _⟩
 case round =>
  obtain ⟨k,hkl,rfl,HQ⟩:=hrel
  obtain ⟨g,L,cap,v,vs,h1⟩:=HH.out.later HQ.out.2
  have s1:=h1.cell1
  obtain ⟨pw,cw,rfl,_⟩:=own_slice h1.wr
  clear h1
  by_cases hkJ:k<ws.length
  ·obtain ⟨pv,cv,rfl,_⟩:=own_slice HQ.out.1
   have hsz:=HQ.out.2.size
   go_wp2_with (at_builtin;refine wpList_append_own _ rfl (.tmp 14) (.tmp 16) 40 rfl w.heap.size 3 i0 (.int .i64 0) 1 8 underlying40 hi0 hz0 hz1 hz2 rfl (by omega) _ k (I64 (rng k)) rfl (HQ.out.1.alloc _) ⟨wr.heap.size,0,none⟩ 1 1 [.int .i64 (k:Int)] rfl rfl (cell_one_new _ _ _) (by simp[Value.oneCell']) (by unfold maxLen;omega) (by omega) (by simp;omega) ?_;intro v' w5 hown hgrow _;have HU:Hid (w5.ownsRow w.heap.size 3 1 v' (k+1) (I64 (rng (k+1)))∧Below w.heap.size w w5):=⟨by rw[rng_succ,show I64 (rng k++[(k:Int)])=I64 (rng k)++[.int .i64 (k:Int)] by simp[I64]];exact hown,(HQ.out.2.alloc HQ.out.2.size _).grown hgrow (by simp;omega) (fun j hj=>(HQ.out.1.lt j hj).1)⟩;clear hown hgrow)
   go_roundw
   case rel=>exact⟨k+1,by omega,by go_num,HU⟩
   case measure=>simp[intOf];omega
  ·obtain rfl:k=ws.length:=by omega
   obtain ⟨ap,ac,rfl,iall,_,_,hab⟩:=ints_in HQ.out.1
   have hb:=HQ.out.2
   go_wp2_with fail
   refine (rcrash_any (HH.out.later hb) hk ap ws.length ac (rng ws.length) iall (fun b e _ s=>by have:=hab b e;have:=hS _ s;omega) (by omega)).mono ?_
   rintro e w1 ⟨rfl,hd,hkp⟩
   have eF:settle (keepsK (rng ws.length)) ws d=settle (fun _=>true) ws d:=by
    unfold settle
    exact setl_congr _ (fun j hj=>rng_mem _ j hj)
   rw[eF] at hd
   go_wp2
   go_ret
   exact⟨rfl,hd,(Kept.of_below hb).trans hkp (fun _ _ h=>h)⟩
theorem image_any {w:World}{S:Nat→Prop}{p n:Nat}{d:List Int}{ws:List Wr}(h:Dsk w S p n d ws) :
  Calls prog 12 #[.pointer (some ⟨p,0,none⟩)] w fun e w'=>∃v,e=.returned v∧w'.ownsRow w.heap.size 5 1 v (64*n) (U8 d)∧Below w.heap.size w w':=by
 obtain ⟨i0,hi,hz0,hz1,hz2⟩:=info_parts info5
 obtain ⟨q,cap,v,h⟩:=h
 have h0:=h.cell0
 have HH:Hid (PD w S p n d ws q cap v):=h
 have hn2:=h.n2
 have hmul:IntKind.i64.wrap ((n:Int)*64)=(n:Int)*64:=by rw[IntKind.wrap_i64];omega
 clear h
 have hmk:=run_make (P:=prog) w 27 5 i0 _ underlying27 hi hz0 .i64 .i64 0 ((n:Int)*64) (by omega) (by omega) (by rw[hz2];omega) (by omega)
 rw[hz1,show ((n:Int)*64).toNat=n*64 by omega] at hmk
 simp only[Int.toNat_zero,Nat.mul_one,Value.cells] at hmk
 have HO:Hid ((w.alloc (.cells (madeCells #[.int .u8 0] (n*64)) 5)).ownsRow w.heap.size 5 1 (.slice (some ⟨w.heap.size,0,none⟩) 0 (n*64)) 0 []):=World.ownsRow_made w _ (n*64) (Nat.le_refl _) (by unfold maxLen;omega) (by rw[size_madeCells];omega)
 obtain ⟨ob,hob⟩:∃ob,Obj.cells (madeCells #[.int .u8 0] (n*64)) 5=ob:=⟨_,rfl⟩
 rw[hob] at hmk HO
 clear hob
 have HB:Hid (Below w.heap.size w (w.alloc ob)):=below_alloc w ob
 have h0':(w.alloc ob).cell? ⟨p,0,none⟩=some (.slice (some ⟨q,0,none⟩) n cap):=(HB.out.cell (p:=⟨p,0,none⟩) HH.out.blk.lt).trans h0
 go_enter func12,ntmps12
 go_wp2
 clear hmk hmul
 generalize w.alloc ob=W0 at *
 go_loopw [3,19] (fun b i wr=>∃k:Nat,k≤n∧i=.int .i64 k∧Hid (wr.ownsRow w.heap.size 5 1 b (64*k) (U8 (d.take (64*k)))∧Below w.heap.size w wr)) (fun _ i _=>n-(intOf i).toNat)
 case atStart=>exact⟨0,by omega,rfl,by simpa using HO.out,HB.out⟩
 case round =>
  obtain ⟨k,hkm,rfl,HR⟩:=hrel
  clear HO HB h0'
  by_cases hlt:k<n
  ·have c0:wr.cell? ⟨p,0,none⟩=some (.slice (some ⟨q,0,none⟩) n cap):=(HR.out.2.cell (p:=⟨p,0,none⟩) HH.out.blk.lt).trans h0
   have HN:Hid (∀j u,(U8 (sec d k))[j]?=some u→wr.cell? ((⟨q,k*128,none⟩:Addr).add j)=some u):=fun j u hu=>by
    rw[Addr.add_mid]
    exact rangeAt_same (HH.out.pl.dur k hlt) (HR.out.2.block q HH.out.pl.blk.lt) j u hu
   have HL:Hid ((sec d k).length=64):=HH.out.pl.dl k hlt
   obtain ⟨bp,bc,rfl,_⟩:=own_slice HR.out.1
   go_wp2_with (at_builtin;refine wpList_append_own _ rfl (.tmp 22) (.tmp 30) 27 rfl w.heap.size 5 i0 (.int .u8 0) 1 1 underlying27 hi hz0 hz1 hz2 rfl (by omega) _ (64*k) _ rfl HR.out.1 ⟨q,k*128,none⟩ 64 64 (U8 (sec d k)) rfl (by rw[U8_length];exact HL.out) HN.out (ones_u8 _) (by unfold maxLen;omega) (by omega) HR.out.2.size ?_;intro v' w1 hown hgrow _;have HO1:Hid (w1.ownsRow w.heap.size 5 1 v' (64*(k+1)) (U8 (d.take (64*(k+1))))∧Below w.heap.size w w1):=⟨by rw[sec_step,show 64*(k+1)=64*k+64 by omega,show U8 (d.take (64*k)++sec d k)=U8 (d.take (64*k))++U8 (sec d k) from List.map_append];exact hown,HR.out.2.grown hgrow HR.out.2.size (fun j hj=>(HR.out.1.lt j hj).1)⟩;clear hown hgrow HN)
   go_roundw
   case rel=>exact⟨k+1,by omega,by go_num,HO1.out⟩
   case measure=>simp[intOf];omega
  ·obtain rfl:k=n:=by omega
   have HE:Hid (d.take (64*k)=d):=List.take_of_length_le (by rw[HH.out.dl];omega)
   go_wp2
   go_ret
   exact⟨_,rfl,by have:=HR.out.1;rw[HE.out] at this;exact this,HR.out.2⟩
theorem PC_length {n:Nat}{D N:Nat→List Int}(hd:∀i,i<n→(D i).length=64)(hn:∀i,i<n→(N i).length=64):∀l∈(List.range n).map (fun i=>U8 (D i)++U8 (N i)),l.length=128:=fun l hl=>by
 obtain ⟨i,hi,rfl⟩:=List.mem_map.1 hl
 have:=List.mem_range.1 hi
 rw[List.length_append,U8_length,U8_length,hd i this,hn i this]
def PC (n:Nat)(D N:Nat→List Int):List Value:=((List.range n).map (fun i=>U8 (D i)++U8 (N i))).flatten
theorem PC_ones (n:Nat)(D N:Nat→List Int):∀u∈PC n D N,u.oneCell'=true:=fun u hu=>by
 obtain ⟨l,hl,hu⟩:=List.mem_flatten.1 hu
 obtain ⟨i,_,rfl⟩:=List.mem_map.1 hl
 rcases List.mem_append.1 hu with h | h <;> exact ones_u8 _ u h
theorem PC_at {n:Nat}{D N:Nat→List Int}(hd:∀i,i<n→(D i).length=64)(hn:∀i,i<n→(N i).length=64)(i j:Nat)(hi:i<n)(hj:j<128):(PC n D N)[i*128+j]?=(U8 (D i)++U8 (N i))[j]?:=by
 have e:=flat_at _ (PC_length hd hn) i (by simpa using hi) j hj
 rw[Nat.mul_comm] at e
 unfold PC
 rw[e]
 simp
theorem Pl.cells {w:World}{q n cap:Nat}{D N:Nat→List Int}(h:Pl w q n cap D N):∀j u,(PC n D N)[j]?=some u→w.cell? ((⟨q,0,none⟩:Addr).add j)=some u:=fun j u hu=>by
 have hl:(PC n D N).length=n*128:=by unfold PC;rw[flat_length _ (PC_length h.dl h.nl)];simp
 have hj:j<n*128:=by have:=(List.getElem?_eq_some_iff.1 hu).1;omega
 have hi:j / 128<n:=by omega
 have e:=PC_at h.dl h.nl (j / 128) (j % 128) hi (Nat.mod_lt _ (by omega))
 rw[show j / 128*128+j % 128=j by omega,hu] at e
 rw[Addr.add_mid,Nat.zero_add]
 by_cases c:j % 128<64
 ·rw[List.getElem?_append_left (by rw[U8_length,h.dl _ hi];exact c)] at e
  have:=h.dur _ hi _ _ e.symm
  rwa [show j / 128*128+j % 128=j by omega] at this
 ·rw[List.getElem?_append_right (by rw[U8_length,h.dl _ hi];omega),U8_length,h.dl _ hi] at e
  have:=h.new _ hi _ _ e.symm
  rwa [show j / 128*128+64+(j % 128-64)=j by omega] at this
theorem Pl.of_own {w:World}{base q n cap:Nat}{D N:Nat→List Int}(h:w.ownsRow base 109 128 (.slice (some ⟨q,0,none⟩) n cap) n (PC n D N))(hd:∀i,i<n→(D i).length=64)(hn:∀i,i<n→(N i).length=64):Pl w q n cap D N:=by
 obtain ⟨h1,h2,h3,_⟩:=own_blk h
 refine⟨h1,h2,h3,hd,hn,fun i hi=>own_range_part h (fun j u hu=>?_),fun i hi=>own_range_part h (fun j u hu=>?_)⟩
 ·have hj:j<64:=by have:=(List.getElem?_eq_some_iff.1 hu).1;rw[U8_length,hd i hi] at this;exact this
  rw[PC_at hd hn i j hi (by omega),List.getElem?_append_left (by rw[U8_length,hd i hi];exact hj)];exact hu
 ·have hj:j<64:=by have:=(List.getElem?_eq_some_iff.1 hu).1;rw[U8_length,hn i hi] at this;exact this
  rw[show i*128+64+j=i*128+(64+j) by omega,PC_at hd hn i (64+j) hi (by omega),List.getElem?_append_right (by rw[U8_length,hd i hi];omega),U8_length,hd i hi]
  rw[show 64+j-64=j by omega];exact hu
theorem clone_places {w:World}{q n cap:Nat}{D N:Nat→List Int}(h:Pl w q n cap D N)(hn1:1≤n)(hn:n≤4096) :
  Calls prog 99 #[.slice (some ⟨q,0,none⟩) n cap] w fun e w'=>∃q' cap',e=.returned (.slice (some ⟨q',0,none⟩) n cap')∧Pl w' q' n cap' D N∧w.heap.size≤q'∧Below w.heap.size w w':=by
 obtain ⟨i0,hi,hz0,hz1,hz2⟩:=info_parts info71
 have q22:∀(w:World) (a:Option Addr) (n c n' c':Nat),(binOp .eql 102 (.slice a n c) (.slice none n' c')).run prog w=.ok (.bool a.isNone) w:=fun w a n c n' c'=>Lib.run_eql_slice_nil w _ _ a n c n' c' underlying102
 have HC:Hid (∀j u,(PC n D N)[j]?=some u→(w.alloc (.cells #[] 109)).cell? ((⟨q,0,none⟩:Addr).add j)=some u):=(h.same (Below.heap_alloc _ _ _ h.blk.lt)).cells
 have HL:Hid ((PC n D N).length=n*128):=by show _=_;unfold PC;rw[flat_length _ (PC_length h.dl h.nl)];simp
 have HD:Hid ((∀i,i<n→(D i).length=64)∧(∀i,i<n→(N i).length=64)):=⟨h.dl,h.nl⟩
 clear h
 go_enter func99,ntmps99
 go_wp2_with (at_builtin;refine wpList_append_lies _ rfl (.tmp 5) (.tmp 6) 102 rfl w.heap.size 109 i0 _ 128 128 underlying102 hi hz0 hz1 hz2 (by simp[Value.cells]) (by omega) _ 0 [] rfl (World.ownsRow_made w #[] 0 (Nat.le_refl _) (Nat.zero_le _) rfl) ⟨q,0,none⟩ n cap (PC n D N) rfl HL.out HC.out (PC_ones n D N) (by omega) (by unfold maxLen;omega) (by omega) (by simp) _ rfl ?_)
 intro g c2 w1 hown hgrow hat hlt
 try simp only[Nat.zero_add,List.nil_append] at hown ⊢
 go_wp2
 go_ret
 refine⟨g,c2,rfl,Pl.of_own hown HD.out.1 HD.out.2,(own_blk hown).2.2.2,?_⟩
 exact ((Below.refl _ w).alloc (Nat.le_refl _) _).grown hgrow (by simp) (by intro k hk;simp[Value.ownBlock] at hk;omega)
theorem clone_waits_at {w:World}{g n k c:Nat}{ws:List Wr}(h:w.ownsRow 0 114 65 (.slice (some ⟨g,0,none⟩) ws.length c) ws.length (WC ws))(hf:Fit n ws)(hk:ws.length≤100000)(hkk:ws.length=k) :
  Calls prog 100 #[.slice (some ⟨g,0,none⟩) k c] w fun e w'=>∃v',e=.returned v'∧w'.ownsRow w.heap.size 114 65 v' ws.length (WC ws)∧Below w.heap.size w w':=by
 subst hkk
 obtain ⟨i0,hi,hz0,hz1,hz2⟩:=info_parts info80
 have q22:∀(w:World) (a:Option Addr) (n c n' c':Nat),(binOp .eql 103 (.slice a n c) (.slice none n' c')).run prog w=.ok (.bool a.isNone) w:=fun w a n c n' c'=>Lib.run_eql_slice_nil w _ _ a n c n' c' underlying103
 have HC:Hid (∀j u,(WC ws)[j]?=some u→(w.alloc (.cells #[] 114)).cell? ((⟨g,0,none⟩:Addr).add j)=some u):=(own_same h (fun k hk=>Below.heap_alloc _ _ _ ((own_ownBlk h hk).elim fun _ hb=>hb.lt))).cells rfl
 have HL:Hid ((WC ws).length=ws.length*65):=WC_length hf
 clear h
 go_enter func100,ntmps100
 go_wp2_with (at_builtin;refine wpList_append_own _ rfl (.tmp 5) (.tmp 6) 103 rfl w.heap.size 114 i0 _ 65 72 underlying103 hi hz0 hz1 hz2 (by simp[Value.cells]) (by omega) _ 0 [] rfl (World.ownsRow_made w #[] 0 (Nat.le_refl _) (Nat.zero_le _) rfl) ⟨g,0,none⟩ ws.length c (WC ws) rfl HL.out HC.out (WC_ones ws) (by unfold maxLen;omega) (by omega) (by simp) ?_)
 intro v1 w1 hown hgrow hat
 try simp only[Nat.zero_add,List.nil_append] at hown
 go_wp2
 go_ret
 exact⟨v1,rfl,hown,((Below.refl _ w).alloc (Nat.le_refl _) _).grown hgrow (by simp) (by intro k hk;simp[Value.ownBlock] at hk;omega)⟩
theorem clone_waits_nil (w:World):Calls prog 100 #[.slice none 0 0] w fun e w'=>e=.returned (.slice none 0 0)∧w=w':=by
 have q22:∀(w:World) (a:Option Addr) (n c n' c':Nat),(binOp .eql 103 (.slice a n c) (.slice none n' c')).run prog w=.ok (.bool a.isNone) w:=fun w a n c n' c'=>Lib.run_eql_slice_nil w _ _ a n c n' c' underlying103
 go_enter func100,ntmps100
 go_wp2
 go_ret
 exact⟨rfl,rfl⟩
theorem clone_waits {w:World}{v:Value}{n:Nat}{ws:List Wr}(h:w.ownsRow 0 114 65 v ws.length (WC ws))(hf:Fit n ws)(hk:ws.length≤100000) :
  Calls prog 100 #[v] w fun e w'=>∃v',e=.returned v'∧w'.ownsRow w.heap.size 114 65 v' ws.length (WC ws)∧Below w.heap.size w w':=by
 obtain ⟨pv,c,rfl,h0,h1⟩:=own_slice h
 cases pv with
 | some a =>
  obtain ⟨g,rfl⟩:=h1 a rfl
  exact clone_waits_at h hf hk rfl
 | none =>
  obtain ⟨e1,rfl⟩:=h0 rfl
  obtain rfl:ws=[]:=List.eq_nil_of_length_eq_zero e1
  refine (clone_waits_nil w).mono ?_
  rintro e w' ⟨rfl,rfl⟩
  exact⟨_,rfl,World.ownsRow_nil _ _ _ _,Below.refl _ _⟩
theorem copy_fin {w w2:World}{n q cap:Nat}{v:Value}{d:List Int}{ws:List Wr}(hb:Below w.heap.size w w2)(hpl:Pl w2 q n cap (sec d) (newest ws d))(hq:w.heap.size≤q)(hv:w2.ownsRow w.heap.size 114 65 v ws.length (WC ws))(hn1:1≤n)(hn2:n≤4096)(hdl:d.length=64*n)(hdb:Bytes d)(hf:Fit n ws) :
  Dsk (w2.alloc (.cells #[.slice (some ⟨q,0,none⟩) n cap,v] 105)) (fun k=>w.heap.size≤k) w2.heap.size n d ws∧Below w.heap.size w (w2.alloc (.cells #[.slice (some ⟨q,0,none⟩) n cap,v] 105)):=by
 refine⟨⟨q,cap,v,heap_alloc_new _ _,hpl.same (Below.heap_alloc _ _ _ hpl.blk.lt),own_mono (hv.alloc _) (Nat.zero_le _),hb.size,hq,fun k hk=>(hv.lt k hk).1,hn1,hn2,hdl,hdb,hf⟩,hb.alloc hb.size _⟩
theorem copy_any {w:World}{S:Nat→Prop}{p n:Nat}{d:List Int}{ws:List Wr}(h:Dsk w S p n d ws)(hk:ws.length≤100000) :
  Calls prog 58 #[.pointer (some ⟨p,0,none⟩)] w fun e w'=>∃p',e=.returned (.pointer (some ⟨p',0,none⟩))∧Dsk w' (fun k=>w.heap.size≤k) p' n d ws∧Below w.heap.size w w':=by
 obtain ⟨q,cap,v,h⟩:=h
 have h0:=h.cell0
 have h1:=h.cell1
 have hn1:=h.n1
 have hn2:=h.n2
 have HF:Hid (Fit n ws):=h.fit
 have HD:Hid (d.length=64*n∧Bytes d):=⟨h.dl,h.db⟩
 have hP:PD w.drew S p n d ws q cap v:=h.later ⟨rfl,rfl,rfl,Nat.le_refl _,fun _ _=>rfl⟩
 clear h
 go_enter func58,ntmps58
 go_wp2
 go_region_held3 (fun w'=>w'.cell? ⟨p,0,none⟩=some (.slice (some ⟨q,0,none⟩) n cap)∧w'.cell? ⟨p,1,none⟩=some v∧PD w' S p n d ws q cap v) (first | exact⟨h0,h1,hP⟩ | (refine⟨?_,?_,?_⟩ <;> assumption) | exact⟨(PD.later (by assumption) (below_alloc _ _)).cell0,(PD.later (by assumption) (below_alloc _ _)).cell1,PD.later (by assumption) (below_alloc _ _)⟩) (first | (go_at_call 99;refine (clone_places (D:=sec d) (N:=newest ws d) ?_ hn1 hn2).mono ?_;exact (‹_∧_∧PD _ S p n d ws q cap v›).2.2.pl;rintro e wa ⟨q',cap',rfl,hpl,hq',hba⟩;have hPa:PD wa S p n d ws q cap v:=PD.later (‹_∧_∧PD _ S p n d ws q cap v›).2.2 hba;have ka0:=hPa.cell0;have ka1:=hPa.cell1) | (go_at_call 100;refine (clone_waits (n:=n) (ws:=ws) ?_ HF.out hk).mono ?_;exact (‹_∧_∧PD _ S p n d ws q cap v›).2.2.wt;rintro e wb ⟨v',rfl,hown,hbb⟩;obtain ⟨pv',cv',rfl,_⟩:=own_slice hown;have hPb:PD wb S p n d ws q cap v:=PD.later (‹_∧_∧PD _ S p n d ws q cap v›).2.2 hbb;have kb0:=hPb.cell0;have kb1:=hPb.cell1))
 go_wp2
 go_ret
 have hb2:Below w.heap.size w wb:=(show Below w.heap.size w wa from ⟨hba.os,hba.tape,hba.output,hba.size,hba.block⟩).trans (hbb.mono hba.size)
 obtain ⟨f1,f2⟩:=copy_fin hb2 (hpl.same (hbb.block _ hpl.blk.lt)) hq' (own_mono hown hba.size) hn1 hn2 HD.out.1 HD.out.2 HF.out
 exact⟨_,rfl,f1,f2⟩
end Go.Proofs.YtdadpepfpiimgaaGreatDoor
