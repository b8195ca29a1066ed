import Derived.Test.YtdadpepfpiimgaaGreatDoorK05
set_option maxHeartbeats 20000000
set_option maxRecDepth 100000
namespace Go.Proofs.YtdadpepfpiimgaaGreatDoor
open Go.Proofs.Tryz
open Go.RowKit
theorem four_later {w w':World}{a1 a2 a3 a4:Addr}{u1 u2 u3 u4:Value}(h:w.cell? a1=some u1∧w.cell? a2=some u2∧w.cell? a3=some u3∧w.cell? a4=some u4)(hb:Below w.heap.size w w'):w'.cell? a1=some u1∧w'.cell? a2=some u2∧w'.cell? a3=some u3∧w'.cell? a4=some u4 :=
 ⟨(hb.cell (World.block_lt_of_cell? w _ h.1)).trans h.1,(hb.cell (World.block_lt_of_cell? w _ h.2.1)).trans h.2.1,(hb.cell (World.block_lt_of_cell? w _ h.2.2.1)).trans h.2.2.1,(hb.cell (World.block_lt_of_cell? w _ h.2.2.2)).trans h.2.2.2⟩
structure RCp (w wr:World) (c n:Nat) (d:List Int) (ws:List Wr) (k:Nat):Prop where
 below:Below w.heap.size w wr
 ref:Ref wr (fun j=>w.heap.size≤j) c n d (ws.take k)
theorem rcopy_any {w:World}{S:Nat→Prop}{p n:Nat}{d:List Int}{ws:List Wr}(h:Ref w S p n d ws)(hk:ws.length≤100000) :
  Calls prog 59 #[.pointer (some ⟨p,0,none⟩)] w fun e w'=>∃c,e=.returned (.pointer (some ⟨c,0,none⟩))∧Ref w' (fun j=>w.heap.size≤j) c n d ws∧Below w.heap.size w w':=by
 obtain ⟨i5,hi5,hz50,hz51,hz52⟩:=info_parts info5
 obtain ⟨i85,hi85,hz850,hz851,hz852⟩:=info_parts info85
 obtain ⟨g,L,cap,v,vs,h⟩:=h
 have s0:(w.alloc (.cells #[] 5)).cell? ⟨p,0,none⟩=some (.slice (some ⟨g,0,none⟩) L cap):=(h.later (below_alloc w _)).cell0
 have HH:Hid (RD w S p n d ws g L cap v vs):=h
 have hL1:0<L:=by have:=h.hL;have:=h.n1;omega
 have hL2:L≤262144:=by have:=h.hL;have:=h.n2;omega
 have HN:Hid (∀j u,(U8 d)[j]?=some u→(w.alloc (.cells #[] 5)).cell? ((⟨g,0,none⟩:Addr).add j)=some u):=fun j u hu=>by
  have hr:=own_range (h.later (below_alloc w (.cells #[] 5))).dur j u hu
  rw[Addr.add_mid];exact hr
 have HL:Hid ((U8 d).length=L*1):=by show _=_;have:=h.dur.1;omega
 clear h
 go_enter func59,ntmps59
 go_wp2_with (at_builtin;refine wpList_append_lies _ rfl (.tmp 5) (.tmp 9) 27 rfl w.heap.size 5 i5 (.int .u8 0) 1 1 underlying27 hi5 hz50 hz51 hz52 rfl (by omega) _ 0 [] rfl (World.ownsRow_made w #[] 0 (Nat.le_refl _) (Nat.zero_le _) rfl) ⟨g,0,none⟩ L cap (U8 d) rfl HL.out HN.out (ones_u8 _) hL1 (by unfold maxLen;omega) (by omega) (by simp) _ rfl ?_)
 intro g1 c1 w1 hown hgrow hat hlt
 try simp only[Nat.zero_add,List.nil_append] at hown ⊢
 have hb:Below w.heap.size w w1:=((Below.refl _ w).alloc (Nat.le_refl _) _).grown hgrow (by simp) (by intro k hk;simp[Value.ownBlock] at hk;omega)
 have HF:Hid (RCp w (w1.alloc (.cells #[.slice (some ⟨g1,0,none⟩) L c1,.slice none 0 0] 100)) w1.heap.size n d ws 0):=by
  obtain ⟨f1,f2⟩:=ref_fin hb hown HH.out.hL HH.out.n1 HH.out.n2 HH.out.db
  exact⟨f2,by rw[List.take_zero];exact f1⟩
 clear hown hgrow hat hlt hb s0 HN
 go_wp2
 generalize w1.alloc (.cells #[.slice (some ⟨g1,0,none⟩) L c1,.slice none 0 0] 100)=W1 at *
 generalize w1.heap.size=c at *
 go_loopw [4] (fun i wr=>∃k:Nat,k≤ws.length∧i=.int .i64 k∧Hid (RCp w wr c n d ws k)) (fun i _=>ws.length-(intOf i).toNat)
 case atStart=>exact⟨0,by omega,rfl,HF.out⟩
 case round =>
  obtain ⟨k,hkl,rfl,HQ⟩:=hrel
  clear HF
  have h1:=HH.out.later HQ.out.below
  have s1:=h1.cell1
  by_cases hlt:k<ws.length
  ·obtain ⟨gv,cv,gb,cb,rfl,t1,t2,t3,_⟩:=h1.at k hlt
   obtain ⟨gc,Lc,capc,vc,vsc,hc⟩:=HQ.out.ref
   have q1:=hc.cell1
   have HXi:=HH.out.fit.at k hlt
   have HTk:Hid (ws.take (k+1)=ws.take k++[⟨ws[k].s,ws[k].b⟩]):=by show _=_;rw[List.take_succ_eq_append_getElem hlt]
   have HTl:Hid ((ws.take k).length=k):=by show _=_;rw[List.length_take];omega
   have hTb:(ws.take k).length≤100000:=by rw[HTl.out];omega
   obtain ⟨T,hT⟩:∃T,ws.take k=T:=⟨_,rfl⟩
   rw[hT] at hc HTk HTl hTb
   clear hT
   obtain ⟨pvc,cvc,rfl,_⟩:=own_slice hc.wr
   generalize ws[k]=X at *
   have HC:Hid (RD wr (fun j=>w.heap.size≤j) c n d T gc Lc capc (.slice pvc T.length cvc) vsc):=hc
   have HT3:Hid (BIn wr (some ⟨gb,0,none⟩) 64 X.b):=t3
   have HP:Hid (RD wr S p n d ws g L cap (.slice (some ⟨gv,0,none⟩) ws.length cv) vs):=h1
   have i1:(k:Int)<(ws.length:Int):=by omega
   have i0':(0:Int)≤(k:Int):=by omega
   have hszw:=HQ.out.below.size
   clear t3 hc h1
   go_wp2
   have r1:(wr.alloc (.cells #[] 5)).drew.cell? ⟨c,1,none⟩=some (.slice pvc T.length cvc):=(HC.out.later (below_alloc wr _)).cell1
   refine wp_region_noPanic ?_
   refine wp_region_last 28 (fun w'=>w'.cell? ⟨c,1,none⟩=some (.slice pvc T.length cvc)∧w'.cell? ⟨p,1,none⟩=some (.slice (some ⟨gv,0,none⟩) ws.length cv)∧w'.cell? ⟨gv,k*2,none⟩=some (.int .i64 (X.s:Int))∧w'.cell? ⟨gv,k*2+1,none⟩=some (.slice (some ⟨gb,0,none⟩) 64 cb)) (by kernel_rfl) ?_
   have hHeld:wr.drew.cell? ⟨c,1,none⟩=some (.slice pvc T.length cvc)∧wr.drew.cell? ⟨p,1,none⟩=some (.slice (some ⟨gv,0,none⟩) ws.length cv)∧wr.drew.cell? ⟨gv,k*2,none⟩=some (.int .i64 (X.s:Int))∧wr.drew.cell? ⟨gv,k*2+1,none⟩=some (.slice (some ⟨gb,0,none⟩) 64 cb):=⟨q1,s1,t1,t2⟩
   have H4:Hid (wr.cell? ⟨c,1,none⟩=some (.slice pvc T.length cvc)∧wr.cell? ⟨p,1,none⟩=some (.slice (some ⟨gv,0,none⟩) ws.length cv)∧wr.cell? ⟨gv,k*2,none⟩=some (.int .i64 (X.s:Int))∧wr.cell? ⟨gv,k*2+1,none⟩=some (.slice (some ⟨gb,0,none⟩) 64 cb)):=⟨q1,s1,t1,t2⟩
   clear q1 s1 t1 t2 r1
   refine tkL 0 hHeld ?_
   refine tkL 1 hHeld ?_
   refine tkL 2 hHeld ?_
   refine tkL 3 hHeld ?_
   refine wpAnyL_take (i:=4) (v:=?v4) (by simp;rfl) (by kernel_rfl) (by kernel_rfl) (by kernel_rfl) (by kernel_rfl) (fun _ _ _ h=>h) (Or.inl ⟨by rfl,?y4⟩) hHeld ?r4
   case y4=>intro w hSw;obtain ⟨z1,z2,z3,z4⟩:=hSw;go_simp;with_reducible rfl
   simp only[Act.put,zA,zB,zC]
   refine tkL 5 hHeld ?_
   refine tkL 6 hHeld ?_
   refine tkL 7 hHeld ?_
   refine wpAnyL_take (i:=8) (v:=?v8) (by simp;rfl) (by kernel_rfl) (by kernel_rfl) (by kernel_rfl) (by kernel_rfl) (fun _ _ _ h=>h) (Or.inl ⟨by rfl,?y8⟩) hHeld ?r8
   case y8=>intro w hSw;obtain ⟨z1,z2,z3,z4⟩:=hSw;go_simp;with_reducible rfl
   simp only[Act.put,zA,zB,zC]
   refine tkL 9 hHeld ?_
   refine tkL 10 hHeld ?_
   refine tkL 11 hHeld ?_
   refine wpAnyL_take (i:=12) (v:=?v12) (by simp;rfl) (by kernel_rfl) (by kernel_rfl) (by kernel_rfl) (by kernel_rfl) (fun _ _ _ h=>h) (Or.inl ⟨by rfl,?y12⟩) hHeld ?r12
   case y12=>intro w hSw;obtain ⟨z1,z2,z3,z4⟩:=hSw;go_simp;with_reducible rfl
   simp only[Act.put,zA,zB,zC]
   refine tkL 14 hHeld ?_
   refine tkL 15 hHeld ?_
   refine tkL 16 hHeld ?_
   refine wpAnyL_take (i:=17) (v:=?v17) (by simp;rfl) (by kernel_rfl) (by kernel_rfl) (by kernel_rfl) (by kernel_rfl) (fun _ _ _ h=>h) (Or.inl ⟨by rfl,?y17⟩) hHeld ?r17
   case y17=>intro w hSw;obtain ⟨z1,z2,z3,z4⟩:=hSw;go_simp;with_reducible rfl
   simp only[Act.put,zA,zB,zC]
   refine tkL 18 hHeld ?_
   refine tkL 19 hHeld ?_
   refine tkL 20 hHeld ?_
   refine wpAnyL_take (i:=21) (v:=?v21) (by simp;rfl) (by kernel_rfl) (by kernel_rfl) (by kernel_rfl) (by kernel_rfl) (fun _ _ _ h=>h) (Or.inl ⟨by rfl,?y21⟩) hHeld ?r21
   case y21=>intro w hSw;obtain ⟨z1,z2,z3,z4⟩:=hSw;go_simp;with_reducible rfl
   simp only[Act.put,zA,zB,zC]
   refine wpAnyL_ready (rs:=[13]) (by kernel_rfl) (by simp) ?_
   refine AllReadyL.cons (by simp;rfl) (fun K hK=>?_) AllReadyL.nil
   go_simp
   have hH6:(wr.alloc (.cells #[] 5)).drew.cell? ⟨c,1,none⟩=some (.slice pvc T.length cvc)∧(wr.alloc (.cells #[] 5)).drew.cell? ⟨p,1,none⟩=some (.slice (some ⟨gv,0,none⟩) ws.length cv)∧(wr.alloc (.cells #[] 5)).drew.cell? ⟨gv,k*2,none⟩=some (.int .i64 (X.s:Int))∧(wr.alloc (.cells #[] 5)).drew.cell? ⟨gv,k*2+1,none⟩=some (.slice (some ⟨gb,0,none⟩) 64 cb):=four_later hHeld (w':=(wr.alloc (.cells #[] 5)).drew) ⟨rfl,rfl,rfl,by show wr.heap.size≤(wr.alloc _).heap.size;simp,fun k hk=>Below.heap_alloc _ _ _ hk⟩
   refine hK.out _ _ (fun _=>hH6) ?_
   clear hK K hHeld
   have hHeld:=hH6
   refine wpAnyL_ready (rs:=[22]) (by kernel_rfl) (by simp) ?_
   refine AllReadyL.cons (by simp;rfl) (fun K hK=>?_) AllReadyL.nil
   refine step_append_lies _ rfl (.tmp 35) (.tmp 43) 27 rfl wr.heap.size 5 i5 (.int .u8 0) 1 1 underlying27 hi5 hz50 hz51 hz52 rfl (by omega) _ 0 [] rfl (World.ownsRow_made wr #[] 0 (Nat.le_refl _) (Nat.zero_le _) rfl) ⟨gb,0,none⟩ 64 cb (U8 X.b) rfl (by rw[U8_length];exact HXi.2.1) ((HT3.out.later (below_alloc wr _)).news) (ones_u8 _) (by omega) (by unfold maxLen;omega) (by omega) (by simp) _ rfl ?_
   intro g2 cap2 w2 hown2 hgrow2 hat2 hlt2
   simp only[Nat.zero_add,List.nil_append] at hown2 ⊢
   have hb2:Below wr.heap.size wr w2:=((Below.refl _ wr).alloc (Nat.le_refl _) (.cells #[] 5)).trans ⟨hgrow2.os,hgrow2.tape,hgrow2.output,hgrow2.size,fun k hk=>hgrow2.block k (Nat.lt_of_lt_of_le hk (by show _≤(wr.alloc _).heap.size;simp)) (fun e=>by have e':k=wr.heap.size:=Option.some.inj e;omega)⟩
   have hH8:=four_later (w:=wr) (w':=w2) H4.out hb2
   refine hK.out _ _ (fun _=>hH8) ?_
   clear hK K hHeld hH6 hgrow2 hat2 hlt2
   have hHeld:=hH8
   simp only[Act.put,zA,zB,zC]
   refine tkL 23 hHeld ?_
   refine wpAnyL_ready (rs:=[24]) (by kernel_rfl) (by simp) ?_
   refine AllReadyL.cons (by simp;rfl) (fun K hK=>?_) AllReadyL.nil
   go_simp
   have hb3:Below wr.heap.size wr (w2.alloc (.cells #[.int .i64 (X.s:Int),.slice (some ⟨g2,0,none⟩) 64 cap2] 152)):=hb2.alloc hb2.size _
   have hHA:=four_later (w:=w2) hHeld (below_alloc w2 (.cells #[.int .i64 (X.s:Int),.slice (some ⟨g2,0,none⟩) 64 cap2] 152))
   refine hK.out _ _ (fun _=>hHA) ?_
   clear hK K hHeld hH8
   have hHeld:=hHA
   refine wpAnyL_ready (rs:=[25]) (by kernel_rfl) (by simp) ?_
   refine AllReadyL.cons (by simp;rfl) (fun K hK=>?_) AllReadyL.nil
   have hz2':=hb2.size
   refine step_append_lies _ rfl (.tmp 26) (.tmp 46) 98 rfl 0 152 i85 (.agg #[.int .i64 0,.slice none 0 0]) 2 32 underlying98 hi85 hz850 hz851 hz852 rfl (by omega) _ T.length (ZC T vsc) rfl (HC.out.later hb3).wr ⟨w2.heap.size,0,none⟩ 1 1 [.int .i64 (X.s:Int),.slice (some ⟨g2,0,none⟩) 64 cap2] rfl rfl ?_ (by simp[Value.oneCell']) (by omega) (by unfold maxLen;omega) (by omega) (Nat.zero_le _) _ rfl ?_
   ·intro j u hu
    have e:=new_range w2 [.int .i64 (X.s:Int),.slice (some ⟨g2,0,none⟩) 64 cap2] 152 j u hu
    rw[Addr.add_mid]
    exact e
   intro g4 cap4 w4 hown4 hgrow4 hat4 hlt4
   obtain ⟨f1,f2,f3,f4⟩:=rwrite_fin HC.out hb3 (hown2.alloc _) hown4 hgrow4 (or_map hat4 id (fun e=>by rw[e];simp;omega)) HXi.1 HXi.2.1 HXi.2.2
   have hS4:w4.cell? ⟨c,1,none⟩=some (.slice pvc T.length cvc)∧w4.cell? ⟨p,1,none⟩=some (.slice (some ⟨gv,0,none⟩) ws.length cv)∧w4.cell? ⟨gv,k*2,none⟩=some (.int .i64 (X.s:Int))∧w4.cell? ⟨gv,k*2+1,none⟩=some (.slice (some ⟨gb,0,none⟩) 64 cb):=by
    have hne:∀j:Nat,j<w.heap.size→some j≠(Value.slice pvc T.length cvc).ownBlock:=fun j hj e=>by have:w.heap.size≤j:=HC.out.sv j e.symm;omega
    have hpw:p<w.heap.size:=HH.out.blk.lt
    have hgw:gv<w.heap.size:=(own_blk HH.out.wr).1.lt
    have hsz3:(w2.alloc (.cells #[.int .i64 (X.s:Int),.slice (some ⟨g2,0,none⟩) 64 cap2] 152)).heap.size=w2.heap.size+1:=by simp
    exact⟨f1,(hgrow4.cell_far ⟨p,1,none⟩ (by show p<_;omega) (hne p hpw)).trans hHeld.2.1,(hgrow4.cell_far ⟨gv,k*2,none⟩ (by show gv<_;omega) (hne gv hgw)).trans hHeld.2.2.1,(hgrow4.cell_far ⟨gv,k*2+1,none⟩ (by show gv<_;omega) (hne gv hgw)).trans hHeld.2.2.2⟩
   refine hK.out _ _ (fun _=>hS4) ?_
   clear hK K hHeld hHA hgrow4 hat4 hlt4 hown4
   have HU:Hid (RCp w (w4.setCell ⟨c,1,none⟩ (.slice (some ⟨g4,0,none⟩) (T.length+1) cap4)) c n d ws (k+1)):=by
    refine⟨HQ.out.below.trans (f4.below hszw (fun j h=>h)),?_⟩
    rw[HTk.out]
    exact f3.mono (fun j _ h=>h.elim id (fun h=>by omega))
   clear f3 f4
   simp only[Act.put,zA,zB,zC]
   refine wpAnyL_ready (rs:=[26]) (by kernel_rfl) (by simp) ?_
   refine AllReadyL.cons (by simp;rfl) (fun K hK=>?_) AllReadyL.nil
   go_simp
   refine hK.out _ _ (fun _=>hS4) ?_
   clear hK K
   refine wpAnyL_ready (rs:=[27]) (by kernel_rfl) (by simp) ?_
   refine AllReadyL.cons (by simp;rfl) (fun K hK=>?_) AllReadyL.nil
   go_simp
   refine hK.out _ _ (fun _=>hS4) ?_
   clear hK K
   refine wpAnyL_ready (rs:=[28]) (by kernel_rfl) (by simp) ?_
   refine AllReadyL.cons (by simp;rfl) (fun K hK=>?_) AllReadyL.nil
   go_simp
   refine hK.out _ _ (fun h=>absurd rfl h) ?_
   clear hK K
   refine wpAnyL_done (by kernel_rfl) (NoPanic.normal ?_) _
   clear f1 f2 hS4
   go_wp2
   go_roundw
   case rel=>exact⟨k+1,by omega,by go_num,HU⟩
   case measure=>simp[intOf];omega
  ·obtain rfl:k=ws.length:=by omega
   have HD:Hid (Ref wr (fun j=>w.heap.size≤j) c n d ws∧Below w.heap.size w wr):=⟨by have:=HQ.out.ref;rw[List.take_of_length_le (Nat.le_refl _)] at this;exact this,HQ.out.below⟩
   obtain ⟨pv,cv,rfl,_⟩:=own_slice HH.out.wr
   clear HQ h1
   go_wp2
   go_ret
   exact⟨_,rfl,HD.out.1,HD.out.2⟩
end Go.Proofs.YtdadpepfpiimgaaGreatDoor
namespace Go.Proofs.YtdadpepfpiimgaaGreatDoor.G
abbrev Cap (n:Int):Prop:=2≤n∧n≤64
def slotS (p n:Int):Int × Int:=if Cap n then (if p>4611686018427387968 then (0,31) else (p % n,0)) else (0,2)
open Go.Proofs.Tryz Go.RowKit
theorem cap_any (n:Int)(w:World) :
  Calls prog 146 #[.int .i64 n] w fun e w'=>e=.returned (.bool (decide (Cap n)))∧w=w':=by
 go_enter func146,ntmps146
 go_wp2
 all_goals go_ret
 all_goals (refine⟨?_,rfl⟩;simp[Cap];omega)
theorem wrap_cap {n:Int}(h:Cap n):IntKind.u64.wrap n=n:=by
 have:=h.1;have:=h.2
 rw[IntKind.wrap_u64]
 omega
theorem mod_cap (p:Int){n:Int}(h:Cap n):0≤p % n∧p % n<64:=by
 have h1:=h.1
 have h2:=h.2
 have h3:=Int.emod_nonneg p (show n≠0 by omega)
 have h4:=Int.emod_lt_of_pos p (show 0<n by omega)
 omega
theorem wrap_mod (p:Int){n:Int}(h:Cap n):wrap64 (p % n)=p % n:=by
 have:=mod_cap p h
 unfold wrap64
 omega
theorem slotOf_any (p n:Int)(hp:0≤p)(hn:Cap n)(w:World) :
  Calls prog 147 #[.int .u64 p,.int .i64 n] w fun e w'=>e=.returned (.int .i64 (p % n))∧w=w':=by
 have h1:=hn.1
 have h2:=hn.2
 have hw:=wrap_cap hn
 have hm:=wrap_mod p hn
 go_enter func147,ntmps147
 go_wp2
 all_goals go_ret
 all_goals (refine⟨?_,rfl⟩)
 all_goals simp[hm]
abbrev pairI (x:Int × Int):Value:=.tuple #[.int .i64 x.1,.int .i64 x.2]
theorem slot_any (p n:Int)(h0:0≤p)(w:World) :
  Calls prog 128 #[.int .u64 p,.int .i64 n] w fun e w'=>e=.returned (pairI (slotS p n))∧w=w':=by
 by_cases hn:Cap n
 ·have hd:=decide_eq_true hn
  by_cases hp:p>4611686018427387968
  ·have hs:Hid (slotS p n=(0,31)):=by show _=_;simp[slotS,hn,hp]
   have hp':4611686018427387968<p:=by omega
   clear hp
   go_enter func128,ntmps128
   go_wp2_with (go_at_call 146;refine (cap_any _ _).mono ?_;rintro e w' ⟨rfl,rfl⟩)
   go_ret2
   exact⟨by rw[hs.out];rfl,rfl⟩
  ·have hs:Hid (slotS p n=(p % n,0)):=by show _=_;simp[slotS,hn,hp]
   have hp':¬4611686018427387968<p:=by omega
   clear hp
   go_enter func128,ntmps128
   go_wp2_with (first | (go_at_call 146;refine (cap_any _ _).mono ?_;rintro e w' ⟨rfl,rfl⟩) | (go_at_call 147;refine (slotOf_any _ _ h0 hn _).mono ?_;rintro e w' ⟨rfl,rfl⟩))
   go_ret2
   exact⟨by rw[hs.out];rfl,rfl⟩
 ·have hd:=decide_eq_false hn
  have hs:Hid (slotS p n=(0,2)):=by show _=_;simp[slotS,hn]
  go_enter func128,ntmps128
  go_wp2_with (go_at_call 146;refine (cap_any _ _).mono ?_;rintro e w' ⟨rfl,rfl⟩)
  go_ret2
  exact⟨by rw[hs.out];rfl,rfl⟩
theorem wrap_u {x:Int}(h0:0≤x)(h1:x<18446744073709551616):IntKind.u64.wrap x=x:=by
 rw[IntKind.wrap_u64];omega
end Go.Proofs.YtdadpepfpiimgaaGreatDoor.G
namespace Go.Proofs.YtdadpepfpiimgaaGreatDoor.R
structure Rec where
 kind:Int
 pos:Int
 block:Int
 val:List Int
 images:Int
def zs (n:Nat):List Int:=List.replicate n 0
theorem zs_len (n:Nat):(zs n).length=n:=by simp[zs]
theorem zs_bytes (n:Nat):Bytes (zs n):=fun x hx=>by
 rw[List.eq_of_mem_replicate hx];omega
def rec0:Rec:=⟨0,0,0,zs 32,0⟩
structure Rec.Wf (r:Rec):Prop where
 k0:-9223372036854775808≤r.kind
 k1:r.kind≤9223372036854775807
 p0:0≤r.pos
 p1:r.pos≤18446744073709551615
 b0:-9223372036854775808≤r.block
 b1:r.block≤9223372036854775807
 i0:-9223372036854775808≤r.images
 i1:r.images≤9223372036854775807
 len:r.val.length=32
 byte:Bytes r.val
def isImage (r:Rec):Prop:=r.kind=1∧0≤r.block∧r.block<64∧r.images=0
def isCommit (r:Rec):Prop:=r.kind=2∧0≤r.images∧r.images≤16∧r.block=0∧r.val=zs 32
def imageB (r:Rec):Bool:=r.kind == 1 && (decide (0≤r.block) && (decide (r.block<64) && r.images == 0))
def commitB (r:Rec):Bool:=r.kind == 2 && (decide (0≤r.images) && (decide (r.images≤16) && (r.block == 0 && decide (r.val=zs 32))))
theorem imageB_iff (r:Rec):imageB r=true↔isImage r:=by simp[imageB,isImage]
theorem commitB_iff (r:Rec):commitB r=true↔isCommit r:=by simp[commitB,isCommit]
def may (r:Rec):Bool:=decide (r.pos≤4611686018427387904) && (imageB r || commitB r)
theorem may_iff (r:Rec):may r=true↔r.pos≤4611686018427387904∧(isImage r∨isCommit r):=by
 simp[may,← imageB_iff,← commitB_iff]
def chk (r:Rec):Int:=if may r then 0 else 60
def numS (r:Rec):Int:=if r.kind=1 then r.block else r.images
theorem numS_bd (r:Rec)(h:may r=true):0≤numS r∧numS r<64:=by
 rw[may_iff] at h
 unfold numS
 rcases h.2 with h2 | h2
 ·rw[if_pos h2.1];exact⟨h2.2.1,h2.2.2.1⟩
 ·have:=h2.1
  rw[if_neg (by omega)];have:=h2.2.1;have:=h2.2.2.1;omega
def head (r:Rec):List Int:=[87]++[r.kind]++[0,0]++digits 8 r.pos++digits 4 (numS r)++r.val
def body (r:Rec):List Int:=head r++zs 12
def encS (r:Rec):List Int:=body r++digits 4 (crc (body r):Nat)
theorem head_len (r:Rec)(h:r.val.length=32):(head r).length=48:=by simp[head,digits_length,h]
theorem body_len (r:Rec)(h:r.val.length=32):(body r).length=60:=by simp[body,head_len r h,zs_len]
theorem encS_len (r:Rec)(h:r.val.length=32):(encS r).length=64:=by simp[encS,body_len r h,digits_length]
theorem may_kind {r:Rec}(h:may r=true):r.kind=1∨r.kind=2:=by
 rw[may_iff] at h
 rcases h.2 with h2 | h2
 ·exact .inl h2.1
 ·exact .inr h2.1
theorem head_bytes (r:Rec)(hw:r.Wf)(h:may r=true):Bytes (head r):=by
 have hk:=may_kind h
 unfold head
 refine Bytes.append (Bytes.append (Bytes.append (Bytes.append (Bytes.append ?_ ?_) ?_) (digits_bytes _ _)) (digits_bytes _ _)) hw.byte
 ·intro x hx;simp at hx;omega
 ·intro x hx;simp at hx;omega
 ·intro x hx;simp at hx;omega
theorem body_bytes (r:Rec)(hw:r.Wf)(h:may r=true):Bytes (body r):=(head_bytes r hw h).append (zs_bytes 12)
def readS (bs:List Int):Rec :=
 ⟨bs.getD 1 0,worth ((bs.drop 4).take 8),if bs.getD 1 0=1 then worth ((bs.drop 12).take 4) else 0,(bs.drop 16).take 32,if bs.getD 1 0=1 then 0 else worth ((bs.drop 12).take 4)⟩
theorem readS_wf (bs:List Int)(hb:Bytes bs)(hl:bs.length=64):(readS bs).Wf:=by
 have h1:0≤bs.getD 1 0∧bs.getD 1 0<256:=by
  rw[show bs.getD 1 0=bs[1]'(by omega) by simp[List.getD,List.getElem?_eq_getElem (show 1<bs.length by omega)]]
  exact hb.at 1 (by omega)
 have h2:=worth_bd ((bs.drop 4).take 8) ((hb.drop 4).take 8)
 have h3:=worth_bd ((bs.drop 12).take 4) ((hb.drop 12).take 4)
 rw[show ((bs.drop 4).take 8).length=8 by simp;omega] at h2
 rw[show ((bs.drop 12).take 4).length=4 by simp;omega] at h3
 have e8:(256:Int) ^ 8=18446744073709551616:=by decide
 have e4:(256:Int) ^ 4=4294967296:=by decide
 rw[e8] at h2
 rw[e4] at h3
 have h5:((bs.drop 16).take 32).length=32:=by simp;omega
 have h6:=(hb.drop 16).take 32
 unfold readS
 generalize bs.getD 1 0=q at *
 generalize worth ((bs.drop 4).take 8)=u at *
 generalize worth ((bs.drop 12).take 4)=v at *
 generalize (bs.drop 16).take 32=l at *
 refine⟨?_,?_,?_,?_,?_,?_,?_,?_,h5,h6⟩ <;> dsimp only <;> (try split) <;> omega
def goodB (bs:List Int):Bool:=may (readS bs) && decide (encS (readS bs)=bs)
def decS (bs:List Int):Rec × Int:=if bs.length≠64 then (rec0,2) else if goodB bs then (readS bs,0) else (rec0,60)
theorem decS_len (bs:List Int)(h:bs.length≠64):decS bs=(rec0,2):=if_pos h
theorem decS_ok (bs:List Int)(h:bs.length=64)(hg:goodB bs=true):decS bs=(readS bs,0):=by unfold decS;rw[if_neg (by omega),if_pos hg]
theorem decS_bad (bs:List Int)(h:bs.length=64)(hg:¬goodB bs=true):decS bs=(rec0,60):=by unfold decS;rw[if_neg (by omega),if_neg hg]
open Go.Proofs.Tryz Go.RowKit
theorem size31:(prog.info? 139).map (·.size)=some 36:=by kernel_rfl
theorem size24:(prog.info? 39).map (·.size)=some 32:=by kernel_rfl
def rcells (r:Rec):List Value:=.int .i64 r.kind :: .int .u64 r.pos :: .int .i64 r.block :: (U8 r.val++[.int .i64 r.images])
theorem rcells_len (r:Rec)(h:r.val.length=32):(rcells r).length=36:=by simp[rcells,h]
theorem rcells_ones (r:Rec):∀v∈rcells r,v.oneCell'=true:=by
 intro v hv
 simp only[rcells,List.mem_cons,List.mem_append,List.not_mem_nil,or_false] at hv
 rcases hv with rfl | rfl | rfl | hv | rfl
 ·rfl
 ·rfl
 ·rfl
 ·exact ones_u8 _ v hv
 ·rfl
theorem rcells_all (r:Rec):(rcells r).toArray.all (·.oneCell')=true:=all_oneCell_toArray (rcells_ones r)
theorem rcells_val (r:Rec)(j:Nat)(hj:j<r.val.length):(rcells r)[3+j]?=some (.int .u8 r.val[j]):=by
 rw[rcells,show 3+j=j+1+1+1 by omega,List.getElem?_cons_succ,List.getElem?_cons_succ,List.getElem?_cons_succ,List.getElem?_append_left (by simpa using hj)]
 simp[List.getElem?_eq_getElem hj]
theorem rcells_35 (r:Rec)(h:r.val.length=32):(rcells r)[35]?=some (.int .i64 r.images):=by
 rw[rcells,List.getElem?_cons_succ,List.getElem?_cons_succ,List.getElem?_cons_succ,List.getElem?_append_right (by simp[h])]
 simp[h]
def RAt (t:TypeId)(w:World)(g:Nat)(r:Rec):Prop:=w.heap[g]?=some (.cells (rcells r).toArray t (0,0))
theorem RAt.lt {t:TypeId}{w:World}{g:Nat}{r:Rec}(h:RAt t w g r):g<w.heap.size:=(Array.getElem?_eq_some_iff.1 h).1
theorem RAt.later {t:TypeId}{w w':World}{g:Nat}{r:Rec}(h:RAt t w g r)(hb:Below w.heap.size w w'):RAt t w' g r:=(hb.block g h.lt).trans h
theorem RAt.below {t:TypeId}{B:Nat}{w w':World}{g:Nat}{r:Rec}(h:RAt t w g r)(hb:Below B w w')(hg:g<B):RAt t w' g r:=(hb.block g hg).trans h
theorem RAt.new (t:TypeId)(w:World)(r:Rec):RAt t (w.alloc (.cells (rcells r).toArray t)) w.heap.size r:=heap_alloc_new w _
theorem RAt.drew {t:TypeId}{w:World}{g:Nat}{r:Rec}(h:RAt t w g r):RAt t w.drew g r:=h
theorem RAt.cell {t:TypeId}{w:World}{g:Nat}{r:Rec}(h:RAt t w g r)(j:Nat):w.cell? ⟨g,j,none⟩=(rcells r)[j]?:=by
 rw[cell_of_row w g j (rcells r).toArray t (0,0) h];simp
theorem RAt.c0 {t:TypeId}{w:World}{g:Nat}{r:Rec}(h:RAt t w g r):w.cell? ⟨g,0,none⟩=some (.int .i64 r.kind):=h.cell 0
theorem RAt.c1 {t:TypeId}{w:World}{g:Nat}{r:Rec}(h:RAt t w g r):w.cell? ⟨g,1,none⟩=some (.int .u64 r.pos):=h.cell 1
theorem RAt.c2 {t:TypeId}{w:World}{g:Nat}{r:Rec}(h:RAt t w g r):w.cell? ⟨g,2,none⟩=some (.int .i64 r.block):=h.cell 2
theorem RAt.c35 {t:TypeId}{w:World}{g:Nat}{r:Rec}(h:RAt t w g r)(hv:r.val.length=32):w.cell? ⟨g,35,none⟩=some (.int .i64 r.images):=(h.cell 35).trans (rcells_35 r hv)
theorem RAt.range {t:TypeId}{w:World}{g:Nat}{r:Rec}(h:RAt t w g r):w.rangeAt g 0 (rcells r):=fun j v hv=>by
 rw[Nat.zero_add,h.cell j];exact hv
theorem RAt.vrange {t:TypeId}{w:World}{g:Nat}{r:Rec}(h:RAt t w g r):w.rangeAt g 3 (U8 r.val):=fun j v hv=>by
 have hj:j<r.val.length:=by simpa using (List.getElem?_eq_some_iff.1 hv).1
 rw[h.cell (3+j),rcells_val r j hj,← hv]
 simp[List.getElem?_eq_getElem hj]
theorem RAt.load31 {t:TypeId}{w:World}{g:Nat}{r:Rec}(h:RAt t w g r)(hv:r.val.length=32):(Instr.loadAt 139 (.pointer (some ⟨g,0,none⟩))).run prog w=.ok (.agg (rcells r).toArray) w :=
 run_loadAt_mid w g 0 139 (rcells r) _ h.range underlying139 rfl (by rw[size31,rcells_len r hv])
theorem RAt.load24 {t:TypeId}{w:World}{g:Nat}{r:Rec}(h:RAt t w g r)(hv:r.val.length=32):(Instr.loadAt 39 (.pointer (some ⟨g,3,none⟩))).run prog w=.ok (.agg (U8 r.val).toArray) w :=
 run_loadAt_mid w g 3 39 (U8 r.val) _ h.vrange underlying39 rfl (by rw[size24,U8_length,hv])
def pl:List (Nat × Nat):=[(0,1),(1,1),(2,1),(3,32),(35,1)]
theorem places31:placesOf prog 139=some pl:=by kernel_rfl
theorem zero31:(prog.info? 139).bind (·.zero)=some (.agg (rcells rec0).toArray):=by kernel_rfl
theorem fill_step (off n:Nat)(i:Nat)(hp:pl.toArray[i]?=some (off,n))(v:Value)(vs cs:List Value)(hv:v.cells=vs.toArray)(hn:vs.length=n)(hl:off+n≤cs.length)(rest:List (Nat × Value)) :
  Instr.fill (pl.toArray[·]?) cs.toArray ((i,v) :: rest)=Instr.fill (pl.toArray[·]?) (cs.take off++vs++cs.drop (off+vs.length)).toArray rest:=by
 have a0:=part_fill off vs cs (by omega)
 have a1:vs.toArray.zipIdx.foldl (fun cs x=>match x with | (c,j)=>cs.setIfInBounds (off+j) c) cs.toArray=(cs.take off++vs++cs.drop (off+vs.length)).toArray:=a0
 simp only[Instr.fill]
 rw[hp]
 dsimp only
 rw[hv]
 simp only[List.size_toArray]
 rw[if_neg (by simp[hn];omega),a1]
theorem fill_k (r:Rec)(h:r.val.length=32)(k:Int)(rest:List (Nat × Value)):Instr.fill (pl.toArray[·]?) (rcells r).toArray ((0,.int .i64 k) :: rest)=Instr.fill (pl.toArray[·]?) (rcells ⟨k,r.pos,r.block,r.val,r.images⟩).toArray rest :=
 fill_step 0 1 0 rfl _ [.int .i64 k] _ rfl rfl (by rw[rcells_len r h];omega) rest
theorem fill_p (r:Rec)(h:r.val.length=32)(k:Int)(rest:List (Nat × Value)):Instr.fill (pl.toArray[·]?) (rcells r).toArray ((1,.int .u64 k) :: rest)=Instr.fill (pl.toArray[·]?) (rcells ⟨r.kind,k,r.block,r.val,r.images⟩).toArray rest :=
 fill_step 1 1 1 rfl _ [.int .u64 k] _ rfl rfl (by rw[rcells_len r h];omega) rest
theorem build31 (w:World)(parts:Array (Nat × Value))(r:Rec)(h:Instr.fill (pl.toArray[·]?) (rcells rec0).toArray parts.toList=some (rcells r).toArray):(Instr.build 139 parts).run prog w=.ok (.agg (rcells r).toArray) w :=
 run_build w 139 _ _ ((built_of 139 _ _ _ places31 zero31).trans h)
theorem rec0_len:rec0.val.length=32:=zs_len 32
theorem sizeOf5 (w:World):(sizeOf 5).run prog w=.ok 1 w:=by
 cases hi:prog.info? 5 with
 | none=>have:=size5;simp[hi] at this
 | some i =>
  have h:=size5
  simp only[hi,Option.map_some,Option.some.injEq] at h
  simp[sizeOf,typeInfo,hi,h]
theorem all_range_eq:∀(xs ys:List Int),xs.length=ys.length→((List.range xs.length).all fun i=>xs.getD i 0 == ys.getD i 0)=decide (xs=ys)
 | [],[],_=>rfl
 | x :: xs,y :: ys,h=>by
  have ih:=all_range_eq xs ys (by simpa using h)
  rw[List.length_cons,List.range_succ_eq_map,List.all_cons,List.all_map]
  simp only[List.getD_cons_zero,Function.comp_def,List.getD_cons_succ,ih]
  rw[Bool.eq_iff_iff]
  simp
 | [],_ :: _,h=>by simp at h
 | _ :: _,[],h=>by simp at h
theorem equal24 (w:World)(d:Nat)(xs ys:List Int)(hx:xs.length=32)(hy:ys.length=32) :
  (Op.equalIn (d+2) 39 (.agg (U8 xs).toArray) (.agg (U8 ys).toArray)).run prog w=.ok (decide (xs=ys)) w:=by
 rw[← all_range_eq xs ys (hx.trans hy.symm),hx,List.range_eq_range',Op.equalIn]
 simp only[Sem.run_bind,run_underlying underlying39,Result.andThen_ok,sizeOf5,Std.Legacy.Range.forIn_eq_forIn_range',Std.Legacy.Range.size,Nat.sub_zero,Nat.add_sub_cancel,Nat.div_one]
 have hl:∀i∈List.range' 0 32 1,i<32:=fun i hi=>by simpa using (List.mem_range'_1.1 hi).2
 generalize List.range' 0 32 1=l at hl ⊢
 induction l with
 | nil=>simp
 | cons i l ih =>
  have hi:i<32:=hl i (by simp)
  have px:(part 5 (U8 xs).toArray (i*1)).run prog w=.ok (.int .u8 (xs.getD i 0)) w:=by
   simp[part,isAgg,run_underlying underlying5,List.getD,List.getElem?_eq_getElem (show i<xs.length by omega)]
  have py:(part 5 (U8 ys).toArray (i*1)).run prog w=.ok (.int .u8 (ys.getD i 0)) w:=by
   simp[part,isAgg,run_underlying underlying5,List.getD,List.getElem?_eq_getElem (show i<ys.length by omega)]
  have pe:(Op.equalIn (d+1) 5 (.int .u8 (xs.getD i 0)) (.int .u8 (ys.getD i 0))).run prog w=.ok (xs.getD i 0 == ys.getD i 0) w:=run_equalIn_int w d 5 .u8 .u8 _ _ underlying5
  simp only[List.forIn_cons,Sem.run_bind,px,py,pe,Result.andThen_ok,List.all_cons]
  cases hb:(xs.getD i 0 == ys.getD i 0)
  ·simp
  ·simp only[Bool.not_true,Bool.false_eq_true,if_false,Sem.run_pure,Result.andThen_ok,Bool.true_and]
   exact ih fun j hj=>hl j (by simp[hj])
theorem eql24 (w:World)(xs ys:List Int)(hx:xs.length=32)(hy:ys.length=32) :
  (binOp .eql 39 (.agg (U8 xs).toArray) (.agg (U8 ys).toArray)).run prog w=.ok (.bool (decide (xs=ys))) w:=by
 rw[run_eql_struct,equal24 w 9998 xs ys hx hy]
 rfl
theorem eqg24:prog.eqGuardType prog.depth 39=false:=by kernel_rfl
theorem build24 (w:World):(Instr.build 39 #[]).run prog w=.ok (.agg (U8 (zs 32)).toArray) w:=run_build w 39 _ _ (by kernel_rfl)
theorem alloc31 (w:World):(Instr.alloc 139 true (.tuple #[])).run prog w=.ok (.pointer (some ⟨w.heap.size,0,none⟩)) (w.alloc (.cells (rcells rec0).toArray 139)):=by
 simp only[Instr.alloc,Sem.run_bind,zv 139 _ zero31,Result.andThen_ok]
 simp[newVar,newRow,Value.cells]
theorem RAt.store {t:TypeId}(ht:(prog.info? t).map (·.size)=some 36){w:World}{g:Nat}{r s:Rec}(h:RAt t w g r)(hr:r.val.length=32)(hs:s.val.length=32) :
  (Instr.storeAt t (.pointer (some ⟨g,0,none⟩)) (.agg (rcells s).toArray)).run prog w=.ok () (w.setRow g (rcells s).toArray):=by
 simp only[Instr.storeAt,Instr.sureAddr,Sem.run_bind,Sem.run_pure,Result.andThen_ok,run_storeVar_row w g t t (rcells r).toArray (rcells s).toArray h (by rw[ht,List.size_toArray,rcells_len s hs]) (by rw[List.size_toArray,List.size_toArray,rcells_len s hs,rcells_len r hr]) (rcells_all s)]
theorem RAt.stored {t:TypeId}{w:World}{g:Nat}{r:Rec}(h:RAt t w g r)(s:Rec):RAt t (w.setRow g (rcells s).toArray) g s:=setRow_heap w g _ _ t (0,0) h
theorem store_new {t:TypeId}(ht:(prog.info? t).map (·.size)=some 36)(w:World)(s:Rec)(hs:s.val.length=32) :
  (Instr.storeAt t (.pointer (some ⟨w.heap.size,0,none⟩)) (.agg (rcells s).toArray)).run prog (w.alloc (.cells (rcells rec0).toArray t))=.ok () (w.alloc (.cells (rcells s).toArray t)):=by
 rw[RAt.store ht (RAt.new t w rec0) rec0_len hs,setRow_alloc]
theorem results_rec {fn:Func}{p u:Tmp}{ty:TypeId}(h:fn.results=#[.cell p ty,.tmp u])(tmps:Array Value)(w:World)(g:Nat)(t:TypeId)(r:Rec)(d:TypeDesc)
  (hp:tmps.getD p undef=.pointer (some ⟨g,0,none⟩)) (hg:RAt t w g r) (hv:r.val.length=32) (hu:prog.underlying ty=some d) (hd:d.isRow=true) (hi:(prog.info? ty).map (·.size)=some 36) :
  (results fn tmps).run prog w=.ok (.tuple #[.agg (rcells r).toArray,tmps.getD u undef]) w:=by
 rw[results_cell_tmp h,hp]
 simp only[asAddr,Sem.run_pure,Result.andThen_ok,run_loadVar_mid w g 0 ty _ d hg.range hu hd (by rw[hi,rcells_len r hv])]
theorem results_cell1 {fn:Func}{p:Tmp}{ty:TypeId}(h:fn.results=#[.cell p ty])(tmps:Array Value)(w:World)(g:Nat)(t:TypeId)(r:Rec)(d:TypeDesc)
  (hp:tmps.getD p undef=.pointer (some ⟨g,0,none⟩)) (hg:RAt t w g r) (hv:r.val.length=32) (hu:prog.underlying ty=some d) (hd:d.isRow=true) (hi:(prog.info? ty).map (·.size)=some 36) :
  (results fn tmps).run prog w=.ok (.agg (rcells r).toArray) w:=by
 have hp':tmps[p]?.getD undef=.pointer (some ⟨g,0,none⟩):=by simpa using hp
 simp[results,h,hp',asAddr,run_loadVar_mid w g 0 ty _ d hg.range hu hd (by rw[hi,rcells_len r hv])]
theorem image_any (r:Rec)(hv:r.val.length=32)(w:World) :
  Calls prog 136 #[.agg (rcells r).toArray] w fun e w'=>e=.returned (.bool (imageB r))∧Below w.heap.size w w':=by
 have hA:=RAt.new 139 w r
 have c0:=hA.c0
 have c2:=hA.c2
 have c4:=hA.c35 hv
 have HB:Hid (Below w.heap.size w (w.alloc (.cells (rcells r).toArray 139))):=below_alloc w _
 clear hA hv
 go_enter func136,ntmps136
 go_wp2
 all_goals go_ret
 all_goals (refine⟨?_,HB.out⟩)
 all_goals (clear c0 c2 c4;unfold imageB;simp_all <;> (intros;omega))
theorem commit_any (r:Rec)(hv:r.val.length=32)(w:World) :
  Calls prog 137 #[.agg (rcells r).toArray] w fun e w'=>e=.returned (.bool (commitB r))∧Below w.heap.size w w':=by
 have hA:=RAt.new 139 w r
 have c0:=hA.c0
 have c2:=hA.c2
 have c4:=hA.c35 hv
 have L3:Hid (_):=hA.load24 hv
 have B3:Hid (_):=build24 (w.alloc (.cells (rcells r).toArray 139))
 have Q3:Hid (_):=eql24 (w.alloc (.cells (rcells r).toArray 139)) r.val (zs 32) hv (zs_len 32)
 have HB:Hid (Below w.heap.size w (w.alloc (.cells (rcells r).toArray 139))):=below_alloc w _
 clear hA hv
 go_enter func137,ntmps137
 go_wp2_with (first | (refine wpList_load_is (by rfl) 39 rfl rfl L3.out ?_) | (refine wpList_build_is (by rfl) 39 rfl rfl B3.out ?_) | (refine wpList_eql_is (by rfl) 39 rfl rfl rfl eqg24 Q3.out ?_))
 all_goals go_ret
 all_goals (refine⟨?_,HB.out⟩)
 all_goals (clear c0 c2 c4 L3 B3 Q3;unfold commitB;simp_all <;> (intros;omega))
theorem chk_image (r:Rec)(hp:r.pos≤4611686018427387904)(h:imageB r=true):chk r=0:=by
 unfold chk may;rw[h,decide_eq_true hp];rfl
theorem chk_commit (r:Rec)(hp:r.pos≤4611686018427387904)(h:commitB r=true):chk r=0:=by
 unfold chk may;rw[h,decide_eq_true hp];simp
theorem chk_none (r:Rec)(h:imageB r=false)(h2:commitB r=false):chk r=60:=by
 unfold chk may;rw[h,h2];simp
theorem chk_pos (r:Rec)(hp:¬r.pos≤4611686018427387904):chk r=60:=by
 unfold chk may;rw[decide_eq_false hp];rfl
theorem check_any (r:Rec)(hv:r.val.length=32)(w:World) :
  Calls prog 117 #[.agg (rcells r).toArray] w fun e w'=>e=.returned (.int .i64 (chk r))∧Below w.heap.size w w':=by
 have hA:=RAt.new 139 w r
 have c1:=hA.c1
 have L1:Hid (_):=hA.load31 hv
 have HA:Hid (RAt 139 (w.alloc (.cells (rcells r).toArray 139)) w.heap.size r):=hA
 have HB:Hid (Below w.heap.size w (w.alloc (.cells (rcells r).toArray 139))):=below_alloc w _
 have HV:Hid (r.val.length=32):=hv
 clear hA hv
 go_enter func117,ntmps117
 by_cases hp:r.pos≤4611686018427387904
 ·have hp':¬4611686018427387904<r.pos:=by omega
  go_wp2_with (refine wpList_load_is (by rfl) 139 rfl rfl L1.out ?_)
  refine (image_any r HV.out _).mono ?_
  rintro e w1 ⟨rfl,b1⟩
  have HA1:Hid (RAt 139 w1 w.heap.size r):=HA.out.later b1
  have HB1:Hid (Below w.heap.size w w1):=below_then HB.out b1
  have L2:Hid (_):=HA1.out.load31 HV.out
  clear c1 L1 b1 HA HB
  cases hi:imageB r with
  | true =>
   have HC:Hid (chk r=0):=chk_image r hp hi
   go_wp2_with fail
   go_ret
   exact⟨by rw[HC.out];rfl,HB1.out⟩
  | false =>
   go_wp2_with (refine wpList_load_is (by rfl) 139 rfl rfl L2.out ?_)
   refine (commit_any r HV.out _).mono ?_
   rintro e w2 ⟨rfl,b2⟩
   have HB2:Hid (Below w.heap.size w w2):=below_then HB1.out b2
   clear b2 L2
   cases hc:commitB r with
   | true =>
    have HC:Hid (chk r=0):=chk_commit r hp hc
    go_wp2_with fail
    go_ret
    exact⟨by rw[HC.out];rfl,HB2.out⟩
   | false =>
    have HC:Hid (chk r=60):=chk_none r hi hc
    go_wp2_with fail
    go_ret
    exact⟨by rw[HC.out];rfl,HB2.out⟩
 ·have HC:Hid (chk r=60):=chk_pos r hp
  have hp':4611686018427387904<r.pos:=by omega
  go_wp2_with fail
  go_ret
  exact⟨by rw[HC.out];rfl,HB.out⟩
theorem number_rec (r:Rec)(hv:r.val.length=32)(hm:may r=true)(w:World) :
  Calls prog 119 #[.agg (rcells r).toArray] w fun e w'=>e=.returned (.int .u64 (numS r))∧Below w.heap.size w w':=by
 have hA:=RAt.new 139 w r
 have c0:=hA.c0
 have c2:=hA.c2
 have c4:=hA.c35 hv
 have HB:Hid (Below w.heap.size w (w.alloc (.cells (rcells r).toArray 139))):=below_alloc w _
 have hn:=numS_bd r hm
 clear hA hv
 by_cases hk:r.kind=1
 ·have e:numS r=r.block:=by unfold numS;rw[if_pos hk]
  rw[e] at hn ⊢
  obtain ⟨h0,h1⟩:=hn
  clear hm e
  go_enter func119,ntmps119
  go_wp2
  go_ret
  exact⟨rfl,HB.out⟩
 ·have e:numS r=r.images:=by unfold numS;rw[if_neg hk]
  rw[e] at hn ⊢
  obtain ⟨h0,h1⟩:=hn
  clear hm e
  go_enter func119,ntmps119
  go_wp2
  go_ret
  exact⟨rfl,HB.out⟩
theorem rput_any (n:Int)(k:Nat)(w:World)(hn0:0≤n)(hk:1≤k∧k≤8)(hn:n / 256 ^ k=0) :
  Calls prog 118 #[.int .u64 n,.int .i64 k] w fun e w'=>∃p c,e=.returned (.slice p k c)∧Made w w' p k c (digits k n):=by
 go_enter func118,ntmps118
 go_wp2_with fail
 refine (put_ok n k w hn0 hk hn).mono ?_
 rintro e w1 ⟨v,rfl,ho,hb⟩
 obtain ⟨p,c,rfl,hm⟩:=made_of ho (digits_bytes k n) hb
 clear ho hb hn
 go_wp2_with fail
 go_ret
 exact⟨p,c,rfl,hm⟩
theorem RAt.vin {t:TypeId}{w:World}{g:Nat}{r:Rec}(h:RAt t w g r)(hw:r.Wf):BIn w (some ⟨g,3,none⟩) 32 r.val:=by
 refine⟨hw.len,hw.byte,fun _=>⟨g,3,rfl,fun i hi=>?_⟩⟩
 have hi':i<r.val.length:=by rw[hw.len];exact hi
 rw[h.cell (3+i),rcells_val r i hi']
 simp[List.getD,List.getElem?_eq_getElem hi']
theorem join_new {w:World}{vs:List Value}{ls:List (List Int)}(h:SIns w vs ls)(n:Nat)(hn:vs.length=n)(hb:ls.flatten.length≤100000)(hn2:n≤100) :
  Calls prog 82 #[.slice (some ⟨w.heap.size,0,none⟩) n n] (w.alloc (.cells vs.toArray 27)) fun e w'=>∃p c,e=.returned (.slice p ls.flatten.length c)∧Made w w' p ls.flatten.length c ls.flatten:=by
 have hB:∀l∈ls,Bytes l:=by
  intro l hl
  obtain ⟨i,hi,rfl⟩:=List.getElem_of_mem hl
  obtain ⟨_,_,_,_,h1,_⟩:=h.at i (by rw[← h.len];exact hi) hi
  exact h1.byte
 refine (join_any _ n n vs ls _ (pin_new h n hn) (by omega) (by omega)).mono ?_
 rintro e w' ⟨v,rfl,ho,hb2⟩
 exact (made_of (own_mono ho (by simp)) (Bytes.flatten hB) (below_of_alloc hb2)).elim fun p ⟨c,e,m⟩=>⟨p,c,by rw[e],m⟩
theorem dig1 (k:Int)(h0:0≤k)(h1:k<256):digits 1 k=[k]:=by
 simp only[digits];rw[Int.emod_eq_of_lt h0 h1]
theorem div_zero (n m:Int)(h0:0≤n)(h1:n<m):n / m=0:=Int.ediv_eq_zero_of_lt h0 h1
theorem div1 (n:Int)(h0:0≤n)(h1:n<256):n / 256 ^ 1=0:=div_zero _ _ h0 (by rw[show (256:Int) ^ 1=256 by decide];omega)
theorem div8 (n:Int)(h0:0≤n)(h1:n≤18446744073709551615):n / 256 ^ 8=0:=div_zero _ _ h0 (by rw[show (256:Int) ^ 8=18446744073709551616 by decide];omega)
theorem div4 (n:Int)(h0:0≤n)(h1:n<4294967296):n / 256 ^ 4=0:=div_zero _ _ h0 (by rw[show (256:Int) ^ 4=4294967296 by decide];omega)
def encT (r:Rec):List Int:=if may r=true then encS r else []
theorem encT_yes (r:Rec)(h:may r=true):encT r=encS r:=if_pos h
theorem encT_no (r:Rec)(h:¬may r=true):encT r=[]:=if_neg h
theorem chk_yes (r:Rec)(h:may r=true):chk r=0:=by unfold chk;rw[if_pos h]
theorem chk_no (r:Rec)(h:¬may r=true):chk r=60:=by unfold chk;rw[if_neg h]
theorem encode_bad (r:Rec)(hv:r.val.length=32)(hm:¬may r=true)(w:World) :
  Calls prog 93 #[.agg (rcells r).toArray] w fun e w'=>e=.returned (.tuple #[.slice none 0 0,.int .i64 60])∧Below w.heap.size w w':=by
 have L1:Hid (_):=(RAt.new 139 w r).load31 hv
 have hc:=chk_no r hm
 go_enter func93,ntmps93
 go_wp2_with (refine wpList_load_is (by rfl) 139 rfl rfl L1.out ?_)
 refine (check_any r hv _).mono ?_
 rintro e w1 ⟨rfl,b1⟩
 rw[hc]
 have HB:Hid (Below w.heap.size w w1):=below_of_alloc b1
 clear b1 L1 hm hc
 go_wp2_with fail
 go_ret2
 exact⟨rfl,HB.out⟩
theorem encode_good (r:Rec)(hw:r.Wf)(hm:may r=true)(w:World)(ht:Half w) :
  Calls prog 93 #[.agg (rcells r).toArray] w fun e w'=>∃p c,e=.returned (.tuple #[.slice p 64 c,.int .i64 0])∧Made w w' p 64 c (encS r):=by
 have HW:Hid (r.Wf):=hw
 have HM:Hid (may r=true):=hm
 have L1:Hid (_):=(RAt.new 139 w r).load31 hw.len
 have hc:=chk_yes r hm
 have HT:Hid (Half w):=ht
 have HN:Hid (0≤numS r∧numS r<64):=numS_bd r hm
 have HK:Hid (0≤r.kind∧r.kind<256):=by have:=may_kind hm;exact⟨by omega,by omega⟩
 have HP:Hid (0≤r.pos∧r.pos≤18446744073709551615):=⟨hw.p0,hw.p1⟩
 go_enter func93,ntmps93
 go_wp2_with (refine wpList_load_is (by rfl) 139 rfl rfl L1.out ?_)
 refine (check_any r hw.len _).mono ?_
 rintro e w1 ⟨rfl,b1⟩
 rw[hc]
 have HB1:Hid (Below w.heap.size w w1):=below_of_alloc b1
 have HA1:Hid (RAt 139 w1 w.heap.size r):=(RAt.new 139 w r).later b1
 clear b1 L1 hm hc hw ht
 go_wp2_with fail
 have k0:=HK.out.1
 have k1:=HK.out.2
 have ks:IntKind.u64.wrap r.kind=r.kind:=by rw[IntKind.wrap_u64];omega
 refine wp_region_noPanic ?_
 refine wp_region_held_drew (S:=fun w'=>RAt 139 w' w.heap.size r) (by kernel_rfl) HA1.out.drew (fun hHeld=>?_)
 refine tk 1 hHeld ?_
 refine tkl 2 hHeld (fun _ hSw=>RAt.c0 hSw) ?_
 refine tk 3 hHeld ?_
 refine tk 6 hHeld ?_
 refine tkl 7 hHeld (fun _ hSw=>RAt.c1 hSw) ?_
 refine wpAnyH_take (i:=9) (v:=_) (by simp;rfl) (by kernel_rfl) (by kernel_rfl) (by kernel_rfl) (fun _ _ _ h=>h) (yieldsIf_load_mid (by rfl) 139 (.tmp 1) rfl w.heap.size 0 rfl (rcells r) _ (fun _ h=>RAt.range h) underlying139 rfl (by rw[size31,rcells_len r HW.out.len])) hHeld ?_
 simp only[Act.put,zA,zB,zC]
 refine tk 12 hHeld ?_
 refine tk 13 hHeld ?_
 refine wpAnyH_ready (rs:=[0]) (by kernel_rfl) (by simp) ?_
 refine AllReadyH.cons (by simp;rfl) (fun Kc hKc=>?_) AllReadyH.nil
 go_simp
 refine (rput_any 87 1 w1.drew (by omega) (by omega) (by decide)).mono ?_
 rintro e w2 ⟨p2,c2,rfl,m2⟩
 have HB2:Hid (Below w1.heap.size w1 w2):=below_undrew m2.below
 have HS2:Hid (SIn w2 (.slice p2 1 c2) [87]):=m2.sin
 have HA2:Hid (RAt 139 w2 w.heap.size r):=HA1.out.later HB2.out
 clear m2
 refine hKc.out _ _ HA2.out (fun hHeld=>?_)
 clear hKc Kc
 refine wpAnyH_ready (rs:=[4]) (by kernel_rfl) (by simp) ?_
 refine AllReadyH.cons (by simp;rfl) (fun Kc hKc=>?_) AllReadyH.nil
 go_simp
 refine (rput_any r.kind 1 w2 k0 (by omega) (div1 _ k0 k1)).mono ?_
 rintro e w3 ⟨p3,c3,rfl,m3⟩
 have HB3:Hid (Below w2.heap.size w2 w3):=m3.below
 have HS3:Hid (SIn w3 (.slice p3 1 c3) [r.kind]):=by have:=m3.sin;rw[dig1 r.kind k0 k1] at this;exact this
 have HA3:Hid (RAt 139 w3 w.heap.size r):=HA2.out.later HB3.out
 clear m3
 refine hKc.out _ _ HA3.out (fun hHeld=>?_)
 clear hKc Kc
 refine wpAnyH_ready (rs:=[5]) (by kernel_rfl) (by simp) ?_
 refine AllReadyH.cons (by simp;rfl) (fun Kc hKc=>?_) AllReadyH.nil
 go_simp
 refine (rput_any 0 2 w3 (by omega) (by omega) (by decide)).mono ?_
 rintro e w4 ⟨p4,c4,rfl,m4⟩
 have HB4:Hid (Below w3.heap.size w3 w4):=m4.below
 have HS4:Hid (SIn w4 (.slice p4 2 c4) [0,0]):=m4.sin
 have HA4:Hid (RAt 139 w4 w.heap.size r):=HA3.out.later HB4.out
 clear m4
 refine hKc.out _ _ HA4.out (fun hHeld=>?_)
 clear hKc Kc
 refine wpAnyH_ready (rs:=[8]) (by kernel_rfl) (by simp) ?_
 refine AllReadyH.cons (by simp;rfl) (fun Kc hKc=>?_) AllReadyH.nil
 go_simp
 refine (rput_any r.pos 8 w4 HP.out.1 (by omega) (div8 _ HP.out.1 HP.out.2)).mono ?_
 rintro e w5 ⟨p5,c5,rfl,m5⟩
 have HB5:Hid (Below w4.heap.size w4 w5):=m5.below
 have HS5:Hid (SIn w5 (.slice p5 8 c5) (digits 8 r.pos)):=m5.sin
 have HA5:Hid (RAt 139 w5 w.heap.size r):=HA4.out.later HB5.out
 clear m5
 refine hKc.out _ _ HA5.out (fun hHeld=>?_)
 clear hKc Kc
 refine wpAnyH_ready (rs:=[10]) (by kernel_rfl) (by simp) ?_
 refine AllReadyH.cons (by simp;rfl) (fun Kc hKc=>?_) AllReadyH.nil
 go_simp
 refine (number_rec r HW.out.len HM.out w5).mono ?_
 rintro e w6 ⟨rfl,b6⟩
 have HB6:Hid (Below w5.heap.size w5 w6):=b6
 have HA6:Hid (RAt 139 w6 w.heap.size r):=HA5.out.later HB6.out
 clear b6
 refine hKc.out _ _ HA6.out (fun hHeld=>?_)
 clear hKc Kc
 refine wpAnyH_ready (rs:=[11]) (by kernel_rfl) (by simp) ?_
 refine AllReadyH.cons (by simp;rfl) (fun Kc hKc=>?_) AllReadyH.nil
 go_simp
 refine (rput_any (numS r) 4 w6 HN.out.1 (by omega) (div4 _ HN.out.1 (by have:=HN.out.2;omega))).mono ?_
 rintro e w7 ⟨p7,c7,rfl,m7⟩
 have HB7:Hid (Below w6.heap.size w6 w7):=m7.below
 have HS7:Hid (SIn w7 (.slice p7 4 c7) (digits 4 (numS r))):=m7.sin
 have HA7:Hid (RAt 139 w7 w.heap.size r):=HA6.out.later HB7.out
 clear m7
 refine hKc.out _ _ HA7.out (fun hHeld=>?_)
 clear hKc Kc
 have B67:=HB7.out
 have B57:=below_then HB6.out B67
 have B47:=below_then HB5.out B57
 have B37:=below_then HB4.out B47
 have B27:=below_then HB3.out B37
 have B17:=below_then HB2.out B27
 have HSS:Hid (SIns w7 [.slice p2 1 c2,.slice p3 1 c3,.slice p4 2 c4,.slice p5 8 c5,.slice p7 4 c7,.slice (some ⟨w.heap.size,3,none⟩) 32 32] [[87],[r.kind],[0,0],digits 8 r.pos,digits 4 (numS r),r.val]) :=
  ⟨HS2.out.later B27,HS3.out.later B37,HS4.out.later B47,HS5.out.later B57,HS7.out,⟨_,_,_,rfl,HA7.out.vin HW.out,Nat.le_refl _,fun e=>by cases e⟩,trivial⟩
 have HF:Hid ([[87],[r.kind],[0,0],digits 8 r.pos,digits 4 (numS r),r.val].flatten=head r):=by show _=_;simp[head]
 have HFL:Hid ((head r).length=48):=head_len r HW.out.len
 have HBW:Hid (Below w.heap.size w w7):=below_then HB1.out B17
 clear B67 B57 B47 B37 B27 B17 HB2 HB3 HB4 HB5 HB6 HB7 HS2 HS3 HS4 HS5 HS7 HA2 HA3 HA4 HA5 HA6 HB1 HA1
 refine wpAnyH_ready (rs:=[14]) (by kernel_rfl) (by simp) ?_
 refine AllReadyH.cons (by simp;rfl) (fun Kc hKc=>?_) AllReadyH.nil
 go_simp
 refine hKc.out _ _ (HA7.out.later (below_alloc w7 _)) (fun hHeld=>?_)
 clear hKc Kc
 refine wpAnyH_ready (rs:=[15]) (by kernel_rfl) (by simp) ?_
 refine AllReadyH.cons (by simp;rfl) (fun Kc hKc=>?_) AllReadyH.nil
 go_simp
 refine (join_new HSS.out 6 rfl (by rw[HF.out,HFL.out];omega) (by omega)).mono ?_
 rintro e w8 ⟨p8,c8,rfl,m8⟩
 rw[HF.out,HFL.out] at m8
 rw[HF.out,HFL.out]
 have HA8:Hid (RAt 139 w8 w.heap.size r):=HA7.out.later m8.below
 have HB8:Hid (Below w.heap.size w w8):=below_then HBW.out m8.below
 have HR8:Hid (BIn w8 p8 48 (head r)):=m8.read
 clear m8 HSS HF HFL HBW HA7
 refine hKc.out _ _ HA8.out (fun hHeld=>?_)
 clear hKc Kc
 refine tk 16 hHeld ?_
 refine wpAnyH_done (by kernel_rfl) (NoPanic.normal ?_) _
 clear hHeld
 go_wp2_with fail
 refine (pad_ok p8 48 c8 (head r) 60 w8 (by omega) (by omega) HR8.out).mono ?_
 rintro e w9 ⟨v9,rfl,ho9,hb9⟩
 obtain ⟨p9,c9,rfl,m9⟩:=made_of ho9 ((head_bytes r HW.out HM.out).append (zs_bytes 12)) hb9
 have HS9:Hid (SIn w9 (.slice p9 60 c9) (body r)):=m9.sin
 have HB9:Hid (Below w.heap.size w w9):=below_then HB8.out hb9
 have HL9:Hid ((body r).length=60):=body_len r HW.out.len
 clear ho9 hb9 m9 HR8 HB8 HA8
 go_wp2_with fail
 refine (of_new p9 60 c9 (body r) HS9.out (by rw[HL9.out];omega) (HT.out.later HB9.out)).mono ?_
 rintro e w10 ⟨rfl,b10⟩
 have HS10:Hid (SIn w10 (.slice p9 60 c9) (body r)):=HS9.out.later b10
 have HB10:Hid (Below w.heap.size w w10):=below_then HB9.out b10
 have hcl:=crc_lt (body r) (body_bytes r HW.out HM.out)
 have HE:Hid (encS r=[body r,digits 4 ((crc (body r):Nat):Int)].flatten):=by show _=_;simp[encS]
 have HEL:Hid ((encS r).length=64):=encS_len r HW.out.len
 clear b10 HS9 HB9
 generalize crc (body r)=S at *
 go_wp2_with fail
 refine (rput_any (S:Int) 4 w10 (by omega) (by omega) (div4 _ (by omega) (by omega))).mono ?_
 rintro e w11 ⟨p11,c11,rfl,m11⟩
 have HSS:Hid (SIns w11 [.slice p9 60 c9,.slice p11 4 c11] [body r,digits 4 (S:Int)]):=⟨HS10.out.later m11.below,m11.sin,trivial⟩
 have HB11:Hid (Below w.heap.size w w11):=below_then HB10.out m11.below
 clear m11 HS10 HB10
 go_wp2_with fail
 refine (join_new HSS.out 2 rfl (by rw[← HE.out,HEL.out];omega) (by omega)).mono ?_
 rintro e w12 ⟨p12,c12,rfl,m12⟩
 rw[← HE.out,HEL.out] at m12
 rw[← HE.out,HEL.out]
 have HM12:Hid (Made w11 w12 p12 64 c12 (encS r)):=m12
 clear m12 HSS
 go_wp2_with fail
 go_ret2
 exact⟨p12,c12,rfl,own_mono HM12.out.own HB11.out.size,HM12.out.read,HM12.out.le,HM12.out.nil,below_then HB11.out HM12.out.below⟩
theorem encode_any (r:Rec)(hw:r.Wf)(w:World)(ht:Half w) :
  Calls prog 93 #[.agg (rcells r).toArray] w fun e w'=>∃p n c,e=.returned (.tuple #[.slice p n c,.int .i64 (chk r)])∧n=(encT r).length∧(may r=true→n=64)∧Made w w' p n c (encT r):=by
 by_cases hm:may r=true
 ·rw[encT_yes r hm,chk_yes r hm]
  refine (encode_good r hw hm w ht).mono ?_
  rintro e w' ⟨p,c,rfl,m⟩
  exact⟨p,64,c,rfl,(encS_len r hw.len).symm,fun _=>rfl,m⟩
 ·rw[encT_no r hm,chk_no r hm]
  refine (encode_bad r hw.len hm w).mono ?_
  rintro e w' ⟨rfl,b⟩
  exact⟨none,0,0,rfl,rfl,fun h=>absurd h hm,World.ownsRow_nil _ _ _ _,BIn.empty,Nat.le_refl _,fun _=>rfl,b⟩
end Go.Proofs.YtdadpepfpiimgaaGreatDoor.R
