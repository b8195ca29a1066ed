import Derived.Test.YtdadpepfpiimgaaGreatDoorK13
set_option maxHeartbeats 20000000
set_option maxRecDepth 100000
namespace Go.Proofs.YtdadpepfpiimgaaGreatDoor
open Go.Proofs.Tryz
open Go.RowKit Go.Shelf
attribute [local go_sem] Oper.semAt_some
theorem own_one {w:World}{B:Nat}{e:TypeId}{sz n:Nat}{v:Value}{xs:List Value}(h:w.ownsRow B e sz v n xs):v.oneCell'=true:=by
 rcases h.2 with ⟨rfl,_⟩ | ⟨g,cap,cur,rfl,_⟩ <;> rfl
theorem lat_not_row {w:World}{k B:Nat}{t e:TypeId}{sz n:Nat}{v:Value}{xs cs:List Value}(h:LAt t w k cs)(hte:t≠e)(hr:w.ownsRow B e sz v n xs):v.ownBlock≠some k:=fun e'=>by
 rcases hr.2 with ⟨rfl,_⟩ | ⟨g,cap,cur,rfl,_,hg,_⟩
 ·cases e'
 ·simp only[Value.ownBlock,Option.some.injEq] at e'
  subst e'
  rw[show w.heap[g]?=_ from h] at hg
  cases hg
  exact hte rfl
theorem grownBy_setRow (w:World)(k:Nat)(cs:Array Value):w.grownBy (w.setRow k cs) (some k):=⟨rfl,rfl,rfl,by rw[size_setRow];exact Nat.le_refl _,fun j _ hj=>setRow_other w k j cs (fun e=>hj (by rw[e]))⟩
theorem RdM.fin {w V:World}{Bd Bc Br Bl Bo Bt Be Bx:Nat}{dp:Option Addr}{c:Sup}{t l e:Int}{s:Sc}{v cv:Value}{vs:List Value}(h:RdM w V Bd Bc Br Bl Bo Bt Be dp c t l e s v vs cv Bx){D:Nat}(hD:Br<D)(hD2:w.heap.size≤D)(hK:V.heap[D]?=some (.deferred (some [])))(hr0:w.heap.size≤Br):(V.setRow Br (gcells t l s.fin v).toArray).heap[D]?=some (.deferred (some []))∧LAt 165 ((V.setRow Br (gcells t l s.fin v).toArray).putObj D (.deferred none)) Br (gcells t l s.fin v)∧XOwn 207 ((V.setRow Br (gcells t l s.fin v).toArray).putObj D (.deferred none)) w.heap.size v s.txs vs∧Rise vs ((V.setRow Br (gcells t l s.fin v).toArray).putObj D (.deferred none)).heap.size∧Below w.heap.size w ((V.setRow Br (gcells t l s.fin v).toArray).putObj D (.deferred none)):=by
 have h1:(V.setRow Br (gcells t l s.fin v).toArray).heap[D]?=some (.deferred (some [])):=(setRow_other V Br D _ (by omega)).trans hK
 have x1:XOwn 207 (V.setRow Br (gcells t l s.fin v).toArray) w.heap.size v s.txs vs:=h.tx.kept (grownBy_setRow V Br _) (.inr (lat_not_row h.rs (by decide) h.tx.row)) fun u hu=>by
  obtain ⟨k,hk,rfl⟩:=List.getElem_of_mem hu
  have hk':k<s.txs.length:=by rw[← h.tx.len];exact hk
  exact .inr (lat_not_row h.rs (by decide) (h.tx.each k s.txs[k] vs[k] (List.getElem?_eq_getElem hk') (List.getElem?_eq_getElem hk)))
 refine⟨h1,?_,?_,?_,?_⟩
 ·exact (World.putObj_heap_other (by omega)).trans (LAt.stored h.rs _)
 ·refine x1.cells fun k o hk hc=>?_
  refine (World.putObj_heap_other ?_).trans hk
  rintro rfl
  rw[h1] at hk;cases hk;cases hc
 ·refine h.up.mono ?_
  have:=h.x1
  simp;omega
 ·exact (below_setRow h.low hr0 _).trans ⟨rfl,rfl,rfl,by simp,fun k hk=>World.putObj_heap_other (by omega)⟩
theorem read_ok10 {w:World}{S:Nat→Prop}{p n:Nat}{d:List Int}{ws:List Wr}(h:Dsk w S p n d ws)(ht:Tab w)(c:Sup)(hz:(supOf c n (newest ws d)).2=0) :
  Calls prog 76 #[.pointer (some ⟨p,0,none⟩),.agg (ccells c).toArray] w fun e w'=>∃v vs,e=.returned (.tuple #[.agg (gcells (supOf c n (newest ws d)).1.tail (supOf c n (newest ws d)).1.life (scanS c (newest ws d) (supOf c n (newest ws d)).1).fin v).toArray,.int .i64 0])∧XOwn 207 w' w.heap.size v (scanS c (newest ws d) (supOf c n (newest ws d)).1).txs vs∧Rise vs w'.heap.size∧Below w.heap.size w w':=by
 obtain ⟨wa,hwa⟩:∃y,y=w.alloc (.cells #[.pointer (some ⟨p,0,none⟩)] 30):=⟨_,rfl⟩
 obtain ⟨wb,hwb⟩:∃y,y=wa.alloc (.cells (ccells c).toArray 23):=⟨_,rfl⟩
 obtain ⟨wc,hwc⟩:∃y,y=wb.alloc (.cells (gcells 0 0 0 (.slice none 0 0)).toArray 165):=⟨_,rfl⟩
 have ewa:=hwa.symm
 have ewb:=hwb.symm
 have sa:wa.heap.size=w.heap.size+1:=by rw[hwa];simp
 have sb:wb.heap.size=w.heap.size+1+1:=by rw[hwb,← sa];simp
 have A1:Hid (_):=allocLg wb
 rw[← hwc,sb] at A1
 have Ba:Below w.heap.size w wa:=by rw[hwa];exact below_alloc w _
 have Bb:Below w.heap.size w wb:=by rw[hwb];exact below_then Ba (below_alloc wa _)
 have B0:Hid (Below w.heap.size w wc):=by rw[hwc];exact below_then Bb (below_alloc wb _)
 have bbc:Below wb.heap.size wb wc:=by rw[hwc];exact below_alloc wb _
 have bab:Below wa.heap.size wa wb:=by rw[hwb];exact below_alloc wa _
 have K0:Hid (Boxed wc w.heap.size 30 (.pointer (some ⟨p,0,none⟩))):=by
  refine (bbc.block _ (by omega)).trans ((bab.block _ (by omega)).trans ?_)
  rw[hwa];exact heap_alloc_new w _
 have C0:Hid (CAt wc (w.heap.size+1) c):=by
  refine LAt.later ?_ bbc
  rw[hwb,← sa];exact LAt.new 23 wa _
 have V0:Hid (LAt 165 wc (w.heap.size+1+1) (gcells 0 0 0 (.slice none 0 0))):=by rw[hwc,← sb];exact LAt.new 165 wb _
 have L0:Hid (_):=CAt.load23 C0.out
 have z0:=K0.out.cell
 clear hwa hwb hwc Ba Bb bab bbc
 have hmo:prog.follows Departure.mixedOrders=true:=by kernel_rfl
 have HD:Hid (Dsk w S p n d ws):=h
 have HT:Hid (Tab w):=ht
 obtain ⟨m1,m2,m3,m4,m5⟩:=supOf_zero hz
 have HBy:Hid (∀i,Bytes (newest ws d i)):=by
  obtain ⟨q,cap,v,hp⟩:=h
  exact fun i=>newk_bytes hp.db hp.fit _
 have hT:=((decS_good _ m3).1).2.1
 have hw:=decS_wf _ (HBy.out 0)
 obtain ⟨hT0,-⟩:=hw.tail
 have HL:Hid (0≤(decS (newest ws d 0)).1.life):=hw.life.1
 obtain ⟨r,hr⟩:∃r,r=(supOf c n (newest ws d)).1:=⟨_,rfl⟩
 have er:r=(decS (newest ws d 0)).1:=by rw[hr,m5]
 rw[← er] at hT hT0 HL
 have HM:Hid (MayC c):=m1
 have HN:Hid ((n:Int)=1+c.bl+c.lc):=m2
 have hlc:=m1.2.1
 have hmr:=m1.2.2.1
 obtain ⟨t,ht'⟩:∃t,t=r.tail:=⟨_,rfl⟩
 obtain ⟨lf,hlf⟩:∃lf,lf=r.life:=⟨_,rfl⟩
 rw[← ht'] at hT hT0
 obtain ⟨K,hK⟩:∃K:Nat,c.lc=(K:Int):=⟨c.lc.toNat,by omega⟩
 have HRUN:Hid (scanS c (newest ws d) r=⟨t,lf,(scRun (stS c (newest ws d)) c.mr K t ⟨[],t,[]⟩).fin,(scRun (stS c (newest ws d)) c.mr K t ⟨[],t,[]⟩).txs⟩):=by
  show _=_
  unfold scanS
  rw[← ht',← hlf,hK,Int.toNat_natCast]
 rw[← hr,← ht',← hlf]
 clear m1 m2 m3 m4 m5 hw er h ht
 refine (callsIn_wide (n:=9)).1 ?_
 refine callsIn_of_wp_marks func76 rfl trivial ?_ rfl
 simp only[ntmps76,List.size_toArray,List.length_cons,List.length_nil,Nat.reduceAdd,Nat.reduceSub,Array.replicate_succ,Array.replicate_zero,List.push_toArray,List.append_toArray,List.nil_append,List.cons_append]
 gi_wp2_with ((with_reducible refine in_ops ?_);(first | (refine in_alloc (by rfl) 165 rfl A1.out ?_) | (refine in_load (by rfl) 23 rfl rfl L0.out ?_));simp only[Act.put,zA,zB,zC])
 refine wpIn_scope ?_
 gi_wp2_with ((with_reducible refine in_ops ?_);(first | (refine in_alloc (by rfl) 165 rfl A1.out ?_) | (refine in_load (by rfl) 23 rfl rfl L0.out ?_));simp only[Act.put,zA,zB,zC])
 clear ewa ewb A1
 refine⟨trivial,(callsIn_wide.2 (superOf_any (HD.out.later B0.out) (HT.out.later B0.out) c)).mono ?_⟩
 rintro e w1 ⟨rfl,b1⟩
 rw[hz,← hr]
 clear hr hz
 have B1:Hid (Below w.heap.size w w1):=below_then B0.out b1
 have K1:Hid (Boxed w1 w.heap.size 30 (.pointer (some ⟨p,0,none⟩))):=(b1.block _ K0.out.lt).trans K0.out
 have C1:Hid (CAt w1 (w.heap.size+1) c):=LAt.later C0.out b1
 have V1:Hid (LAt 165 w1 (w.heap.size+1+1) (gcells 0 0 0 (.slice none 0 0))):=LAt.later V0.out b1
 have s1:w.heap.size+3≤w1.heap.size:=by have:=LAt.lt V1.out;omega
 clear b1 B0 C0 V0 K0 L0 z0
 obtain ⟨w2,hw2⟩:∃y,y=w1.alloc (.cells (scells r).toArray 121):=⟨_,rfl⟩
 have A2:Hid (_):=alloc29 w1
 have T2:Hid (_):=store_new29 w1 r
 rw[← hw2] at T2
 have s2:w2.heap.size=w1.heap.size+1:=by rw[hw2];simp
 have b2:Below w1.heap.size w1 w2:=by rw[hw2];exact below_alloc w1 _
 have Q2:SAt 121 w2 w1.heap.size r:=by rw[hw2];exact LAt.new 121 w1 _
 obtain ⟨w3,hw3⟩:∃y,y=w2.alloc (.cells (gcells t lf t (.slice none 0 0)).toArray 165):=⟨_,rfl⟩
 have U3:Hid (_):=buildL3 w2 t lf t
 have A3:Hid (_):=allocLg w2
 have T3:Hid (_):=storeLg w2 t lf t (v:=.slice none 0 0) rfl
 rw[← hw3,s2] at T3
 rw[s2] at A3
 have s3:w3.heap.size=w1.heap.size+1+1:=by rw[hw3,← s2];simp
 have b3:Below w2.heap.size w2 w3:=by rw[hw3];exact below_alloc w2 _
 have G3:LAt 165 w3 (w1.heap.size+1) (gcells t lf t (.slice none 0 0)):=by rw[hw3,← s2];exact LAt.new 165 w2 _
 obtain ⟨w4,hw4⟩:∃y,y=w3.alloc (.cells #[.slice none 0 0] 92):=⟨_,rfl⟩
 have ew4:=hw4.symm
 have s4:w4.heap.size=w1.heap.size+1+1+1:=by rw[hw4,← s3];simp
 have b4:Below w3.heap.size w3 w4:=by rw[hw4];exact below_alloc w3 _
 have O4:Boxed w4 (w1.heap.size+1+1) 92 (.slice none 0 0):=by rw[hw4,← s3];exact Boxed.new w3 92 _
 have b14:Below w1.heap.size w1 w4:=below_then (below_then b2 b3) b4
 have Q4:SAt 121 w4 w1.heap.size r:=LAt.later (LAt.later Q2 b3) b4
 have C4:CAt w4 (w.heap.size+1) c:=LAt.later C1.out b14
 have q5:=SAt.c5 Q2
 have q6:=SAt.c6 Q2
 have q5':=SAt.c5 Q4
 have c1':=CAt.c1 C4
 rw[← ht'] at q5 q5'
 rw[← hlf] at q6
 rw[hK] at c1'
 have k1:IntKind.u64.wrap (K:Int)=(K:Int):=G.wrap_u (by omega) (by omega)
 have k2:IntKind.u64.wrap (t+(K:Int))=t+(K:Int):=G.wrap_u (by omega) (by omega)
 have I4:Hid (∀W,Below w4.heap.size w4 W→Boxed W (w1.heap.size+1+1+1) 37 (.int .u64 t)→Boxed W (w1.heap.size+1+1+1+1) 37 (.int .u64 (t+(K:Int)))→RdM w W w.heap.size (w.heap.size+1) (w.heap.size+1+1) (w1.heap.size+1) (w1.heap.size+1+1) (w1.heap.size+1+1+1) (w1.heap.size+1+1+1+1) (some ⟨p,0,none⟩) c t lf (t+(K:Int)) ⟨[],t,[]⟩ (.slice none 0 0) [] (.slice none 0 0) w.heap.size):=by
  intro W hb hbt hbe
  have b1W:=below_then b14 hb
  refine⟨(b1W.block _ K1.out.lt).trans K1.out,LAt.later C1.out b1W,LAt.later V1.out b1W,hbt,hbe,LAt.later (LAt.later G3 b4) hb,(hb.block _ O4.lt).trans O4,XOwn.nil _ _ _,World.ownsRow_nil _ _ _ _,Rise.nil _,Nat.le_refl _,?_,below_then B1.out b1W,by omega,by omega,by omega⟩
  have:=hb.size;omega
 clear ht' hlf
 clear hw2 hw3 hw4 b2 b3 b4 b14 Q2 Q4 C4 G3 O4 C1 V1 K1
 gi_wp2_with ((with_reducible refine in_ops ?_);(first | (refine in_alloc (by rfl) 121 rfl A2.out ?_) | (refine in_store (by rfl) 121 rfl rfl rfl T2.out ?_) | (refine in_build (vs:=[(0,.int .u64 t),(1,.int .u64 lf),(2,.int .u64 t)]) (by rfl) 165 rfl (by rfl) U3.out ?_) | (refine in_alloc (by rfl) 165 rfl A3.out ?_) | (refine in_store (by rfl) 165 rfl rfl rfl T3.out ?_));simp only[Act.put,zA,zB,zC])
 refine wpIn_label ?_
 gi_wp2_with (refine⟨trivial,?_⟩;gi_at_call 106;refine (callsIn_wide.2 (G.span_any _ _ _)).mono ?_;rintro e' w' ⟨rfl,rfl⟩)
 clear q5 q6 q5' c1' A2 T2 U3 A3 T3 ew4
 have bT:Hid (Boxed ((w4.alloc (.cells #[.int .u64 t] 37)).alloc (.cells #[.int .u64 (t+(K:Int))] 37)) (w1.heap.size+1+1+1) 37 (.int .u64 t)):=by
  rw[← s4];exact (Boxed.new w4 37 (.int .u64 t)).alloc _
 have bE:Hid (Boxed ((w4.alloc (.cells #[.int .u64 t] 37)).alloc (.cells #[.int .u64 (t+(K:Int))] 37)) (w1.heap.size+1+1+1+1) 37 (.int .u64 (t+(K:Int)))):=by
  have:=Boxed.new (w4.alloc (.cells #[.int .u64 t] 37)) 37 (.int .u64 (t+(K:Int)))
  rwa [World.size_alloc,s4] at this
 have b5:Below w4.heap.size w4 ((w4.alloc (.cells #[.int .u64 t] 37)).alloc (.cells #[.int .u64 (t+(K:Int))] 37)):=below_then (below_alloc w4 _) (below_alloc _ _)
 have I5:Hid (_):=I4.out _ b5 bT.out bE.out
 have s5:((w4.alloc (.cells #[.int .u64 t] 37)).alloc (.cells #[.int .u64 (t+(K:Int))] 37)).heap.size=w1.heap.size+5:=by simp;omega
 clear I4 b5
 generalize (w4.alloc (.cells #[.int .u64 t] 37)).alloc (.cells #[.int .u64 (t+(K:Int))] 37)=W0 at *
 refine wpIn_rangeFunc_ownG (F:=Fence.wide) (n:=9) (P:=prog) rfl (by decide) (gf:=127) (lb:=#[.pointer (some ⟨w1.heap.size+1+1+1,0,none⟩),.pointer (some ⟨w1.heap.size+1+1+1+1,0,none⟩)]) rfl trivial (enters_of func127 (by kernel_rfl) rfl)
  (G.span_stops Fence.wide (9-1) trivial rfl (by decide) (w1.heap.size+1+1+1) (w1.heap.size+1+1+1+1) t (t+(K:Int)) hT0 (by omega) (by omega) (by omega) W0 bT.out bE.out) G.Kept2.trans (G.Kept2.keeps (by omega) (by omega)) (Below.refl _ _) (fun _=>rfl)
  (fun pre W=>∃s,GoAt (stS c (newest ws d)) c.mr t pre s∧∃v vs cv Bx,RdM w W w.heap.size (w.heap.size+1) (w.heap.size+1+1) (w1.heap.size+1) (w1.heap.size+1+1) (w1.heap.size+1+1+1) (w1.heap.size+1+1+1+1) (some ⟨p,0,none⟩) c t lf (t+(K:Int)) s v vs cv Bx)
  (fun co pre' W=>co=.exit 0∧∃(pre:List G.U64) (u:G.U64) (s:Sc),pre'=pre++[u]∧GoAt (stS c (newest ws d)) c.mr t pre s∧((stS c (newest ws d) u.1).2=false∨scStep c.mr s u.1 (stS c (newest ws d) u.1).1=none)∧∃v vs cv Bx,RdM w W w.heap.size (w.heap.size+1) (w.heap.size+1+1) (w1.heap.size+1) (w1.heap.size+1+1) (w1.heap.size+1+1+1) (w1.heap.size+1+1+1+1) (some ⟨p,0,none⟩) c t lf (t+(K:Int)) s v vs cv Bx)
  ?hI ?hIx ⟨_,GoAt.start _ (by omega) t,_,_,_,_,I5.out⟩
  (fun x=>{ tmps:=#[.pointer (some ⟨p,0,none⟩),.agg (ccells c).toArray,.pointer (some ⟨w.heap.size,0,none⟩),.pointer (some ⟨w.heap.size+1,0,none⟩),.pointer (some ⟨w.heap.size+1+1,0,none⟩),.int .i64 0,.pointer (some ⟨w1.heap.size,0,none⟩),.int .i64 0,.pointer (some ⟨w1.heap.size+1,0,none⟩),.pointer (some ⟨w1.heap.size+1+1,0,none⟩),.int .u64 x.1,undef,undef,.tuple #[.agg (scells r).toArray,.int .i64 0],.pointer (some ⟨p,0,none⟩),.agg (ccells c).toArray,.tuple #[.agg (scells r).toArray,.int .i64 0],.agg (scells r).toArray,.int .i64 0,.int .i64 0,.bool false,undef,undef,.pointer (some ⟨w1.heap.size,5,none⟩),.int .u64 t,.pointer (some ⟨w1.heap.size,6,none⟩),.int .u64 lf,.pointer (some ⟨w1.heap.size,5,none⟩),.int .u64 t,.agg (gcells t lf t (.slice none 0 0)).toArray,.pointer (some ⟨w1.heap.size,5,none⟩),.int .u64 t,.pointer (some ⟨w1.heap.size,5,none⟩),.int .u64 t,.pointer (some ⟨w.heap.size+1,1,none⟩),.int .i64 (K:Int),.int .u64 (K:Int),.int .u64 (t+(K:Int)),.func (.func 127) #[] #[.pointer (some ⟨w1.heap.size+1+1+1,0,none⟩),.pointer (some ⟨w1.heap.size+1+1+1+1,0,none⟩)],.int .u64 x.1,undef,undef,undef,undef,undef,undef,undef,undef,undef,undef,undef,undef,undef,undef,undef,undef,undef,undef,undef,undef,undef,undef,undef,undef,undef,undef,undef,undef,undef,undef,undef,undef,undef,undef,undef,undef,undef,undef,undef,undef,undef,undef,undef,undef,undef,undef,undef,undef,undef,undef,undef,undef,undef],defers:=[] }) ?assign ?body ?done ?stop
 case hI =>
  rintro pre V V' row ⟨s,hg,v,vs,cv,Bx,hm⟩ hgr hr
  exact⟨s,hg,v,vs,cv,Bx,RdM.own (β:=Unit) (by omega) () V V' row hm hgr hr⟩
 case hIx =>
  rintro co pre' V V' row ⟨hco,pre,u,s,h1,h2,h3,v,vs,cv,Bx,hm⟩ hgr hr
  exact⟨hco,pre,u,s,h1,h2,h3,v,vs,cv,Bx,RdM.own (β:=Unit) (by omega) () V V' row hm hgr hr⟩
 case assign =>
  intro l1 x V Kc hKc
  gi_wp2
  exact hKc
 case body =>
  rintro l1 pre u V ⟨s,hgo,v,vs,cv,Bx,hm⟩ hlt
  have hpl:pre.length≤64:=by have:=G.spanN_le t (t+(K:Int));omega
  have HG:Hid (GoAt (stS c (newest ws d)) c.mr t pre s):=hgo
  have M0:Hid (RdM w V w.heap.size (w.heap.size+1) (w.heap.size+1+1) (w1.heap.size+1) (w1.heap.size+1+1) (w1.heap.size+1+1+1) (w1.heap.size+1+1+1+1) (some ⟨p,0,none⟩) c t lf (t+(K:Int)) s v vs cv Bx):=hm
  obtain ⟨q,cap,hcv,-,-,-⟩:=IOwn.in hm.im hgo.ok.cw
  have HCV:Hid (cv=.slice q s.come.length cap):=hcv
  have hcl:s.come.length≤16:=by have:=hgo.ok.cl;omega
  have htl:s.txs.length≤64:=by have:=hgo.ok.tl;omega
  have kd:=hm.dk.cell
  have L4:Hid (_):=CAt.load23 hm.cf
  have hu0:=u.2.1
  clear hm hgo hcv
  gi_wp2_with ((with_reducible refine in_ops ?_);(refine in_load (by rfl) 23 rfl rfl L4.out ?_);simp only[Act.put,zA,zB,zC])
  refine⟨trivial,(CallsIn.inRound l1 (callsIn_wide.2 (recordAt_any (HD.out.later M0.out.low) (HT.out.later M0.out.low) c HM.out HN.out u.1 hu0))).mono ?_⟩
  rintro e V1 ⟨rfl,b1⟩
  have HWf:Hid ((stS c (newest ws d) u.1).1.Wf):=stS_wf HBy.out
  have HGood:Hid ((stS c (newest ws d) u.1).2=true→R.may (stS c (newest ws d) u.1).1=true∧(stS c (newest ws d) u.1).1.pos=u.1):=fun h=>⟨(stS_good h).1,(stS_good h).2.1⟩
  have HNx:Hid (∀z,stS c (newest ws d) u.1=z→(z.2=false∨scStep c.mr s u.1 z.1=none)→(stS c (newest ws d) u.1).2=false∨scStep c.mr s u.1 (stS c (newest ws d) u.1).1=none):=by rintro z rfl h;exact h
  have HGo:Hid (∀z s',stS c (newest ws d) u.1=z→z.2=true→scStep c.mr s u.1 z.1=some s'→GoAt (stS c (newest ws d)) c.mr t (pre++[u]) s'):=by
   rintro z s' rfl h1 h2
   exact HG.out.step (by omega) HWf.out h1 h2
  obtain ⟨⟨rr,bb⟩,hst⟩:∃z,stS c (newest ws d) u.1=z:=⟨_,rfl⟩
  have HNx':Hid ((bb=false∨scStep c.mr s u.1 rr=none)→(stS c (newest ws d) u.1).2=false∨scStep c.mr s u.1 (stS c (newest ws d) u.1).1=none):=HNx.out _ hst
  have HGo':Hid (∀s',scStep c.mr s u.1 rr=some s'→bb=true→GoAt (stS c (newest ws d)) c.mr t (pre++[u]) s'):=fun s' h2 h1=>HGo.out _ s' hst h1 h2
  rw[hst] at HWf HGood ⊢
  clear hst HNx HGo
  obtain ⟨V2,hV2⟩:∃y,y=V1.alloc (.cells (R.rcells rr).toArray 139):=⟨_,rfl⟩
  have A5:Hid (_):=R.alloc31 V1
  have T5:Hid (_):=R.store_new R.size31 V1 rr HWf.out.len
  rw[← hV2] at T5
  have b2:Below V1.heap.size V1 V2:=by rw[hV2];exact below_alloc V1 _
  have B2:Hid (Below V.heap.size V V2):=below_then b1 b2
  have R2:Hid (R.RAt 139 V2 V1.heap.size rr):=by rw[hV2];exact R.RAt.new 139 V1 rr
  have M2:Hid (RdM w V2 w.heap.size (w.heap.size+1) (w.heap.size+1+1) (w1.heap.size+1) (w1.heap.size+1+1) (w1.heap.size+1+1+1) (w1.heap.size+1+1+1+1) (some ⟨p,0,none⟩) c t lf (t+(K:Int)) s v vs cv Bx):=M0.out.later B2.out
  have HK2:Hid (KeepsFrom W0.heap.size V V2):=keeps_of_below B2.out _
  clear hV2 b1 b2 kd L4
  cases bb with
  | false =>
   have HX:Hid (_):=HNx'.out (.inl (by first | rfl | trivial))
   gi_wp2_with ((with_reducible refine in_ops ?_);(first | (refine in_alloc (by rfl) 139 rfl A5.out ?_) | (refine in_store (by rfl) 139 rfl rfl rfl T5.out ?_));simp only[Act.put,zA,zB,zC])
   exact⟨HK2.out,rfl,pre,u,s,rfl,HG.out,HX.out,v,vs,cv,Bx,M2.out⟩
  | true =>
   have r0:=R.RAt.c0 R2.out
   by_cases hk1:rr.kind=1
   ·have kc:=M2.out.co.cell
    have r2:=R.RAt.c2 R2.out
    have c2:=CAt.c2 M2.out.cf
    rw[HCV.out] at kc
    have hk1':(rr.kind == 1)=true:=by simp[hk1]
    gi_wp2_with ((with_reducible refine in_ops ?_);(first | (refine in_alloc (by rfl) 139 rfl A5.out ?_) | (refine in_store (by rfl) 139 rfl rfl rfl T5.out ?_));simp only[Act.put,zA,zB,zC])
    have MI:MIn V2 q s.come.length s.come:=by
     have h1:=M2.out.im
     rw[HCV.out] at h1
     obtain ⟨q',cap',e',mi,-,-⟩:=IOwn.in h1 HG.out.ok.cw
     cases e'
     exact mi
    refine⟨trivial,(CallsIn.inRound l1 (callsIn_wide.2 (follows_any q s.come.length cap s.come rr.block c.mr V2 MI (by omega)))).mono ?_⟩
    rintro e V3 ⟨rfl,rfl⟩
    by_cases hf:Folls s.come rr.block c.mr
    ·rw[decide_eq_true hf]
     have HS:Hid (_):=HGo'.out _ (scStep_img ⟨hk1,hf⟩) (by first | rfl | trivial)
     have LV:Hid (_):=R.RAt.load24 R2.out HWf.out.len
     have UI:Hid (_):=buildI V2 rr.block rr.val HWf.out.len
     have SI:Hid (_):=build_im V2 ⟨rr.block,rr.val⟩ HWf.out.len
     obtain ⟨v',V4,hrun,hco4,m4,k4⟩:=M2.out.img ⟨rr.block,rr.val⟩ ⟨⟨HWf.out.b0,HWf.out.b1⟩,HWf.out.len,HWf.out.byte⟩ (by omega)
     rw[HCV.out] at hrun hco4
     obtain ⟨g',cap',rfl⟩:∃g' cap',v'=.slice (some ⟨g',0,none⟩) (s.come.length+1) cap':=ownsRow_succ (by have:=m4.im;rw[IOwn,List.length_append,List.length_singleton] at this;exact this)
     have AP:Hid (_):=hrun
     have z:=hco4.cell
     have zf:=hco4.frozen
     have M4:Hid (_):=m4
     have K4:Hid (_):=HK2.out.trans (k4.from _)
     clear hrun hco4 m4 k4 MI hf
     gi_wp2_with ((with_reducible refine in_ops ?_);(first | (refine in_load (by rfl) 39 rfl rfl LV.out ?_) | (refine in_build (vs:=[(0,.int .i64 rr.block),(1,.agg (U8 rr.val).toArray)]) (by rfl) 155 rfl (by rfl) UI.out ?_) | (refine in_slice (u:=.agg (icells ⟨rr.block,rr.val⟩).toArray) (by rfl) 92 rfl rfl SI.out ?_) | (refine in_append (u1:=.slice q s.come.length cap) (u2:=.slice (some ⟨V2.heap.size,0,none⟩) 1 1) (by rfl) rfl rfl rfl rfl AP.out ?_));simp only[Act.put,zA,zB,zC])
     refine⟨K4.out,⟨?_,?_⟩,_,HS.out,v,vs,_,Bx,M4.out⟩
     ·exact Eq.trans M4.out.bt (Eq.symm M0.out.bt)
     ·exact Eq.trans M4.out.be (Eq.symm M0.out.be)
    ·rw[decide_eq_false hf]
     have hk2':(rr.kind == 2)=false:=by simp[hk1]
     have HX:Hid (_):=HNx'.out (.inr (scStep_no (fun h=>hf h.2) (fun h=>by have:=h.1;omega)))
     clear MI hf
     gi_wp2
     exact⟨HK2.out,rfl,pre,u,s,rfl,HG.out,HX.out,v,vs,cv,Bx,M2.out⟩
   ·have hk1':(rr.kind == 1)=false:=by simp[hk1]
    by_cases hk2:rr.kind=2
    ·have hk2':(rr.kind == 2)=true:=by simp[hk2]
     have kc:=M2.out.co.cell
     have r35:=R.RAt.c35 R2.out HWf.out.len
     rw[HCV.out] at kc
     by_cases hi:rr.images=(s.come.length:Int)
     ·have hi':(rr.images == (s.come.length:Int))=true:=by simp[hi]
      have HS:Hid (_):=HGo'.out _ (scStep_com ⟨hk2,hi⟩) (by first | rfl | trivial)
      have hpos:u.1≤4611686018427387904:=by
       have:=HGood.out (by first | rfl | trivial)
       rw[← this.2];exact R.may_pos this.1
      have g3:V2.cell? ⟨w1.heap.size+1,3,none⟩=some v:=LAt.cell M2.out.lg 3
      obtain ⟨q3,cap3,hv3,-,-,-⟩:=XOwn.in M2.out.tx
      have UT:Hid (_):=buildT V2 u.1 q s.come.length cap
      have SL:Hid (_):=build_tx V2 u.1 q s.come.length cap
      obtain ⟨v',V4,hrun,hlg4,hco4,m4,k4⟩:=M2.out.com u.1 ⟨hu0,by omega⟩ htl HG.out.ok.cw q s.come.length cap HCV.out
      rw[HCV.out] at hrun
      rw[hv3] at hrun g3
      obtain ⟨g',cap',rfl⟩:∃g' cap',v'=.slice (some ⟨g',0,none⟩) (s.txs.length+1) cap':=ownsRow_succ (by have:=m4.tx.row;rw[List.length_append,List.length_singleton] at this;exact this)
      have AP:Hid (_):=hrun
      have z3:V4.cell? ⟨w1.heap.size+1,3,none⟩=some (.slice q3 s.txs.length cap3):=by rw[← hv3];exact LAt.cell hlg4 3
      have zf3:=LAt.free hlg4 3
      have hlg5:=LAt.set hlg4 3 (.slice (some ⟨g',0,none⟩) (s.txs.length+1) cap')
      have z2:(V4.setCell ⟨w1.heap.size+1,3,none⟩ (.slice (some ⟨g',0,none⟩) (s.txs.length+1) cap')).cell? ⟨w1.heap.size+1,2,none⟩=some (.int .u64 s.fin):=LAt.cell hlg5 2
      have zf2:=LAt.free hlg5 2
      have hco6:LAt 92 ((V4.setCell ⟨w1.heap.size+1,3,none⟩ (.slice (some ⟨g',0,none⟩) (s.txs.length+1) cap')).setCell ⟨w1.heap.size+1,2,none⟩ (.int .u64 (u.1+1))) (w1.heap.size+1+1) [cv]:=LAt.setO (LAt.setO (show LAt 92 V4 (w1.heap.size+1+1) [cv] from hco4) 3 (.slice (some ⟨g',0,none⟩) (s.txs.length+1) cap') (by omega)) 2 _ (by omega)
      have z0:((V4.setCell ⟨w1.heap.size+1,3,none⟩ (.slice (some ⟨g',0,none⟩) (s.txs.length+1) cap')).setCell ⟨w1.heap.size+1,2,none⟩ (.int .u64 (u.1+1))).cell? ⟨w1.heap.size+1+1,0,none⟩=some (.slice q s.come.length cap):=by rw[← HCV.out];exact LAt.cell hco6 0
      have zf0:=LAt.free hco6 0
      have hadd:IntKind.u64.wrap (u.1+1)=u.1+1:=G.wrap_u (by omega) (by omega)
      have M4:Hid (_):=m4
      have K4:Hid (_):=HK2.out.trans (k4.from _)
      clear hrun hlg4 hco4 m4 k4 hlg5 hco6 hi
      gi_wp2_with ((with_reducible refine in_ops ?_);(first | (refine in_alloc (by rfl) 139 rfl A5.out ?_) | (refine in_store (by rfl) 139 rfl rfl rfl T5.out ?_));simp only[Act.put,zA,zB,zC])
      refine⟨trivial,?_⟩
      gi_wp2_with ((with_reducible refine in_ops ?_);(first | (refine in_build (vs:=[(0,.int .u64 u.1),(1,.slice q s.come.length cap)]) (by rfl) 207 rfl (by rfl) UT.out ?_) | (refine in_slice (u:=.agg #[.int .u64 u.1,.slice q s.come.length cap]) (by rfl) 163 rfl rfl SL.out ?_) | (refine in_append (u1:=.slice q3 s.txs.length cap3) (u2:=.slice (some ⟨V2.heap.size,0,none⟩) 1 1) (by rfl) rfl rfl rfl rfl AP.out ?_));simp only[Act.put,zA,zB,zC])
      refine⟨K4.out,⟨?_,?_⟩,_,HS.out,_,_,_,_,M4.out⟩
      ·exact Eq.trans M4.out.bt (Eq.symm M0.out.bt)
      ·exact Eq.trans M4.out.be (Eq.symm M0.out.be)
     ·have hi':(rr.images == (s.come.length:Int))=false:=by simp[hi]
      have HX:Hid (_):=HNx'.out (.inr (scStep_no (fun h=>hk1 h.1) (fun h=>hi h.2)))
      clear hi
      gi_wp2_with ((with_reducible refine in_ops ?_);(first | (refine in_alloc (by rfl) 139 rfl A5.out ?_) | (refine in_store (by rfl) 139 rfl rfl rfl T5.out ?_));simp only[Act.put,zA,zB,zC])
      refine⟨trivial,?_⟩
      gi_wp2
      exact⟨HK2.out,rfl,pre,u,s,rfl,HG.out,HX.out,v,vs,cv,Bx,M2.out⟩
    ·have hk2':(rr.kind == 2)=false:=by simp[hk2]
     have HX:Hid (_):=HNx'.out (.inr (scStep_no (fun h=>hk1 h.1) (fun h=>hk2 h.1)))
     gi_wp2_with ((with_reducible refine in_ops ?_);(first | (refine in_alloc (by rfl) 139 rfl A5.out ?_) | (refine in_store (by rfl) 139 rfl rfl rfl T5.out ?_));simp only[Act.put,zA,zB,zC])
     refine⟨trivial,?_⟩
     gi_wp2
     exact⟨HK2.out,rfl,pre,u,s,rfl,HG.out,HX.out,v,vs,cv,Bx,M2.out⟩
 case done =>
  rintro D ys V hD hS ⟨s,hgo,v,vs,cv,Bx,hm⟩ hK'
  have HR:Hid (scRun (stS c (newest ws d)) c.mr K t ⟨[],t,[]⟩=s):=hgo.done (by omega) hS
  clear hgo hS
  have LL:Hid (_):=LAt.loadLg hm.lg
  have TL:Hid (_):=LAt.store (ds:=gcells t lf s.fin v) hm.rs sizeLg rfl (all_oneCell_toArray (gcells_ones (own_one hm.tx.row) t lf s.fin))
  obtain ⟨f1,f2,f3,f4,f5⟩:=hm.fin (D:=D) (by omega) (by omega) hK' (by omega)
  have HF:Hid (_):=(⟨f1,f2,f3,f4,f5⟩:_∧_∧_∧_∧_)
  clear f1 f2 f3 f4 f5 hm hK'
  gi_wp2_with ((with_reducible refine in_ops ?_);(first | (refine in_load (by rfl) 165 rfl rfl LL.out ?_) | (refine in_store (by rfl) 165 rfl rfl rfl TL.out ?_));simp only[Act.put,zA,zB,zC])
  try rw[Exit.noGoto_ret]
  refine⟨by simp,.inl ⟨_,_,rfl,run_takeDeferred HF.out.1,?_⟩⟩
  refine⟨_,results_lat results76 _ _ (w.heap.size+1+1) 165 _ _ (by rfl) HF.out.2.1 underlying165 rfl sizeLg,v,vs,?_,?_,HF.out.2.2.2.1,HF.out.2.2.2.2⟩
  ·rw[HRUN.out,HR.out];rfl
  ·rw[HRUN.out,HR.out];exact HF.out.2.2.1
 case stop =>
  rintro D co pre' V hD hpre ⟨rfl,pre,u,s,rfl,hgo,hst,v,vs,cv,Bx,hm⟩ hK'
  have HR:Hid (scRun (stS c (newest ws d)) c.mr K t ⟨[],t,[]⟩=s):=hgo.stop (by omega) hpre hst
  clear hgo hst hpre
  have LL:Hid (_):=LAt.loadLg hm.lg
  have TL:Hid (_):=LAt.store (ds:=gcells t lf s.fin v) hm.rs sizeLg rfl (all_oneCell_toArray (gcells_ones (own_one hm.tx.row) t lf s.fin))
  obtain ⟨f1,f2,f3,f4,f5⟩:=hm.fin (D:=D) (by omega) (by omega) hK' (by omega)
  have HF:Hid (_):=(⟨f1,f2,f3,f4,f5⟩:_∧_∧_∧_∧_)
  clear f1 f2 f3 f4 f5 hm hK'
  gi_wp2_with ((with_reducible refine in_ops ?_);(first | (refine in_load (by rfl) 165 rfl rfl LL.out ?_) | (refine in_store (by rfl) 165 rfl rfl rfl TL.out ?_));simp only[Act.put,zA,zB,zC])
  try rw[Exit.noGoto_ret]
  refine⟨by simp,.inl ⟨_,_,rfl,run_takeDeferred HF.out.1,?_⟩⟩
  refine⟨_,results_lat results76 _ _ (w.heap.size+1+1) 165 _ _ (by rfl) HF.out.2.1 underlying165 rfl sizeLg,v,vs,?_,?_,HF.out.2.2.2.1,HF.out.2.2.2.2⟩
  ·rw[HRUN.out,HR.out];rfl
  ·rw[HRUN.out,HR.out];exact HF.out.2.2.1
end Go.Proofs.YtdadpepfpiimgaaGreatDoor
namespace Go.Proofs.YtdadpepfpiimgaaGreatDoor
open Go.Proofs.Tryz
open Go.RowKit
theorem read_any10 {w:World}{S:Nat→Prop}{p n:Nat}{d:List Int}{ws:List Wr}(h:Dsk w S p n d ws)(ht:Tab w)(c:Sup) :
  Calls prog 76 #[.pointer (some ⟨p,0,none⟩),.agg (ccells c).toArray] w fun e w'=>∃q cp vs,e=.returned (.tuple #[.agg (gcells (rdL c n (newest ws d)).1.tail (rdL c n (newest ws d)).1.life (rdL c n (newest ws d)).1.fin (.slice q (rdL c n (newest ws d)).1.txs.length cp)).toArray,.int .i64 (rdL c n (newest ws d)).2])∧XOwn 207 w' w.heap.size (.slice q (rdL c n (newest ws d)).1.txs.length cp) (rdL c n (newest ws d)).1.txs vs∧Rise vs w'.heap.size∧Below w.heap.size w w':=by
 by_cases hz:(supOf c n (newest ws d)).2=0
 ·rw[rdL_ok hz]
  refine (read_ok10 h ht c hz).mono ?_
  rintro e w' ⟨v,vs,rfl,hx,hr,hb⟩
  obtain ⟨q,cp,rfl,-⟩:=XOwn.in hx
  exact⟨q,cp,vs,rfl,hx,hr,hb⟩
 ·rw[rdL_no hz]
  refine (read_err10 h ht c hz).mono ?_
  rintro e w' ⟨rfl,hb⟩
  exact⟨none,0,[],rfl,XOwn.nil _ _ _,Rise.nil _,hb⟩
theorem sizeR:(prog.info? 225).map (·.size)=some 4:=by kernel_rfl
theorem zeroR:(prog.info? 225).bind (·.zero)=some (.agg (gcells 0 0 0 (.slice none 0 0)).toArray):=by kernel_rfl
theorem placesR:placesOf prog 225=some plLg:=by kernel_rfl
theorem buildR3 (w:World)(t l f:Int):(Instr.build 225 #[(0,.int .u64 t),(1,.int .u64 l),(2,.int .u64 f)]).run prog w=.ok (.agg (gcells t l f (.slice none 0 0)).toArray) w :=
 run_build w 225 _ _ ((built_of 225 _ _ _ placesR zeroR).trans rfl)
theorem allocR (w:World):(Instr.alloc 225 true (.tuple #[])).run prog w=.ok (.pointer (some ⟨w.heap.size,0,none⟩)) (w.alloc (.cells (gcells 0 0 0 (.slice none 0 0)).toArray 225)):=by
 simp only[Instr.alloc,Sem.run_bind,zv 225 _ zeroR,Result.andThen_ok]
 simp[newVar,newRow,Value.cells]
theorem store_newR (w:World)(t l f:Int){v:Value}(hv:v.oneCell'=true):(Instr.storeAt 225 (.pointer (some ⟨w.heap.size,0,none⟩)) (.agg (gcells t l f v).toArray)).run prog (w.alloc (.cells (gcells 0 0 0 (.slice none 0 0)).toArray 225))=.ok () (w.alloc (.cells (gcells t l f v).toArray 225)):=by
 rw[(LAt.new 225 w (gcells 0 0 0 (.slice none 0 0))).store (ds:=gcells t l f v) sizeR rfl (all_oneCell_toArray (gcells_ones hv t l f)),setRow_alloc]
theorem LAt.loadR {w:World}{g:Nat}{t l f:Int}{v:Value}(h:LAt 225 w g (gcells t l f v)):(Instr.loadAt 225 (.pointer (some ⟨g,0,none⟩))).run prog w=.ok (.agg (gcells t l f v).toArray) w :=
 run_loadAt_mid w g 0 225 (gcells t l f v) _ (LAt.range h) underlying225 rfl sizeR
theorem infoX:(prog.info? 248).map (fun i=>(i.zero,i.size,i.bytes))=some (some (.agg #[.int .u64 0,.slice none 0 0]),2,32):=by kernel_rfl
theorem zeroX:(prog.info? 248).bind (·.zero)=some (.agg #[.int .u64 0,.slice none 0 0]):=by kernel_rfl
theorem placesX:placesOf prog 248=some plT:=by kernel_rfl
theorem buildX (w:World)(p:Int)(q:Option Addr)(n m:Nat):(Instr.build 248 #[(0,.int .u64 p),(1,.slice q n m)]).run prog w=.ok (.agg #[.int .u64 p,.slice q n m]) w :=
 run_build w 248 _ _ ((built_of 248 _ _ _ placesX zeroX).trans rfl)
theorem build_rtx (w:World)(p:Int)(q:Option Addr)(n m:Nat):(Instr.buildSlice 223 1 #[(0,.agg #[.int .u64 p,.slice q n m])]).run prog w=.ok (.slice (some ⟨w.heap.size,0,none⟩) 1 1) (w.alloc (.cells #[.int .u64 p,.slice q n m] 248)):=by
 obtain ⟨i0,hi,hz0,hz1,hz2⟩:=info_parts infoX
 refine run_buildSlice w 223 248 1 _ _ i0 _ underlying223 hi hz0 (by rw[hz1];decide) (by rw[hz1];decide) ?_
 rw[hz1]
 have hA:∀A:Array Value,A.size=2→Instr.fill (fun i=>some (i*2,2)) A [(0,.agg #[.int .u64 p,.slice q n m])]=some #[.int .u64 p,.slice q n m]:=by
  intro A hA
  have a0:=part_fill 0 [.int .u64 p,.slice q n m] A.toList (by simp;omega)
  simp only[Instr.fill,Value.cells,List.size_toArray,Nat.zero_mul]
  rw[if_neg (by simp[hA])]
  have a0':(#[Value.int .u64 p,.slice q n m]).zipIdx.foldl (fun cs x=>match x with | (c,j)=>cs.setIfInBounds (0+j) c) A=((A.toList.take 0++[Value.int .u64 p,Value.slice q n m]++A.toList.drop (0+2))).toArray:=a0
  rw[a0',List.drop_eq_nil_of_le (by simp[hA])]
  simp
 exact hA _ (by simp)
theorem XOwn.app {V:World}{B Bo:Nat}{t l f:Int}{v:Value}{txs:List TX}{vs:List Value}(h:XOwn 248 V B v txs vs)(hlg:LAt 225 V Bo (gcells t l f v))(hB:B≤V.heap.size)(hl:txs.length≤3000000){p:Int}{q:Option Addr}{k m:Nat}{ims:List Im}(hp:u64 p)(hw:ImsWf ims)(him:IOwn V B (.slice q k m) ims) :
  ∃q' c' V4,(Builtin.append_ #[223,223] 223 #[v,.slice (some ⟨V.heap.size,0,none⟩) 1 1]).run prog (V.alloc (.cells #[.int .u64 p,.slice q k m] 248))=.ok (.slice q' (txs.length+1) c') V4∧LAt 225 V4 Bo (gcells t l f v)∧(∀{g ty cs},ty≠248→LAt ty V g cs→LAt ty V4 g cs)∧XOwn 248 (V4.setCell ⟨Bo,3,none⟩ (.slice q' (txs.length+1) c')) B (.slice q' (txs.length+1) c') (txs++[⟨p,ims⟩]) (vs++[.slice q k m])∧Below B V V4∧(V.alloc (.cells #[.int .u64 p,.slice q k m] 248)).grownBy V4 v.ownBlock:=by
 obtain ⟨i0,hi0,hz0,hz1,hz2⟩:=info_parts infoX
 have h65:(4000000:Nat)≤maxLen:=by decide
 obtain ⟨v',V4,hrun,hown',hgrow,-⟩:=run_append_own (P:=prog) (V.alloc (.cells #[.int .u64 p,.slice q k m] 248)) B 223 223 248 i0 _ 2 32 underlying223 hi0 hz0 hz1 hz2 rfl (by decide) v txs.length _ (h.row.alloc _) ⟨V.heap.size,0,none⟩ 1 1 [.int .u64 p,.slice q k m] rfl (fun j u hu=>by
  rw[Addr.add_mid,Nat.zero_add];exact (LAt.cell (LAt.new 248 V [.int .u64 p,.slice q k m]) j).trans hu) (fun u hu=>by
  simp only[List.mem_cons,List.not_mem_nil,or_false] at hu
  rcases hu with rfl | rfl <;> rfl) (by omega) (by omega) (by simp;omega)
 obtain ⟨g',c',rfl⟩:=ownsRow_succ hown'
 have hlg4:LAt 225 V4 Bo (gcells t l f v):=lat_grown hlg (by decide) h.row hgrow
 have x4:∀(j:Nat) (y:TX) (u:Value),txs[j]?=some y→vs[j]?=some u→IOwn V4 B u y.ims:=fun j y u a b =>
  ((h.each j y u a b).alloc _).kept hgrow (own_ne (h.each j y u a b) h.row (by decide))
 have rowo:∀{C ty sz n u xs},ty≠225→V4.ownsRow C ty sz u n xs→(V4.setCell ⟨Bo,3,none⟩ (.slice (some ⟨g',0,none⟩) (txs.length+1) c')).ownsRow C ty sz u n xs:=by
  intro C ty sz n u xs h1 hr
  refine⟨hr.1,?_⟩
  rcases hr.2 with hr | ⟨g,cap,cur,e1,e2,e3,e4⟩
  ·exact .inl hr
  ·have n1:g≠Bo:=fun e=>by subst e;have:=e3.symm.trans hlg4;simp only[Option.some.injEq,Obj.cells.injEq] at this;exact h1 this.2.1
   exact .inr ⟨g,cap,cur,e1,e2,(heap_setCell_other _ ⟨Bo,3,none⟩ g _ n1).trans e3,e4⟩
 refine⟨_,c',V4,hrun,hlg4,fun hne hb=>lat_grown hb hne h.row hgrow,?_,?_,hgrow⟩
 ·refine⟨by rw[List.length_append,List.length_append,h.len];rfl,?_,fun j y u a b=>?_,h.wf.snoc ⟨hp,hw⟩⟩
  ·rw[List.map_append,List.zip_append (by rw[List.length_map,h.len]),List.length_append]
   show World.ownsRow _ _ _ _ _ _ (TC ((txs.map (·.p)).zip vs++[(p,.slice q k m)]))
   rw[TC_snoc]
   exact rowo (by decide) hown'
  ·by_cases cj:j<txs.length
   ·rw[List.getElem?_append_left cj] at a
    rw[List.getElem?_append_left (by rw[h.len];exact cj)] at b
    exact rowo (by decide) (x4 j y u a b)
   ·have hj:j=txs.length:=by
     have:=(List.getElem?_eq_some_iff.1 a).1
     simp only[List.length_append,List.length_singleton] at this
     omega
    subst hj
    rw[List.getElem?_append_right (Nat.le_refl _),Nat.sub_self] at a
    rw[← h.len,List.getElem?_append_right (Nat.le_refl _),Nat.sub_self] at b
    cases a;cases b
    exact rowo (by decide) ((him.alloc _).kept hgrow (own_ne him h.row (by decide)))
 ·exact ((Below.refl B V).alloc hB _).grown hgrow (by simp;omega) fun j ej=>(h.row.lt j ej).1
theorem MIn.grown {w w':World}{g n:Nat}{l:List Im}{row:Option Nat}(h:MIn w (some ⟨g,0,none⟩) n l)(hg:w.grownBy w' row)(hne:row≠some g):MIn w' (some ⟨g,0,none⟩) n l:=by
 refine⟨h.len,h.wf,fun h0=>?_⟩
 obtain ⟨b,o,e,hr⟩:=h.cells h0
 cases e
 exact⟨g,0,rfl,range_block hr (hg.block g (range_lt hr (by rw[IC_len h.wf,h.len];omega)) fun e'=>hne e'.symm)⟩
def dropA (q:Option Addr)(k c:Nat):Option Addr:=if c=k then q else q.map (·.add (k*33))
theorem MIn.drop {w:World}{q:Option Addr}{n:Nat}{l:List Im}(h:MIn w q n l){k c:Nat}(hk:k≤n)(hc:n≤c):MIn w (dropA q k c) (n-k) (l.drop k):=by
 refine⟨by rw[List.length_drop,h.len],fun x hx=>h.wf x (List.mem_of_mem_drop hx),fun h0=>?_⟩
 obtain ⟨b,o,e,hr⟩:=h.cells (by omega)
 subst e
 refine⟨b,o+k*33,by unfold dropA;rw[if_neg (by omega),Option.map_some,Addr.add_mid],fun j v hv=>?_⟩
 have e2:IC l=IC (l.take k)++IC (l.drop k):=by rw[← IC_append,List.take_append_drop]
 have el:(IC (l.take k)).length=k*33:=by rw[IC_len fun x hx=>h.wf x (List.mem_of_mem_take hx),List.length_take,h.len,Nat.min_eq_left hk]
 have:=hr (k*33+j) v (by rw[e2,List.getElem?_append_right (by omega),el,Nat.add_sub_cancel_left];exact hv)
 rw[Nat.add_assoc];exact this
theorem app_ims {W:World}{B:Nat}{v:Value}{l0 l:List Im}{q:Option Addr}{m c:Nat}(h0:IOwn W B v l0)(hw0:ImsWf l0)(h:MIn W q m l)(hm:l0.length+m≤3000000)(hB:B≤W.heap.size):∃q' c' W',(Builtin.append_ #[92,92] 92 #[v,.slice q m c]).run prog W=.ok (.slice q' (l0++l).length c') W'∧IOwn W' B (.slice q' (l0++l).length c') (l0++l)∧W.grownBy W' v.ownBlock∧((Value.slice q' (l0++l).length c').ownBlock=v.ownBlock∨(Value.slice q' (l0++l).length c').ownBlock=some W.heap.size):=by
 obtain ⟨i0,hi0,hz0,hz1,hz2⟩:=info_parts infoI
 have h65:(4000000:Nat)≤maxLen:=by decide
 have hwf:ImsWf (l0++l):=fun x hx=>(List.mem_append.1 hx).elim (hw0 x) (h.wf x)
 have go:∀(ad:Addr),q=some ad→∃q' c' W',(Builtin.append_ #[92,92] 92 #[v,.slice q m c]).run prog W=.ok (.slice q' (l0++l).length c') W'∧IOwn W' B (.slice q' (l0++l).length c') (l0++l)∧W.grownBy W' v.ownBlock∧((Value.slice q' (l0++l).length c').ownBlock=v.ownBlock∨(Value.slice q' (l0++l).length c').ownBlock=some W.heap.size):=by
  rintro ad rfl
  obtain ⟨v',W',hrun,hown',hgrow,-,hat⟩:=run_append_own_at (P:=prog) W B 92 92 155 i0 _ 33 40 underlying92 hi0 hz0 hz1 hz2 rfl (by decide) v l0.length (IC l0) h0 ad m c (IC l) (by rw[IC_len h.wf,h.len]) (fun j u hu=>by
   by_cases hp:0<m
   ·obtain ⟨b',o',e,hr⟩:=h.cells hp
    cases e
    rw[Addr.add_mid]
    exact hr j u hu
   ·have:l=[]:=List.length_eq_zero_iff.1 (by rw[h.len];omega)
    rw[this] at hu;simp[IC] at hu) (IC_ones l) (by omega) (by omega) hB
  have hown2:IOwn W' B v' (l0++l):=by
   rw[IOwn,List.length_append,h.len,IC_append];exact hown'
  obtain ⟨q',c',rfl,-,-,-⟩:=IOwn.in hown2 hwf
  exact⟨q',c',W',hrun,hown2,hgrow,hat⟩
 by_cases hp:0<m
 ·obtain ⟨b,o,e,-⟩:=h.cells hp
  exact go _ e
 ·have m0:m=0:=by omega
  have e0:l=[]:=List.length_eq_zero_iff.1 (by rw[h.len,m0])
  cases q with
  | none =>
   subst m0;subst e0
   have hr:(Builtin.append_ #[92,92] 92 #[v,.slice none 0 c]).run prog W=.ok v W:=by
    rcases h0.2 with ⟨rfl,_⟩ | ⟨g,cap,cur,rfl,_,_,hnc,_⟩
    ·simp[Builtin.append_,run_underlying underlying92,sizeOf,typeInfo,hi0,Builtin.lenOf,Builtin.firstCells]
    ·simp[Builtin.append_,run_underlying underlying92,sizeOf,typeInfo,hi0,Builtin.lenOf,Builtin.firstCells,hnc,storeCells]
   obtain ⟨q',c',rfl,-,-,-⟩:=IOwn.in h0 hw0
   rw[List.append_nil]
   exact⟨q',c',W,hr,h0,⟨rfl,rfl,rfl,Nat.le_refl _,fun _ _ _=>rfl⟩,.inl rfl⟩
  | some ad=>exact go ad rfl
theorem app_imsL {W:World}{B:Nat}{v:Value}{l0 l:List Im}{q:Option Addr}{m c:Nat}(h0:IOwn W B v l0)(hw0:ImsWf l0)(h:MIn W q m l)(hm:l0.length+m≤3000000)(hB:B≤W.heap.size):∃q' m' c' W',(Builtin.append_ #[92,92] 92 #[v,.slice q m c]).run prog W=.ok (.slice q' m' c') W'∧IOwn W' B (.slice q' m' c') (l0++l)∧W.grownBy W' v.ownBlock∧((Value.slice q' m' c').ownBlock=v.ownBlock∨(Value.slice q' m' c').ownBlock=some W.heap.size):=by
 obtain ⟨q',c',W',h1,h2,h3,h4⟩:=app_ims (c:=c) h0 hw0 h hm hB
 exact⟨q',_,c',W',h1,h2,h3,h4⟩
theorem IOwn.put {W:World}{B g n c:Nat}{l:List Im}(h:IOwn W B (.slice (some ⟨g,0,none⟩) n c) l)(hw:ImsWf l)(i:Im)(hi:i.Wf)(k:Nat)(hk:k<l.length) :
  ∃W',(Instr.storeAt 155 (.pointer (some ⟨g,k*33,none⟩)) (.agg (icells i).toArray)).run prog W=.ok () W'∧IOwn W' B (.slice (some ⟨g,0,none⟩) n c) (l.take k++[i]++l.drop (k+1))∧W.grownBy W' (some g):=by
 obtain ⟨i0,hi0,hz0,hz1,hz2⟩:=info_parts infoI
 have hwt:ImsWf (l.take k):=fun x hx=>hw x (List.mem_of_mem_take hx)
 have hwd:ImsWf (l.drop (k+1)):=fun x hx=>hw x (List.mem_of_mem_drop hx)
 have hll:(l.take k++[i]++l.drop (k+1)).length=l.length:=by simp;omega
 rcases h.2 with ⟨e,_⟩ | ⟨g',cap,cur,e,h0,hg,h1,h2,h3,h4⟩
 ·cases e
 ·cases e
  have hsz:cur.size=c*33:=h3
  have hst:=run_storeCells_at prog g (k*33) 155 (icells i) 0 cur W hg (by rw[icells_len hi.len];omega) (icells_ones i)
  rw[Nat.add_zero,icells_len hi.len] at hst
  have hr:(Instr.storeAt 155 (.pointer (some ⟨g,k*33,none⟩)) (.agg (icells i).toArray)).run prog W=.ok () (W.setRow g (cur.toList.take (k*33)++icells i++cur.toList.drop (k*33+33)).toArray):=by
   simp[Instr.storeAt,Instr.sureAddr,storeVar,sizeOf,typeInfo,hi0,hz1,Value.cells,icells_len hi.len,hst]
  refine⟨_,hr,⟨?_,.inr ⟨g,c,_,by rw[hll],h0,setRow_heap W g cur _ 155 _ hg,by rw[hll];exact h1,h2,?_,?_⟩⟩,⟨rfl,rfl,rfl,by simp,fun k _ hk=>setRow_other W g k _ (fun e=>hk (by simp[e]))⟩⟩
  ·rw[hll,IC_len,hll]
   intro x hx
   rcases List.mem_append.1 hx with hx | hx
   ·rcases List.mem_append.1 hx with hx | hx
    ·exact hwt x hx
    ·rw[List.mem_singleton.1 hx];exact hi
   ·exact hwd x hx
  ·simp only[List.size_toArray,List.length_append,List.length_take,List.length_drop,Array.length_toList,icells_len hi.len]
   omega
  ·have ec:cur.toList=IC l++cur.toList.drop (l.length*33):=by rw[← h4,List.take_append_drop]
   have e2:IC l=IC (l.take k)++(icells l[k]++IC (l.drop (k+1))):=by
    have e0:l=l.take k++([l[k]]++l.drop (k+1)):=by
     rw[List.singleton_append,← List.drop_eq_getElem_cons hk,List.take_append_drop]
    have e1:IC l=IC (l.take k++([l[k]]++l.drop (k+1))):=congrArg IC e0
    rw[e1,IC_append,IC_append,show IC [l[k]]=icells l[k] by simp[IC]]
   have el:(IC (l.take k)).length=k*33:=by rw[IC_len hwt,List.length_take,Nat.min_eq_left (by omega)]
   have ex:(icells l[k]).length=33:=icells_len (hw _ (List.getElem_mem hk)).len
   have t1:cur.toList.take (k*33)=IC (l.take k):=by
    have e5:cur.toList=IC (l.take k)++((icells l[k]++IC (l.drop (k+1)))++cur.toList.drop (l.length*33)):=by rw[← List.append_assoc,← e2];exact ec
    rw[← el,e5,List.take_left]
   have t2:cur.toList.drop (k*33+33)=IC (l.drop (k+1))++cur.toList.drop (l.length*33):=by
    have e5:cur.toList=(IC (l.take k)++icells l[k])++(IC (l.drop (k+1))++cur.toList.drop (l.length*33)):=by
     rw[← List.append_assoc,List.append_assoc (IC (l.take k)),← e2];exact ec
    generalize cur.toList.drop (l.length*33)=rest at *
    rw[e5,show k*33+33=(IC (l.take k)++icells l[k]).length by rw[List.length_append,el,ex],List.drop_left]
   have e3:IC (l.take k++[i]++l.drop (k+1))=IC (l.take k)++icells i++IC (l.drop (k+1)):=by rw[IC_append,IC_append];simp[IC]
   have e4:(IC (l.take k)++icells i++IC (l.drop (k+1))).length=l.length*33:=by
    have hd:(l.drop (k+1)).length=l.length-(k+1):=List.length_drop
    rw[List.length_append,List.length_append,el,icells_len hi.len,IC_len hwd,hd];omega
   rw[hll,t1,t2,e3]
   show List.take _ (IC (l.take k)++icells i++(IC (l.drop (k+1))++_))=_
   rw[← List.append_assoc,← e4,List.take_left]
end Go.Proofs.YtdadpepfpiimgaaGreatDoor
namespace Go.Proofs.YtdadpepfpiimgaaGreatDoor.R
open Go.Proofs.Tryz
open Go.RowKit
theorem at_seq {P:Program}{ops:Array Oper}{rest:List Oper}{o:Oper}{a:Act}{w:World}{Q:Exit→Act→World→Prop}(h:wpList P ops Q (o :: rest) a w):wpList P ops Q (o :: rest) a w:=h
def commitR (r:Rec):Bool:=r.kind == 2 && (r.block == 0 && (decide (r.val=zs 32) && (decide (0≤r.images) && decide (r.images≤16))))
theorem commitR_eq (r:Rec):commitR r=commitB r:=by
 unfold commitR commitB
 cases (r.kind == 2) <;> cases (r.block == 0) <;> cases (decide (r.val=zs 32)) <;> cases (decide (0≤r.images)) <;> cases (decide (r.images≤16)) <;> rfl
theorem refCheck_any (r:Rec)(hv:r.val.length=32)(w:World) :
  Calls prog 173 #[.agg (rcells r).toArray] w fun e w'=>e=.returned (.int .i64 (chk r))∧Below w.heap.size w w':=by
 have hA:=RAt.new 245 w r
 have c0:=hA.c0
 have c1:=hA.c1
 have c2:=hA.c2
 have c4:=hA.c35 hv
 have L3:Hid (_):=hA.load24 hv
 have B3:Hid (_):=build24 (w.alloc (.cells (rcells r).toArray 245))
 have Q3:Hid (_):=eql24 (w.alloc (.cells (rcells r).toArray 245)) r.val (zs 32) hv (zs_len 32)
 have HB:Hid (Below w.heap.size w (w.alloc (.cells (rcells r).toArray 245))):=below_alloc w _
 have HK:Hid (chk r=if (decide (r.pos≤4611686018427387904) && (imageB r || commitR r))=true then 0 else 60):=by show _=_;rw[commitR_eq];rfl
 clear hA hv
 go_enter func173,ntmps173
 go_wp2_with ((with_reducible refine at_seq ?_);(first | (refine wpList_load_is (by rfl) 39 rfl rfl L3.out ?_) | (refine wpList_build_is (vs:=[]) (by rfl) 39 rfl (by rfl) B3.out ?_) | (refine wpList_eql_is (by rfl) 39 rfl rfl rfl eqg24 Q3.out ?_));simp only[Act.put,zA,zB,zC])
 all_goals go_ret
 all_goals (refine⟨?_,HB.out⟩)
 all_goals (rw[HK.out];clear c0 c1 c2 c4 L3 B3 Q3 HB HK;unfold imageB commitR;simp_all <;> (intros;omega))
def lay (P D:List Int)(m j:Nat):List Int:=(P++D.take j)++zs (m-j)
theorem lay_zero (P D:List Int)(m:Nat):lay P D m 0=P++zs m:=by simp[lay]
theorem lay_all (P D:List Int)(m j:Nat)(h:D.length=j):lay P D m j=(P++D)++zs (m-j):=by
 unfold lay;rw[List.take_of_length_le (by omega)]
theorem lay_len (P D:List Int)(m j:Nat)(hj:j≤D.length)(hm:D.length≤m):(lay P D m j).length=P.length+m:=by
 simp[lay,zs];omega
theorem lay_step (P D:List Int)(m j at0:Nat)(hp:P.length=at0)(hj:j<D.length)(hm:D.length≤m):(lay P D m j).set (at0+j) D[j]=lay P D m (j+1):=by
 unfold lay
 rw[List.take_succ_eq_append_getElem hj,List.set_append_right _ _ (by simp;omega)]
 have e:m-j=(m-(j+1))+1:=by omega
 rw[e]
 unfold zs
 rw[List.replicate_succ]
 have e2:at0+j-(P++D.take j).length=0:=by simp;omega
 rw[e2,zB]
 simp only[List.append_assoc,List.cons_append,List.nil_append]
theorem dig_at (k:Nat)(n:Int)(j:Nat)(h:j<(digits k n).length):(n / 256 ^ j) % 256=(digits k n)[j]:=(digits_get k n j h).symm
theorem refPut_any (B g cap at0 size m:Nat)(P:List Int)(n:Int)(w0 w:World)(ho:w.ownsRow B 5 1 (.slice (some ⟨g,0,none⟩) 64 cap) 64 (U8 (P++zs m)))(hb:Below B w0 w)(hp:P.length=at0)(hm:at0+m=64)(hs:size≤m)(hs8:size≤8)(h0:0≤n)(h1:n≤18446744073709551615) :
  Calls prog 174 #[.slice (some ⟨g,0,none⟩) 64 cap,.int .i64 at0,.int .u64 n,.int .i64 size] w fun e w'=>e=.returned (.tuple #[])∧w'.ownsRow B 5 1 (.slice (some ⟨g,0,none⟩) 64 cap) 64 (U8 ((P++digits size n)++zs (m-size)))∧Below B w0 w':=by
 have HD:Hid ((digits size n).length=size):=digits_length size n
 have HP:Hid (P.length=at0):=hp
 have HO:Hid (w.ownsRow B 5 1 (.slice (some ⟨g,0,none⟩) 64 cap) 64 (U8 (lay P (digits size n) m 0))):=by rw[lay_zero];exact ho
 have HB:Hid (Below B w0 w):=hb
 clear ho hb hp
 go_enter func174,ntmps174
 go_wp2
 go_loopw [2,8] (fun v i wr=>∃j:Nat,j≤size∧i=.int .i64 j∧v=.int .u64 (n / 256 ^ j)∧Hid (wr.ownsRow B 5 1 (.slice (some ⟨g,0,none⟩) 64 cap) 64 (U8 (lay P (digits size n) m j))∧Below B w0 wr)) (fun _ i _=>size-(intOf i).toNat)
 case atStart=>exact⟨0,Nat.zero_le _,rfl,by simp,HO.out,HB.out⟩
 case round =>
  obtain ⟨j,hj,rfl,rfl,HR⟩:=hrel
  clear HO HB
  have hnj0:0≤n / 256 ^ j:=Int.ediv_nonneg h0 (Int.le_of_lt (pow_pos j))
  have hnj1:n / 256 ^ j≤n:=Int.ediv_le_self _ h0
  by_cases hlt:j<size
  ·have hdl:j<(digits size n).length:=by rw[HD.out];exact hlt
   have HV:Hid ((n / 256 ^ j) % 256=(digits size n)[j]):=dig_at size n j hdl
   have hst:=HR.out.1.stored (at0+j) (.int .u8 ((digits size n)[j]))
   have hset:(U8 (lay P (digits size n) m j)).set (at0+j) (.int .u8 ((digits size n)[j]))=U8 (lay P (digits size n) m (j+1)):=by
    rw[← lay_step P _ m j at0 HP.out hdl (by rw[HD.out];exact hs)]
    simp[U8,List.map_set]
   rw[hset] at hst
   have hcell:=HR.out.1.cellAt (at0+j) (by omega)
   have hlen:(U8 (lay P (digits size n) m j)).length=64:=by rw[List.length_map,lay_len _ _ _ _ (by have:=HD.out;omega) (by have:=HD.out;omega),HP.out];omega
   obtain ⟨u,hu⟩:∃u,w.cell? ⟨g,at0+j,none⟩=w.cell? ⟨g,at0+j,none⟩∧wr.cell? ⟨g,at0+j,none⟩=some u:=⟨_,rfl,by rw[hcell];exact List.getElem?_eq_getElem (by omega)⟩
   have hu2:=hu.2
   have hfz:=HR.out.1.frozenAt (at0+j)
   have HN:Hid (n / 256 ^ (j+1)=n / 256 ^ j / 256):=by
    show _=_
    rw[Int.pow_succ,Int.ediv_ediv_of_nonneg (Int.le_of_lt (pow_pos j))]
   have HQ:Hid ((wr.setCell ⟨g,at0+j,none⟩ (.int .u8 ((digits size n)[j]))).ownsRow B 5 1 (.slice (some ⟨g,0,none⟩) 64 cap) 64 (U8 (lay P (digits size n) m (j+1)))∧Below B w0 (wr.setCell ⟨g,at0+j,none⟩ (.int .u8 ((digits size n)[j])))) :=
    ⟨hst.1,HR.out.2.setCell (HR.out.1.lt g rfl).1 _⟩
   clear hst hset hcell hlen HR hu
   rw[← HV.out] at HQ
   generalize n / 256 ^ j=N at *
   have i1:(at0:Int)+(j:Int)<64:=by omega
   have i0:(0:Int)≤(at0:Int)+(j:Int):=by omega
   have t1:N.tmod 256=N % 256:=Int.tmod_eq_emod_of_nonneg hnj0
   have t2:N.tdiv 256=N / 256:=Int.tdiv_eq_ediv_of_nonneg hnj0
   go_wp2
   go_roundw
   case rel=>exact⟨j+1,by omega,by go_num,by rw[HN.out],HQ.out⟩
   case measure=>simp[intOf];omega
  ·obtain rfl:j=size:=by omega
   have HE:Hid (wr.ownsRow B 5 1 (.slice (some ⟨g,0,none⟩) 64 cap) 64 (U8 ((P++digits j n)++zs (m-j)))∧Below B w0 wr):=⟨by have:=HR.out.1;rw[lay_all _ _ _ _ HD.out] at this;exact this,HR.out.2⟩
   clear HR
   go_wp2
   go_end0
   exact⟨rfl,HE.out⟩
theorem worth_drop (D:List Int)(k:Nat)(h:k<D.length):worth (D.drop k)=D[k]+256*worth (D.drop (k+1)):=by
 rw[List.drop_eq_getElem_cons h];rfl
theorem worth_bd' (D:List Int)(hD:Bytes D)(j:Nat)(h:D.length=j)(hj:j≤7):0≤worth D∧worth D<72057594037927936:=by
 have:=worth_bd D hD
 rw[h] at this
 have e:(256:Int) ^ j≤72057594037927936:=(show ∀j:Nat,j≤7→(256:Int) ^ j≤72057594037927936 by decide) j hj
 omega
theorem refNumber_any (p:Option Addr)(c at0 size:Nat)(xs:List Int)(w:World)(hx:BIn w p 64 xs)(hs:at0+size≤64)(hs8:size≤8) :
  Calls prog 165 #[.slice p 64 c,.int .i64 at0,.int .i64 size] w fun e w'=>e=.returned (.int .u64 (worth ((xs.drop at0).take size)))∧w=w':=by
 obtain ⟨b,o,rfl,hcs⟩:=hx.cells (by omega)
 have HL:Hid (xs.length=64):=hx.len
 have HC:Hid (∀i,i<64→w.cell? ⟨b,o+i,none⟩=some (.int .u8 (xs.getD i 0))):=hcs
 obtain ⟨D,hD⟩:∃D,D=(xs.drop at0).take size:=⟨_,rfl⟩
 have HDL:Hid (D.length=size):=by rw[hD];show _=_;simp[hx.len];omega
 have HDB:Hid (Bytes D):=by rw[hD];exact (hx.byte.drop at0).take size
 have HDG:Hid (∀k (h:k<D.length),xs.getD (at0+k) 0=D[k]):=by
  intro k h
  have hk:k<size:=by rw[HDL.out] at h;exact h
  have e:D[k]?=xs[at0+k]?:=by rw[hD,List.getElem?_take,if_pos hk,List.getElem?_drop]
  rw[List.getElem?_eq_getElem h] at e
  rw[List.getD,← e]
  rfl
 rw[← hD]
 clear hD hx hcs
 go_enter func165,ntmps165
 go_wp2
 go_loop [7,8] (fun v i=>∃j:Nat,j≤size∧i=.int .i64 ((size:Int)-1-j)∧v=.int .u64 (worth (D.drop (size-j)))) (fun _ i=>((intOf i)+1).toNat)
 case atStart=>exact⟨0,Nat.zero_le _,by simp,by rw[Nat.sub_zero,List.drop_of_length_le (by rw[HDL.out];omega)];rfl⟩
 case round =>
  obtain ⟨j,hj,rfl,rfl⟩:=hrel
  by_cases hlt:j<size
  ·have hk:size-1-j<D.length:=by rw[HDL.out];omega
   have hc:=HC.out (at0+(size-1-j)) (by omega)
   rw[HDG.out _ hk] at hc
   have hb:=HDB.out.at _ hk
   have hw:=worth_bd' (D.drop (size-j)) (HDB.out.drop _) j (by rw[List.length_drop,HDL.out];omega) (by omega)
   have HS:Hid (worth (D.drop (size-(j+1)))=D[size-1-j]+256*worth (D.drop (size-j))):=by
    have:=worth_drop D (size-1-j) hk
    rw[show size-1-j+1=size-j by omega] at this
    rw[show size-(j+1)=size-1-j by omega]
    exact this
   generalize D[size-1-j]=x at *
   generalize worth (D.drop (size-j))=M at *
   obtain ⟨hw0,hw1⟩:=hw
   obtain ⟨hb0,hb1⟩:=hb
   obtain ⟨K,hK⟩:∃K,K=size-1-j:=⟨_,rfl⟩
   have hKi:(size:Int)-1-(j:Int)=(K:Int):=by omega
   rw[← hK] at hc
   have HKI:Hid (K+1+j=size):=by show _=_;omega
   rw[hKi]
   clear hK hKi hk
   have i1:(at0:Int)+(K:Int)<64:=by have:=HKI.out;omega
   have i0:(0:Int)≤(at0:Int)+(K:Int):=by omega
   go_wp2
   go_round
   case rel =>
    refine⟨j+1,by omega,?_,by rw[HS.out,Int.add_comm]⟩
    have:=HKI.out
    go_num
   case measure=>simp[intOf]
  ·obtain rfl:j=size:=by omega
   have hi:(j:Int)-1-(j:Int)=-1:=by omega
   rw[hi]
   rw[Nat.sub_self,List.drop_zero]
   clear hi
   go_wp2
   go_ret
   exact⟨rfl,rfl⟩
end Go.Proofs.YtdadpepfpiimgaaGreatDoor.R
