import Derived.Test.YtcdjepkhdjpjcaaGreatDoorV06
set_option maxHeartbeats 20000000
set_option maxRecDepth 100000
namespace Go.Proofs.YtcdjepkhdjpjcaaGreatDoor
open Go.Proofs.Tryz
open Go.RowKit
theorem wref_at (s:Sup)(t l:Int)(ht0:0≤t)(hl0:0≤l){w:World}{S:Nat→Prop}{p n:Nat}{d:List Int}{ws:List Wr}(h:Dsk w S p n d ws) :
  Calls prog 119 #[.pointer (some ⟨p,0,none⟩),.agg (ccells s).toArray,.int .u64 t,.int .u64 l] w fun e w'=>e=.returned (.int .i64 (opnS s n t l))∧Below w.heap.size w w':=by
 have L1:Hid (_):=CAt.load23 (LAt.new 23 w (ccells s))
 have HA:Hid (CAt (w.alloc (.cells (ccells s).toArray 23)) w.heap.size s):=LAt.new 23 w (ccells s)
 have HB:Hid (Below w.heap.size w (w.alloc (.cells (ccells s).toArray 23))):=below_alloc w _
 have HD:Hid (Dsk w S p n d ws):=h
 clear h
 go_enter func119,ntmps119
 go_wp2_with ((with_reducible refine at_ops ?_);(refine wpList_load_is (by rfl) 23 rfl rfl L1.out ?_);simp only[Act.put,zA,zB,zC])
 refine (config_any s _).mono ?_
 rintro e w1 ⟨rfl,b1⟩
 have HA1:Hid (CAt w1 w.heap.size s):=LAt.later HA.out b1
 have HB1:Hid (Below w.heap.size w w1):=below_then HB.out b1
 have HD1:Hid (Dsk w1 S p n d ws):=HD.out.later HB1.out
 clear b1 HA HB L1 HD
 by_cases hc:MayC s
 ·rw[cfg_yes s hc]
  have HC:Hid (MayC s):=hc
  obtain ⟨⟨a1,a2⟩,⟨a3,a4⟩,-⟩:=hc
  obtain ⟨bl,hbl⟩:∃x,x=s.bl:=⟨_,rfl⟩
  obtain ⟨lc,hlc⟩:∃x,x=s.lc:=⟨_,rfl⟩
  have k1:IntKind.i64.wrap (1+bl)=1+bl:=by rw[IntKind.wrap_i64];omega
  have k2:IntKind.i64.wrap (1+bl+lc)=1+bl+lc:=by rw[IntKind.wrap_i64];omega
  have HE:Hid ((¬(n:Int)=1+bl+lc→opnS s n t l=40)∧((n:Int)=1+bl+lc→(t>4611686018427387904∨l>4611686018427387904)→opnS s n t l=31)∧((n:Int)=1+bl+lc→¬(t>4611686018427387904∨l>4611686018427387904)→l=0→opnS s n t l=2)∧((n:Int)=1+bl+lc→¬(t>4611686018427387904∨l>4611686018427387904)→¬l=0→opnS s n t l=0)):=by
   rw[hbl,hlc];exact⟨fun h=>opnS_len t l HC.out h,fun h h2=>opnS_wrap HC.out h h2,fun h h2 h3=>opnS_life HC.out h h2 h3,fun h h2 h3=>opnS_ok HC.out h h2 h3⟩
  have HC0:Hid (∀w',CAt w' w.heap.size s→w'.cell? ⟨w.heap.size,0,none⟩=some (.int .i64 bl)∧w'.cell? ⟨w.heap.size,1,none⟩=some (.int .i64 lc)):=by rw[hbl,hlc];exact fun w' h=>⟨CAt.c0 h,CAt.c1 h⟩
  clear hbl hlc a1 a2 a3 a4
  go_wp2_with fail
  refine wp_region_noPanic ?_
  refine wp_region_held_drew (S:=fun w'=>Below w1.heap.size w1 w') (by kernel_rfl) (below_drawn 1) (fun hHeld=>?_)
  have D1:Hid (Below w1.heap.size w1 w1.drew):=hHeld
  generalize w1.drew=wd at *
  refine tk 0 hHeld ?_
  refine tk 2 hHeld ?_
  refine tkl 3 hHeld (fun _ hSw=>(HC0.out _ (LAt.later HA1.out hSw)).1) ?_
  refine tk 4 hHeld ?_
  refine tk 5 hHeld ?_
  refine tkl 6 hHeld (fun _ hSw=>(HC0.out _ (LAt.later HA1.out hSw)).2) ?_
  refine tk 7 hHeld ?_
  refine wpAnyH_ready (rs:=[1]) (by kernel_rfl) (by simp) ?_
  refine AllReadyH.cons (by simp;rfl) (fun Kc hKc=>?_) AllReadyH.nil
  go_simp
  refine (len_any (HD1.out.later D1.out)).mono ?_
  rintro e wn ⟨rfl,rfl⟩
  refine hKc.out _ _ D1.out (fun hHeld=>?_)
  clear hKc Kc
  refine tk 8 hHeld ?_
  have HB2:Hid (Below w.heap.size w wd):=below_then HB1.out D1.out
  clear hHeld D1 HD1 HC0
  refine wpAnyH_done (by kernel_rfl) (NoPanic.normal ?_) _
  by_cases he:(n:Int)=1+bl+lc
  ·have hq:((n:Int) != 1+bl+lc)=false:=by rw[he];simp
   by_cases hM:t>4611686018427387904∨l>4611686018427387904
   ·have HR:Hid (_):=HE.out.2.1 he hM
    clear he HE
    by_cases hM1:4611686018427387904<t
    ·clear hM
     go_wp2_with fail
     go_ret
     exact⟨by rw[HR.out];rfl,HB2.out⟩
    ·have hM2:4611686018427387904<l:=by omega
     clear hM
     go_wp2_with fail
     go_ret
     exact⟨by rw[HR.out];rfl,HB2.out⟩
   ·have hM1:¬4611686018427387904<t:=by omega
    have hM2:¬4611686018427387904<l:=by omega
    by_cases h0:l=0
    ·have HR:Hid (_):=HE.out.2.2.1 he hM h0
     clear he HE hM
     subst h0
     go_wp2_with fail
     go_ret
     exact⟨by rw[HR.out];rfl,HB2.out⟩
    ·have HR:Hid (_):=HE.out.2.2.2 he hM h0
     clear he HE hM
     go_wp2_with fail
     go_ret
     exact⟨by rw[HR.out];rfl,HB2.out⟩
  ·have hq:((n:Int) != 1+bl+lc)=true:=by simp[he]
   have HR:Hid (_):=HE.out.1 he
   clear he HE
   go_wp2_with fail
   go_ret
   exact⟨by rw[HR.out];rfl,HB2.out⟩
 ·rw[cfg_no s hc]
  have HR:Hid (opnS s n t l=3):=opnS_no _ _ _ hc
  clear hc
  go_wp2_with fail
  go_ret
  exact⟨by rw[HR.out];rfl,HB1.out⟩
theorem Kept.drewN {S:Nat→Prop}{a w:World}(h:Kept S a w)(n:Nat):Kept S a (w.drewN n):=⟨h.os,h.tape,h.output,h.size,h.block⟩
def plL:List (Nat × Nat):=[(0,1),(1,5),(6,1),(7,1),(8,1),(9,1),(10,1),(11,1)]
theorem placesL:placesOf prog 92=some plL:=by kernel_rfl
def lg0:Lg:=⟨sup0,0,0,0,0,0,0⟩
theorem zeroL:(prog.info? 92).bind (·.zero)=some (.agg (lcells none lg0).toArray):=by kernel_rfl
theorem fillL (dp:Option Addr)(s:Sup)(t l:Int):Instr.fill (plL.toArray[·]?) (lcells none lg0).toArray [(0,.pointer dp),(1,.agg (ccells s).toArray),(2,.int .u64 l),(3,.int .u64 t),(4,.int .u64 t),(5,.int .u64 t),(7,.int .i64 (-1))]=some (lcells dp (opnG s t l)).toArray:=by
 rw[fill_step 0 1 0 rfl _ [.pointer dp] _ rfl rfl (by simp[lcells]),fill_step 1 5 1 rfl _ (ccells s) _ rfl rfl (by simp[lcells]),fill_step 6 1 2 rfl _ [.int .u64 l] _ rfl rfl (by simp[lcells,ccells]),fill_step 7 1 3 rfl _ [.int .u64 t] _ rfl rfl (by simp[lcells,ccells]),fill_step 8 1 4 rfl _ [.int .u64 t] _ rfl rfl (by simp[lcells,ccells]),fill_step 9 1 5 rfl _ [.int .u64 t] _ rfl rfl (by simp[lcells,ccells]),fill_step 11 1 7 rfl _ [.int .i64 (-1)] _ rfl rfl (by simp[lcells,ccells])]
 rfl
theorem buildL (w:World)(dp:Option Addr)(s:Sup)(t l:Int):(Instr.build 92 #[(0,.pointer dp),(1,.agg (ccells s).toArray),(2,.int .u64 l),(3,.int .u64 t),(4,.int .u64 t),(5,.int .u64 t),(7,.int .i64 (-1))]).run prog w=.ok (.agg (lcells dp (opnG s t l)).toArray) w :=
 run_build w 92 _ _ ((built_of 92 _ _ _ placesL zeroL).trans (fillL dp s t l))
theorem open_ok (s:Sup)(t l:Int)(ht0:0≤t)(hl0:0≤l){w:World}{S:Nat→Prop}{p n:Nat}{d:List Int}{ws:List Wr}(h:Dsk w S p n d ws)(hr:opnS s n t l=0) :
  Calls prog 57 #[.pointer (some ⟨p,0,none⟩),.agg (ccells s).toArray,.int .u64 t,.int .u64 l] w fun e w'=>∃L,e=.returned (.tuple #[.pointer (some ⟨L,0,none⟩),.int .i64 0])∧w.heap.size≤L∧LD w' (More S w) L p d ws (opnG s t l)∧Below w.heap.size w w':=by
 have HB:Hid (Below w.heap.size w (w.alloc (.cells (ccells s).toArray 23))):=below_alloc w _
 have L1:Hid (_):=CAt.load23 (LAt.new 23 w (ccells s))
 have HA:Hid (CAt (w.alloc (.cells (ccells s).toArray 23)) w.heap.size s):=LAt.new 23 w (ccells s)
 have HD:Hid (Dsk w S p n d ws):=h
 have HR:Hid (opnS s n t l=0):=hr
 clear h hr
 go_enter func57,ntmps57
 go_wp2_with ((with_reducible refine at_ops ?_);(refine wpList_load_is (by rfl) 23 rfl rfl L1.out ?_);simp only[Act.put,zA,zB,zC])
 refine (wref_at s t l ht0 hl0 (HD.out.later HB.out)).mono ?_
 rintro e w1 ⟨rfl,b1⟩
 have HB1:Hid (Below w.heap.size w w1):=below_then HB.out b1
 have HA1:Hid (CAt w1 w.heap.size s):=LAt.later HA.out b1
 have L2:Hid (_):=CAt.load23 HA1.out
 have B2:Hid (_):=buildL w1 (some ⟨p,0,none⟩) s t l
 rw[HR.out]
 clear b1 HB L1 HA
 go_wp2_with ((with_reducible refine at_ops ?_);(first | (refine wpList_load_is (by rfl) 23 rfl rfl L2.out ?_) | (refine wpList_build_is (vs:=[(0,.pointer (some ⟨p,0,none⟩)),(1,.agg (ccells s).toArray),(2,.int .u64 l),(3,.int .u64 t),(4,.int .u64 t),(5,.int .u64 t),(7,.int .i64 (-1))]) (by rfl) 92 rfl (by rfl) B2.out ?_));simp only[Act.put,zA,zB,zC])
 go_ret2
 have hb2:=below_alloc w1 (.cells (lcells (some ⟨p,0,none⟩) (opnG s t l)).toArray 92)
 have hn:n=(opnG s t l).sz:=by
  have h1:=(opnS_zero HR.out).2.1
  have h2:=(opnG_ok HR.out ht0 hl0).sz_is
  have h3:(opnG s t l).c=s:=rfl
  rw[h3] at h2
  omega
 have hb3:=below_then HB1.out hb2
 have hs:=HB1.out.size
 refine⟨w1.heap.size,rfl,hs,⟨LAt.new 92 w1 _,?_,.inr hs,opnG_ok HR.out ht0 hl0⟩,hb3⟩
 rw[← hn]
 have hd:=HD.out
 obtain ⟨q,cap,v,hd⟩:=hd
 refine⟨q,cap,v,hd.same (fun k hk hs'=>⟨.inl hs',by omega⟩) (fun k hk _=>hb3.block k hk)⟩
theorem wflush_at {w:World}{S:Nat→Prop}{L p:Nat}{d:List Int}{ws:List Wr}{g:Lg}(h:LD w S L p d ws g)(hk:ws.length≤100000):Calls prog 43 #[.pointer (some ⟨L,0,none⟩)] w fun e w'=>e=.returned (.tuple #[.int .i64 ws.length,.int .i64 0])∧LD w' S L p (settle (fun _=>true) ws d) [] g∧Kept S w w':=by
 have HG:Hid (LD w S L p d ws g):=h
 have c0:=GAt.c0 h.log
 clear h
 go_enter func43,ntmps43
 go_wp2_with fail
 refine (lacks_some HG.out.log).mono ?_
 rintro e w1 ⟨rfl,rfl⟩
 go_wp2_with fail
 refine (flush_any HG.out.dsk hk).mono ?_
 rintro e w1 ⟨rfl,hd,hkp⟩
 have HX:Hid (_):=HG.out.flushed hd hkp
 clear hd hkp c0
 go_wp2_with fail
 go_ret2
 exact⟨rfl,HX.out.1,HX.out.2⟩
theorem free_at {w:World}{S:Nat→Prop}{L p:Nat}{d:List Int}{ws:List Wr}{g:Lg}(h:LD w S L p d ws g)(hk:ws.length≤100000):Calls prog 104 #[.pointer (some ⟨L,0,none⟩)] w fun e w'=>e=.returned (.tuple #[.int .i64 (g.mark-g.tail),.int .i64 0])∧LD w' S L p (settle (fun _=>true) ws d) [] (frG g)∧Kept S w w':=by
 have hn:0≤g.mark-g.tail∧g.mark-g.tail≤64:=by have:=h.ok.tm;have:=h.ok.mf;have:=h.ok.us;have:=h.ok.cf.2.1;omega
 go_enter func104,ntmps104
 go_wp2_with fail
 refine (wflush_at h hk).mono ?_
 rintro e w1 ⟨rfl,h1,hkp⟩
 have HG:Hid (LD w1 S L p (settle (fun _=>true) ws d) [] g):=h1
 have c7:=GAt.c7 h1.log
 have c9:=GAt.c9 h1.log
 have cf:=GAt.free h1.log 7
 have HK:Hid (Kept S w w1):=hkp
 have HL:Hid (L<w.heap.size→S L):=fun _=>h.sl
 have k1:IntKind.u64.wrap (g.mark-g.tail)=g.mark-g.tail:=G.wrap_u hn.1 (by omega)
 have k2:RowKit.wrap64 (g.mark-g.tail)=g.mark-g.tail:=by have:=IntKind.wrap_i64 (g.mark-g.tail);unfold RowKit.wrap64;omega
 clear h h1 hkp
 go_wp2_with fail
 go_quiet (fail)
 go_wp2_with fail
 go_ret2
 refine⟨rfl,?_,?_⟩
 ·have hd:=HG.out.later (below_drawn nq)
  exact hd.set 7 _ (g':=frG g) (GAt.setT hd.log g.mark) rfl (frG_ok hd.ok)
 ·exact (Kept.drewN HK.out nq).setCell (p:=⟨L,7,none⟩) HL.out _
theorem Kept.wider {S T:Nat→Prop}{a b:World}(h:Kept S a b)(hs:∀k,k<a.heap.size→S k→T k):Kept T a b :=
 ⟨h.os,h.tape,h.output,h.size,fun k hk ht=>h.block k hk fun hs'=>ht (hs k hk hs')⟩
theorem kept_set (w:World)(L j:Nat)(v:Value):Kept (fun k=>k=L) w (w.setCell ⟨L,j,none⟩ v):=⟨rfl,rfl,rfl,by simp[World.setCell],fun k _ hk=>heap_setCell_other w ⟨L,j,none⟩ k v hk⟩
theorem write_at {w:World}{S:Nat→Prop}{p n:Nat}{d:List Int}{ws:List Wr}(h:Dsk w S p n d ws)(i:Int)(h0:0≤i)(h1:i<n)(a:Option Addr)(c:Nat)(b:List Int)(hb:BIn w a 64 b)(hk:ws.length≤100000):Calls prog 159 #[.pointer (some ⟨p,0,none⟩),.int .i64 i,.slice a 64 c] w fun e w'=>e=.returned (.int .i64 0)∧Dsk w' (More S w) p n d (ws++[⟨i.toNat,b⟩])∧Kept S w w':=by
 have e0:((i.toNat:Nat):Int)=i:=by omega
 have:=write_good h i.toNat (by omega) a c b hb hk
 rw[e0] at this
 exact this
theorem read_at {w:World}{S:Nat→Prop}{p n:Nat}{d:List Int}{ws:List Wr}(h:Dsk w S p n d ws)(i:Int)(h0:0≤i)(h1:i<n):Calls prog 51 #[.pointer (some ⟨p,0,none⟩),.int .i64 i] w fun e w'=>∃q c,e=.returned (.tuple #[.slice q 64 c,.int .i64 0])∧BIn w' q 64 (newest ws d i.toNat)∧64≤c∧Below w.heap.size w w':=by
 have e0:((i.toNat:Nat):Int)=i:=by omega
 have:=read_good h i.toNat (by omega)
 rw[e0] at this
 obtain ⟨q',cap,v',hp⟩:=h
 refine this.mono ?_
 rintro e w' ⟨v,rfl,hown,hb⟩
 obtain ⟨q,c,rfl,hr,hc,_⟩:=own_in hown (newk_bytes hp.db hp.fit _)
 exact⟨q,c,rfl,hr,hc,hb⟩
theorem add_low {w:World}{S:Nat→Prop}{L p:Nat}{d:List Int}{ws:List Wr}{g:Lg}(h:LD w S L p d ws g)(hS:∀k,S k→k<w.heap.size)(hk:ws.length≤100000)(ht:Tab w)(r:R.Rec)(hv:r.val.length=32)(hw:R.Rec.Wf ⟨r.kind,g.fin,r.block,r.val,r.images⟩)(hm:R.may ⟨r.kind,g.fin,r.block,r.val,r.images⟩=true)(hf:g.fin<4611686018427387904) :
  Calls prog 93 #[.pointer (some ⟨L,0,none⟩),.agg (R.rcells r).toArray] w fun e w'=>e=.returned (.tuple #[.int .u64 g.fin,.int .i64 0])∧Dsk w' (More (fun k=>S k∧k≠L) w) p g.sz d (ws++[⟨(secN g g.fin).toNat,R.encS ⟨r.kind,g.fin,r.block,r.val,r.images⟩⟩])∧GAt w' L (some ⟨p,0,none⟩) (addG g)∧Kept S w w':=by
 obtain ⟨r',hr'⟩:∃x:R.Rec,x=⟨r.kind,g.fin,r.block,r.val,r.images⟩:=⟨_,rfl⟩
 rw[← hr'] at hw hm ⊢
 have hlr:r'.val.length=32:=by rw[hr'];exact hv
 have hpos:r'.pos=g.fin:=by rw[hr']
 have hset:(R.rcells r).set 1 (.int .u64 g.fin)=R.rcells r':=by rw[hr'];rfl
 have hget:(R.rcells r)[1]?=some (.int .u64 r.pos):=rfl
 obtain ⟨w1,hw1⟩:∃x,x=w.alloc (.cells (R.rcells r').toArray 180):=⟨_,rfl⟩
 have ew:=hw1.symm
 have HG:Hid (LD w S L p d ws g):=h
 have HS:Hid (∀k,S k→k<w.heap.size):=hS
 have HW:Hid (r'.Wf∧R.may r'=true):=⟨hw,hm⟩
 have HT:Hid (Tab w):=ht
 have B1:Hid (Below w.heap.size w w1):=by rw[hw1];exact below_alloc w _
 have A1:Hid (R.RAt 180 w1 w.heap.size r'):=by rw[hw1];exact R.RAt.new 180 w r'
 have L1:Hid (_):=R.RAt.load31 A1.out hlr
 have hf0:0≤g.fin:=by have:=h.ok.t0;have:=h.ok.tm;have:=h.ok.mf;omega
 have hLlt:=LAt.lt h.log
 have c8:=GAt.c8 h.log
 clear h hS hw1 hr' ht hw hm
 go_enter func93,ntmps93
 go_wp2_with ((with_reducible refine at_ops ?_);(refine wpList_load_is (by rfl) 180 rfl rfl L1.out ?_);simp only[Act.put,zA,zB,zC])
 refine (R.encode_good r' HW.out.1 HW.out.2 w1 (HT.out.later B1.out).half).mono ?_
 rintro e w2 ⟨q2,c2',rfl,m2⟩
 have B2:Hid (Below w.heap.size w w2):=below_then B1.out m2.below
 have HG2:Hid (LD w2 S L p d ws g):=HG.out.later B2.out
 have A2:Hid (R.RAt 180 w2 w.heap.size r'):=R.RAt.later A1.out m2.below
 have X2:Hid (BIn w2 q2 64 (R.encS r')):=m2.read
 clear m2 A1 L1 ew hget hset c8
 go_wp2_with fail
 refine wp_region_noPanic ?_
 refine wp_region_held_drew (S:=fun w'=>w'.cell? ⟨L,0,none⟩=some (.pointer (some ⟨p,0,none⟩))∧w'.cell? ⟨w.heap.size,1,none⟩=some (.int .u64 g.fin)) (by kernel_rfl) (by
  refine⟨GAt.c0 HG2.out.log,?_⟩
  rw[← hpos]
  exact A2.out.c1) (fun hHeld=>?_)
 have D2:Hid (Below w2.heap.size w2 w2.drew):=below_drawn 1
 generalize w2.drew=wd at *
 refine tk 0 hHeld ?_
 refine tk 1 hHeld ?_
 refine tk 2 hHeld ?_
 refine tkl 3 hHeld (fun _ hSw=>hSw.1) ?_
 refine tk 4 hHeld ?_
 refine tk 5 hHeld ?_
 refine tkl 6 hHeld (fun _ hSw=>hSw.2) ?_
 refine tk 8 hHeld ?_
 refine wpAnyH_ready (rs:=[7]) (by kernel_rfl) (by simp) ?_
 refine AllReadyH.cons (by simp;rfl) (fun Kc hKc=>?_) AllReadyH.nil
 go_simp
 refine (sector_at (LAt.later HG2.out.log D2.out) HG.out.ok g.fin hf0 (by omega)).mono ?_
 rintro e wn ⟨rfl,rfl⟩
 refine hKc.out _ _ hHeld (fun hHeld=>?_)
 clear hKc Kc
 refine wpAnyH_ready (rs:=[9]) (by kernel_rfl) (by simp) ?_
 refine AllReadyH.cons (by simp;rfl) (fun Kc hKc=>?_) AllReadyH.nil
 go_simp
 refine (write_at (HG2.out.later D2.out).dsk (secN g g.fin) (secN_in HG.out.ok _).1 (secN_in HG.out.ok _).2 q2 c2' _ (X2.out.later D2.out) hk).mono ?_
 rintro e w3 ⟨rfl,d3,k3⟩
 have Y3:Hid (Dsk w3 (More (fun k=>S k∧k≠L) wd) p g.sz d (ws++[⟨(secN g g.fin).toNat,R.encS r'⟩])∧GAt w3 L (some ⟨p,0,none⟩) g∧Kept (fun k=>S k∧k≠L) wd w3∧w3.cell? ⟨w.heap.size,1,none⟩=some (.int .u64 g.fin)):=by
  have hz:=B2.out.size
  have hz2:=D2.out.size
  have hA:=A2.out.lt
  refine⟨d3,(k3.block L (by omega) (fun t=>t.2 rfl)).trans (LAt.later HG2.out.log D2.out),k3,?_⟩
  rw[World.cell?_of_block (k3.block w.heap.size (by omega) (fun t=>by have:=HS.out _ t.1;omega))]
  exact hHeld.2
 clear d3 k3
 refine hKc.out _ _ ⟨GAt.c0 Y3.out.2.1,Y3.out.2.2.2⟩ (fun hHeld=>?_)
 clear hKc Kc
 refine tk 10 hHeld ?_
 refine wpAnyH_done (by kernel_rfl) (NoPanic.normal ?_) _
 have c8:=GAt.c8 Y3.out.2.1
 have cf:=GAt.free Y3.out.2.1 8
 have c1:=Y3.out.2.2.2
 have hne:¬L=w.heap.size:=by omega
 have hne2:¬w.heap.size=L:=by omega
 have k1:IntKind.u64.wrap (g.fin+1)=g.fin+1:=G.wrap_u (by omega) (by omega)
 clear hHeld X2 A2
 go_wp2_with fail
 go_ret2
 have hs2:=B2.out.size
 have hs3:=Y3.out.2.2.1.size
 refine⟨rfl,?_,GAt.setF Y3.out.2.1 _,?_⟩
 ·refine (Y3.out.1.kept (kept_set w3 L 8 (.int .u64 (g.fin+1))) ?_).mono ?_
  ·rintro k (hs | hs) rfl
   ·exact hs.2 rfl
   ·have:=D2.out.size;omega
  ·rintro k _ (hs | hs)
   ·exact .inl hs
   ·exact .inr (by have:=D2.out.size;omega)
 ·exact ((Kept.of_below (S:=S) (below_then B2.out D2.out)).trans (T:=fun k=>S k∧k≠L) Y3.out.2.2.1 (fun _ _ t=>t.1)).setCell (p:=⟨L,8,none⟩) (fun _=>HG.out.sl) _
theorem add_good {w:World}{S:Nat→Prop}{L p:Nat}{d:List Int}{ws:List Wr}{g:Lg}(h:LD w S L p d ws g)(hk:ws.length≤100000)(ht:Tab w)(r:R.Rec)(hv:r.val.length=32)(hw:R.Rec.Wf ⟨r.kind,g.fin,r.block,r.val,r.images⟩)(hm:R.may ⟨r.kind,g.fin,r.block,r.val,r.images⟩=true)(hf:g.fin<4611686018427387904) :
  Calls prog 93 #[.pointer (some ⟨L,0,none⟩),.agg (R.rcells r).toArray] w fun e w'=>e=.returned (.tuple #[.int .u64 g.fin,.int .i64 0])∧Dsk w' (More (fun k=>S k∧k≠L) w) p g.sz d (ws++[⟨(secN g g.fin).toNat,R.encS ⟨r.kind,g.fin,r.block,r.val,r.images⟩⟩])∧GAt w' L (some ⟨p,0,none⟩) (addG g)∧Kept S w w':=by
 refine (add_low (h.mono (T:=fun k=>S k∧k<w.heap.size) fun k hk s=>⟨s,hk⟩) (fun _ s=>s.2) hk ht r hv hw hm hf).mono ?_
 rintro e w' ⟨rfl,h1,h2,h3⟩
 refine⟨rfl,h1.mono ?_,h2,h3.wider fun _ _ s=>s.1⟩
 rintro k _ (hs | hs)
 ·exact .inl ⟨hs.1.1,hs.2⟩
 ·exact .inr hs
end Go.Proofs.YtcdjepkhdjpjcaaGreatDoor
namespace Go.Proofs.YtcdjepkhdjpjcaaGreatDoor.R
open Go.Proofs.Tryz
open Go.RowKit
theorem at_seq {P:Program}{ops:Array Oper}{rest:List Oper}{o:Oper}{a:Act}{w:World}{Q:Exit→Act→World→Prop}(h:wpList P ops Q (o :: rest) a w):wpList P ops Q (o :: rest) a w:=h
def commitR (r:Rec):Bool:=r.kind == 2 && (r.block == 0 && (decide (r.val=zs 32) && (decide (0≤r.images) && decide (r.images≤16))))
theorem commitR_eq (r:Rec):commitR r=commitB r:=by
 unfold commitR commitB
 cases (r.kind == 2) <;> cases (r.block == 0) <;> cases (decide (r.val=zs 32)) <;> cases (decide (0≤r.images)) <;> cases (decide (r.images≤16)) <;> rfl
theorem refCheck_any (r:Rec)(hv:r.val.length=32)(w:World) :
  Calls prog 210 #[.agg (rcells r).toArray] w fun e w'=>e=.returned (.int .i64 (chk r))∧Below w.heap.size w w':=by
 have hA:=RAt.new 226 w r
 have c0:=hA.c0
 have c1:=hA.c1
 have c2:=hA.c2
 have c4:=hA.c35 hv
 have L3:Hid (_):=hA.load24 hv
 have B3:Hid (_):=build24 (w.alloc (.cells (rcells r).toArray 226))
 have Q3:Hid (_):=eql24 (w.alloc (.cells (rcells r).toArray 226)) r.val (zs 32) hv (zs_len 32)
 have HB:Hid (Below w.heap.size w (w.alloc (.cells (rcells r).toArray 226))):=below_alloc w _
 have HK:Hid (chk r=if (decide (r.pos≤4611686018427387904) && (imageB r || commitR r))=true then 0 else 60):=by show _=_;rw[commitR_eq];rfl
 clear hA hv
 go_enter func210,ntmps210
 go_wp2_with ((with_reducible refine at_seq ?_);(first | (refine wpList_load_is (by rfl) 51 rfl rfl L3.out ?_) | (refine wpList_build_is (vs:=[]) (by rfl) 51 rfl (by rfl) B3.out ?_) | (refine wpList_eql_is (by rfl) 51 rfl rfl rfl eqg24 Q3.out ?_));simp only[Act.put,zA,zB,zC])
 all_goals go_ret
 all_goals (refine⟨?_,HB.out⟩)
 all_goals (rw[HK.out];clear c0 c1 c2 c4 L3 B3 Q3 HB HK;unfold imageB commitR;simp_all <;> (intros;omega))
def lay (P D:List Int)(m j:Nat):List Int:=(P++D.take j)++zs (m-j)
theorem lay_zero (P D:List Int)(m:Nat):lay P D m 0=P++zs m:=by simp[lay]
theorem lay_all (P D:List Int)(m j:Nat)(h:D.length=j):lay P D m j=(P++D)++zs (m-j):=by
 unfold lay;rw[List.take_of_length_le (by omega)]
theorem lay_len (P D:List Int)(m j:Nat)(hj:j≤D.length)(hm:D.length≤m):(lay P D m j).length=P.length+m:=by
 simp[lay,zs];omega
theorem lay_step (P D:List Int)(m j at0:Nat)(hp:P.length=at0)(hj:j<D.length)(hm:D.length≤m):(lay P D m j).set (at0+j) D[j]=lay P D m (j+1):=by
 unfold lay
 rw[List.take_succ_eq_append_getElem hj,List.set_append_right _ _ (by simp;omega)]
 have e:m-j=(m-(j+1))+1:=by omega
 rw[e]
 unfold zs
 rw[List.replicate_succ]
 have e2:at0+j-(P++D.take j).length=0:=by simp;omega
 rw[e2,zB]
 simp only[List.append_assoc,List.cons_append,List.nil_append]
theorem dig_at (k:Nat)(n:Int)(j:Nat)(h:j<(digits k n).length):(n / 256 ^ j) % 256=(digits k n)[j]:=(digits_get k n j h).symm
theorem refPut_any (B g cap at0 size m:Nat)(P:List Int)(n:Int)(w0 w:World)(ho:w.ownsRow B 5 1 (.slice (some ⟨g,0,none⟩) 64 cap) 64 (U8 (P++zs m)))(hb:Below B w0 w)(hp:P.length=at0)(hm:at0+m=64)(hs:size≤m)(hs8:size≤8)(h0:0≤n)(h1:n≤18446744073709551615) :
  Calls prog 211 #[.slice (some ⟨g,0,none⟩) 64 cap,.int .i64 at0,.int .u64 n,.int .i64 size] w fun e w'=>e=.returned (.tuple #[])∧w'.ownsRow B 5 1 (.slice (some ⟨g,0,none⟩) 64 cap) 64 (U8 ((P++digits size n)++zs (m-size)))∧Below B w0 w':=by
 have HD:Hid ((digits size n).length=size):=digits_length size n
 have HP:Hid (P.length=at0):=hp
 have HO:Hid (w.ownsRow B 5 1 (.slice (some ⟨g,0,none⟩) 64 cap) 64 (U8 (lay P (digits size n) m 0))):=by rw[lay_zero];exact ho
 have HB:Hid (Below B w0 w):=hb
 clear ho hb hp
 go_enter func211,ntmps211
 go_wp2
 go_loopw [2,8] (fun v i wr=>∃j:Nat,j≤size∧i=.int .i64 j∧v=.int .u64 (n / 256 ^ j)∧Hid (wr.ownsRow B 5 1 (.slice (some ⟨g,0,none⟩) 64 cap) 64 (U8 (lay P (digits size n) m j))∧Below B w0 wr)) (fun _ i _=>size-(intOf i).toNat)
 case atStart=>exact⟨0,Nat.zero_le _,rfl,by simp,HO.out,HB.out⟩
 case round =>
  obtain ⟨j,hj,rfl,rfl,HR⟩:=hrel
  clear HO HB
  have hnj0:0≤n / 256 ^ j:=Int.ediv_nonneg h0 (Int.le_of_lt (pow_pos j))
  have hnj1:n / 256 ^ j≤n:=Int.ediv_le_self _ h0
  by_cases hlt:j<size
  ·have hdl:j<(digits size n).length:=by rw[HD.out];exact hlt
   have HV:Hid ((n / 256 ^ j) % 256=(digits size n)[j]):=dig_at size n j hdl
   have hst:=HR.out.1.stored (at0+j) (.int .u8 ((digits size n)[j]))
   have hset:(U8 (lay P (digits size n) m j)).set (at0+j) (.int .u8 ((digits size n)[j]))=U8 (lay P (digits size n) m (j+1)):=by
    rw[← lay_step P _ m j at0 HP.out hdl (by rw[HD.out];exact hs)]
    simp[U8,List.map_set]
   rw[hset] at hst
   have hcell:=HR.out.1.cellAt (at0+j) (by omega)
   have hlen:(U8 (lay P (digits size n) m j)).length=64:=by rw[List.length_map,lay_len _ _ _ _ (by have:=HD.out;omega) (by have:=HD.out;omega),HP.out];omega
   obtain ⟨u,hu⟩:∃u,w.cell? ⟨g,at0+j,none⟩=w.cell? ⟨g,at0+j,none⟩∧wr.cell? ⟨g,at0+j,none⟩=some u:=⟨_,rfl,by rw[hcell];exact List.getElem?_eq_getElem (by omega)⟩
   have hu2:=hu.2
   have hfz:=HR.out.1.frozenAt (at0+j)
   have HN:Hid (n / 256 ^ (j+1)=n / 256 ^ j / 256):=by
    show _=_
    rw[Int.pow_succ,Int.ediv_ediv_of_nonneg (Int.le_of_lt (pow_pos j))]
   have HQ:Hid ((wr.setCell ⟨g,at0+j,none⟩ (.int .u8 ((digits size n)[j]))).ownsRow B 5 1 (.slice (some ⟨g,0,none⟩) 64 cap) 64 (U8 (lay P (digits size n) m (j+1)))∧Below B w0 (wr.setCell ⟨g,at0+j,none⟩ (.int .u8 ((digits size n)[j])))) :=
    ⟨hst.1,HR.out.2.setCell (HR.out.1.lt g rfl).1 _⟩
   clear hst hset hcell hlen HR hu
   rw[← HV.out] at HQ
   generalize n / 256 ^ j=N at *
   have i1:(at0:Int)+(j:Int)<64:=by omega
   have i0:(0:Int)≤(at0:Int)+(j:Int):=by omega
   have t1:N.tmod 256=N % 256:=Int.tmod_eq_emod_of_nonneg hnj0
   have t2:N.tdiv 256=N / 256:=Int.tdiv_eq_ediv_of_nonneg hnj0
   go_wp2
   go_roundw
   case rel=>exact⟨j+1,by omega,by go_num,by rw[HN.out],HQ.out⟩
   case measure=>simp[intOf];omega
  ·obtain rfl:j=size:=by omega
   have HE:Hid (wr.ownsRow B 5 1 (.slice (some ⟨g,0,none⟩) 64 cap) 64 (U8 ((P++digits j n)++zs (m-j)))∧Below B w0 wr):=⟨by have:=HR.out.1;rw[lay_all _ _ _ _ HD.out] at this;exact this,HR.out.2⟩
   clear HR
   go_wp2
   go_end0
   exact⟨rfl,HE.out⟩
end Go.Proofs.YtcdjepkhdjpjcaaGreatDoor.R
namespace Go.Proofs.YtcdjepkhdjpjcaaGreatDoor
open Go.Proofs.Tryz
open Go.RowKit
theorem refPush_any (x:Nat)(c:Int)(hx:x<4294967296)(hc0:0≤c)(hc1:c<256)(w:World) :
  Calls prog 227 #[.int .u32 x,.int .u8 c] w fun e w'=>e=.returned (.int .u32 (hn 8 (x ^^^ c.toNat):Nat))∧w=w':=by
 obtain ⟨y,hy⟩:∃y,y=x ^^^ c.toNat:=⟨_,rfl⟩
 have hyl:y<4294967296:=by rw[hy];exact xor_lt _ _ hx (by omega)
 have h1:bits .xor .u32 (x:Int) c=(y:Int):=by
  rw[hy,← u32_xor_nat x c.toNat hx (by omega)]
  congr 1
  omega
 rw[← hy]
 clear hy
 go_enter func227,ntmps227
 go_wp2
 go_loop [0,5] (fun v i=>∃k:Nat,k≤8∧i=.int .i64 k∧v=.int .u32 (hn k y:Nat)) (fun _ i=>8-(intOf i).toNat)
 case atStart=>exact⟨0,by omega,rfl,rfl⟩
 case round =>
  obtain ⟨k,hk,rfl,rfl⟩:=hrel
  by_cases hlt:k<8
  ·have hl:=hn_lt k y hyl
   have HN:Hid (hn (k+1) y=hv (hn k y)):=hn_next k y
   obtain ⟨z,hz⟩:∃z,z=hn k y:=⟨_,rfl⟩
   rw[← hz] at HN hl ⊢
   clear hz
   by_cases hodd:z % 2=1
   ·have hx2:=u32_xor_nat (z / 2) 3988292384 (by omega) (by omega)
    have HV:Hid (hv z=z / 2 ^^^ 3988292384):=by show _=_;unfold hv;rw[if_pos hodd]
    have ho':(z:Int) % 2=1:=by omega
    have hx3:bits .xor .u32 ((z:Int) / 2) 3988292384=((z / 2 ^^^ 3988292384:Nat):Int):=hx2
    clear hx2
    go_wp2
    go_round
    case rel=>exact⟨k+1,by omega,by go_num,by rw[HN.out,HV.out]⟩
    case measure=>simp[intOf];omega
   ·have HV:Hid (hv z=z / 2):=by show _=_;unfold hv;rw[if_neg hodd,Nat.xor_zero]
    have ho':¬(z:Int) % 2=1:=by omega
    go_wp2
    go_round
    case rel=>exact⟨k+1,by omega,by go_num,by rw[HN.out,HV.out];rfl⟩
    case measure=>simp[intOf];omega
  ·obtain rfl:k=8:=by omega
   go_wp2
   go_ret
   exact⟨rfl,rfl⟩
theorem refOf_pos (b o n c:Nat)(xs:List Int)(w:World)(h:BIn w (some ⟨b,o,none⟩) n xs)(h0:0<n)(hbig:n≤140737488355328) :
  Calls prog 209 #[.slice (some ⟨b,o,none⟩) n c] w fun e w'=>e=.returned (.int .u32 (crc xs:Nat))∧w=w':=by
 obtain ⟨b',o',e,hcs⟩:=h.cells h0
 simp only[Option.some.injEq,Addr.mk.injEq,and_true] at e
 obtain ⟨rfl,rfl⟩:=e
 have HC:Hid (∀i,i<n→w.cell? ⟨b,o+i,none⟩=some (.int .u8 (xs.getD i 0))):=hcs
 have HX:Hid (xs.length=n):=h.len
 have HK:Hid (Bytes xs):=h.byte
 clear hcs h
 go_enter func209,ntmps209
 go_wp2
 go_loop [3,4] (fun x i=>∃j:Nat,j≤n∧i=.int .i64 j∧x=.int .u32 (st 4294967295 (xs.take j):Nat)) (fun _ i=>n-(intOf i).toNat)
 case atStart=>exact⟨0,Nat.zero_le _,rfl,rfl⟩
 case round =>
  obtain ⟨j,hj,rfl,rfl⟩:=hrel
  have hlj:=st_lt 4294967295 (xs.take j) (by omega) (HK.out.take j)
  by_cases hjl:j<n
  ·have hcj:=HC.out j hjl
   have hjx:j<xs.length:=by rw[HX.out];exact hjl
   have hb:=HK.out.at j hjx
   have HJ:Hid (st 4294967295 (xs.take (j+1))=hn 8 (st 4294967295 (xs.take j) ^^^ xs[j].toNat)):=st_step _ xs j hjx
   rw[show xs.getD j 0=xs[j] by simp[List.getD,List.getElem?_eq_getElem hjx]] at hcj
   obtain ⟨z,hz⟩:∃z,z=st 4294967295 (xs.take j):=⟨_,rfl⟩
   rw[← hz] at hlj HJ ⊢
   obtain ⟨q,hq⟩:∃q,q=xs[j]:=⟨_,rfl⟩
   rw[← hq] at hb HJ hcj
   obtain ⟨hb0,hb1⟩:=hb
   clear hz hq
   go_wp2_with (go_at_call 227;refine (refPush_any z q hlj hb0 hb1 _).mono ?_;rintro e w' ⟨rfl,rfl⟩)
   go_round
   case rel=>exact⟨j+1,by omega,by go_num,by rw[HJ.out]⟩
   case measure=>simp[intOf];omega
  ·have HA:Hid (xs.take j=xs):=List.take_of_length_le (by rw[HX.out];omega)
   have hxo:=u32_xor_nat _ 4294967295 hlj (by omega)
   have HO:Hid (bits .xor .u32 ((st 4294967295 (xs.take j):Nat):Int) 4294967295=((crc xs:Nat):Int)):=by
    show _=_
    rw[crc,← HA.out]
    simpa [HA.out] using hxo
   clear hxo
   go_wp2
   go_ret
   refine⟨?_,rfl⟩
   rw[← HO.out]
   rfl
theorem refOf_zero (p:Option Addr)(c:Nat)(w:World) :
  Calls prog 209 #[.slice p 0 c] w fun e w'=>e=.returned (.int .u32 0)∧w=w':=by
 go_enter func209,ntmps209
 go_wp2
 refine wp_loop_rounds 1 ?_
 rw[rounds_succ]
 go_wp2
 go_ret
 exact⟨rfl,rfl⟩
theorem refOf_any (p:Option Addr)(n c:Nat)(xs:List Int)(w:World)(h:BIn w p n xs)(hbig:n≤140737488355328) :
  Calls prog 209 #[.slice p n c] w fun e w'=>e=.returned (.int .u32 (crc xs:Nat))∧w=w':=by
 by_cases h0:0<n
 ·obtain ⟨b,o,rfl,hc⟩:=h.cells h0
  exact refOf_pos b o n c xs w h h0 hbig
 ·obtain rfl:n=0:=by omega
  obtain rfl:xs=[]:=List.eq_nil_of_length_eq_zero h.len
  refine (refOf_zero p c w).mono ?_
  rintro e w' ⟨rfl,hw⟩
  exact⟨rfl,hw⟩
end Go.Proofs.YtcdjepkhdjpjcaaGreatDoor
namespace Go.Proofs.YtcdjepkhdjpjcaaGreatDoor.R
open Go.Proofs.Tryz
open Go.RowKit
theorem made_zeros (k:Nat):(madeCells #[Value.int .u8 0] k).toList=U8 (zs k):=by
 rw[toList_madeCells_one]
 simp[U8,zs]
theorem num_sum (r:Rec)(h:may r=true):r.block+r.images=numS r:=by
 rw[may_iff] at h
 unfold numS
 rcases h.2 with h2 | h2
 ·obtain ⟨a,b,c,d⟩:=h2
  rw[if_pos a];omega
 ·obtain ⟨a,b,c,d,e⟩:=h2
  rw[if_neg (by omega)];omega
theorem head_split (r:Rec):[87,r.kind,0,0]++digits 8 r.pos++digits 4 (numS r)++r.val=head r:=by simp[head]
theorem zs_split (a b:Nat):zs (a+b)=zs a++zs b:=by unfold zs;rw[List.replicate_append_replicate]
theorem set_two (k:Int):((zs 64).set 0 87).set 1 k=[87,k,0,0]++zs 60:=rfl
theorem refEncode_good (r:Rec)(hw:r.Wf)(hm:may r=true)(w:World) :
  Calls prog 183 #[.agg (rcells r).toArray] w fun e w'=>∃p c,e=.returned (.tuple #[.slice p 64 c,.int .i64 0])∧Made w w' p 64 c (encS r):=by
 obtain ⟨i0,hi,hz0,hz1,hz2⟩:=info_parts info5
 have L1:Hid (_):=(RAt.new 226 w r).load37 hw.len
 have HW:Hid (r.Wf):=hw
 have HM:Hid (may r=true):=hm
 have hc:=chk_yes r hm
 have HS:Hid (r.block+r.images=numS r):=num_sum r hm
 have HN:Hid (0≤numS r∧numS r<64):=numS_bd r hm
 have HK:Hid (0≤r.kind∧r.kind<256):=by have:=may_kind hm;exact⟨by omega,by omega⟩
 go_enter func183,ntmps183
 go_wp2_with ((with_reducible refine at_seq ?_);(refine wpList_load_is (by rfl) 226 rfl rfl L1.out ?_);simp only[Act.put,zA,zB,zC])
 refine (refCheck_any r hw.len _).mono ?_
 rintro e w1 ⟨rfl,b1⟩
 rw[hc]
 have B1:Hid (Below w.heap.size w w1):=below_of_alloc b1
 have R1:Hid (RAt 226 w1 w.heap.size r):=(RAt.new 226 w r).later b1
 clear b1 L1 hm hc hw
 go_wp2_with (at_make;refine wpList_make_full _ rfl _ _ 107 rfl w1.heap.size 5 i0 (.int .u8 0) 1 underlying107 hi hz0 hz1 .i64 .i64 _ _ 64 rfl rfl rfl rfl (by rw[hz2];omega) (by unfold maxLen;omega) (Nat.le_refl _) ?_)
 intro w2 hown hgrow
 rw[made_zeros 64] at hown
 have b2:Below w1.heap.size w1 w2:=(Below.refl w1.heap.size w1).grown hgrow (Nat.le_refl _) (by intro k hk;cases hk)
 have R2:RAt 226 w2 w.heap.size r:=R1.out.later b2
 have gne:w.heap.size<w1.heap.size:=R1.out.lt
 have GNE:Hid (w.heap.size<w1.heap.size):=gne
 -- the first two bytes
 have s0:=hown.stored 0 (.int .u8 87)
 have f0:=hown.frozenAt 0
 have c0:=hown.cellAt 0 (by omega)
 obtain ⟨u0,hu0⟩:∃u,w2.cell? ⟨w1.heap.size,0,none⟩=some u:=⟨_,by rw[c0];exact List.getElem?_eq_getElem (by simp[zs])⟩
 obtain ⟨w3,hw3⟩:∃w3,w3=w2.setCell ⟨w1.heap.size,0,none⟩ (.int .u8 87):=⟨_,rfl⟩
 have o3:w3.ownsRow w1.heap.size 5 1 (.slice (some ⟨w1.heap.size,0,none⟩) 64 64) 64 ((U8 (zs 64)).set 0 (.int .u8 87)):=by rw[hw3];exact s0.1
 have R3:RAt 226 w3 w.heap.size r:=by rw[hw3];exact (heap_setCell_other w2 ⟨w1.heap.size,0,none⟩ w.heap.size _ (by simp;omega)).trans R2
 have b3:Below w1.heap.size w1 w3:=by rw[hw3];exact b2.setCell (Nat.le_refl _) _
 have s1:=o3.stored 1 (.int .u8 r.kind)
 have f1:=o3.frozenAt 1
 have c1:=o3.cellAt 1 (by omega)
 obtain ⟨u1,hu1⟩:∃u,w3.cell? ⟨w1.heap.size,1,none⟩=some u:=⟨_,by rw[c1];exact List.getElem?_eq_getElem (by simp[zs])⟩
 obtain ⟨w4,hw4⟩:∃w4,w4=w3.setCell ⟨w1.heap.size,1,none⟩ (.int .u8 r.kind):=⟨_,rfl⟩
 have o4:w4.ownsRow w1.heap.size 5 1 (.slice (some ⟨w1.heap.size,0,none⟩) 64 64) 64 (U8 ([87,r.kind,0,0]++zs 60)):=by
  rw[hw4]
  have:=s1.1
  rw[show ((U8 (zs 64)).set 0 (.int .u8 87)).set 1 (.int .u8 r.kind)=U8 ([87,r.kind,0,0]++zs 60) by rw[← set_two];simp[U8,List.map_set]] at this
  exact this
 have R4:RAt 226 w4 w.heap.size r:=by rw[hw4];exact (heap_setCell_other w3 ⟨w1.heap.size,1,none⟩ w.heap.size _ (by simp;omega)).trans R3
 have b4:Below w1.heap.size w1 w4:=by rw[hw4];exact b3.setCell (Nat.le_refl _) _
 have k3:=R3.c0
 have k4:=R4.c1
 have O4:Hid (_):=o4
 have B4:Hid (_):=b4
 have RR:Hid (RAt 226 w4 w.heap.size r):=R4
 have kk0:=HK.out.1
 have kk1:=HK.out.2
 have e3:=hw3.symm
 have e4:=hw4.symm
 clear hown hgrow b2 R2 s0 c0 o3 R3 b3 s1 c1 o4 R4 b4 hw3 hw4
 go_wp2_with fail
 refine (refPut_any w1.heap.size w1.heap.size 64 4 8 60 [87,r.kind,0,0] r.pos w1 w4 O4.out B4.out rfl (by omega) (by omega) (by omega) HW.out.p0 HW.out.p1).mono ?_
 rintro e w5 ⟨rfl,o5,b5⟩
 clear e3 e4 f0 f1 hu0 hu1 k3 k4 kk0 kk1 O4 B4
 have O5:Hid (_):=o5
 have B5:Hid (Below w1.heap.size w1 w5):=b5
 have R5:RAt 226 w5 w.heap.size r:=R1.out.below b5 GNE.out
 have d2:=R5.c2
 have d4:=R5.c35 HW.out.len
 have hsum:=HS.out
 have hn0:=HN.out.1
 have hn1:=HN.out.2
 clear o5 b5 R5
 have HP16:Hid (([87,r.kind,0,0]++digits 8 r.pos).length=12):=by show _=_;simp[digits_length]
 obtain ⟨nn,hnn⟩:∃nn,nn=numS r:=⟨_,rfl⟩
 rw[← hnn] at hsum hn0 hn1
 have HNN:Hid (nn=numS r):=hnn
 clear hnn
 go_wp2_with fail
 refine (refPut_any w1.heap.size w1.heap.size 64 12 4 52 ([87,r.kind,0,0]++digits 8 r.pos) nn w1 w5 O5.out B5.out HP16.out (by omega) (by omega) (by omega) hn0 (by omega)).mono ?_
 rintro e w6 ⟨rfl,o6,b6⟩
 rw[HNN.out] at o6
 have O6:Hid (w6.ownsRow w1.heap.size 5 1 (.slice (some ⟨w1.heap.size,0,none⟩) 64 64) 64 (U8 (lay ([87,r.kind,0,0]++digits 8 r.pos++digits 4 (numS r)) r.val 48 0))):=by rw[lay_zero];exact o6
 have B6:Hid (Below w1.heap.size w1 w6):=b6
 clear o6 b6 d2 d4 hsum hn0 hn1 HNN O5 B5 HP16 HS HN
 have HPL:Hid (([87,r.kind,0,0]++digits 8 r.pos++digits 4 (numS r)).length=16):=by show _=_;simp[digits_length]
 have HHS:Hid (([87,r.kind,0,0]++digits 8 r.pos++digits 4 (numS r))++r.val=head r):=head_split r
 generalize [87,r.kind,0,0]++digits 8 r.pos++digits 4 (numS r)=P at *
 go_wp2_with fail
 go_loopw [6] (fun k wr=>∃j:Nat,j≤32∧k=.int .i64 j∧Hid (wr.ownsRow w1.heap.size 5 1 (.slice (some ⟨w1.heap.size,0,none⟩) 64 64) 64 (U8 (lay P r.val 48 j))∧Below w1.heap.size w1 wr)) (fun k _=>32-(intOf k).toNat)
 case atStart=>exact⟨0,by omega,rfl,O6.out,B6.out⟩
 case round =>
  obtain ⟨j,hj,rfl,HR⟩:=hrel
  clear O6 B6
  by_cases hlt:j<32
  ·have hjv:j<r.val.length:=by rw[HW.out.len];exact hlt
   have Rr:=R1.out.below HR.out.2 GNE.out
   have cv:wr.cell? ⟨w.heap.size,3+j,none⟩=some (.int .u8 r.val[j]):=(Rr.cell (3+j)).trans (rcells_val r j hjv)
   have hst:=HR.out.1.stored (16+j) (.int .u8 r.val[j])
   have hset:(U8 (lay P r.val 48 j)).set (16+j) (.int .u8 r.val[j])=U8 (lay P r.val 48 (j+1)):=by
    rw[← lay_step P _ 48 j 16 HPL.out hjv (by rw[HW.out.len];omega)]
    simp[U8,List.map_set]
   rw[hset] at hst
   have hcell:=HR.out.1.cellAt (16+j) (by omega)
   have hlen:(U8 (lay P r.val 48 j)).length=64:=by rw[List.length_map,lay_len _ _ _ _ (by omega) (by rw[HW.out.len];omega),HPL.out]
   obtain ⟨u,hu⟩:∃u,wr.cell? ⟨w1.heap.size,16+j,none⟩=some u:=⟨_,by rw[hcell];exact List.getElem?_eq_getElem (by omega)⟩
   have hfz:=HR.out.1.frozenAt (16+j)
   have HQ:Hid ((wr.setCell ⟨w1.heap.size,16+j,none⟩ (.int .u8 r.val[j])).ownsRow w1.heap.size 5 1 (.slice (some ⟨w1.heap.size,0,none⟩) 64 64) 64 (U8 (lay P r.val 48 (j+1)))∧Below w1.heap.size w1 (wr.setCell ⟨w1.heap.size,16+j,none⟩ (.int .u8 r.val[j]))):=⟨hst.1,HR.out.2.setCell (Nat.le_refl _) _⟩
   clear hst hset hcell hlen HR Rr
   generalize r.val[j]=x at *
   clear hjv
   have i1:(16:Int)+(j:Int)<64:=by omega
   have i0:(0:Int)≤(16:Int)+(j:Int):=by omega
   go_wp2_with fail
   go_roundw
   case rel=>exact⟨j+1,by omega,by go_num,HQ.out⟩
   case measure=>simp[intOf];omega
  ·obtain ⟨w7,hw7⟩:∃w7,w7=wr:=⟨_,rfl⟩
   subst hw7
   have O7:Hid (w7.ownsRow w1.heap.size 5 1 (.slice (some ⟨w1.heap.size,0,none⟩) 64 64) 64 (U8 (body r++zs 4))):=by
    have:=HR.out.1
    obtain rfl:j=32:=by omega
    rw[lay_all P r.val 48 32 HW.out.len,HHS.out,show (48-32:Nat)=12+4 by omega,zs_split,← List.append_assoc] at this
    exact this
   have B7:Hid (Below w1.heap.size w1 w7):=HR.out.2
   have HBL:Hid ((body r).length=60):=body_len r HW.out.len
   have HBB:Hid (Bytes (body r)):=body_bytes r HW.out HM.out
   have X7:Hid (BIn w7 (some ⟨w1.heap.size,0,none⟩) 60 (body r)):=by
    obtain ⟨p',c',e',hx,-⟩:=own_in O7.out (HBB.out.append (zs_bytes 4))
    simp only[Value.slice.injEq] at e'
    have:=hx.take 60 (by omega)
    rw[← e'.1,List.take_append_of_le_length (by rw[HBL.out];omega),List.take_of_length_le (by rw[HBL.out];omega)] at this
    exact this
   clear HR
   go_wp2_with fail
   refine (refOf_any _ 60 64 (body r) w7 X7.out (by omega)).mono ?_
   rintro e w8 ⟨rfl,rfl⟩
   have hcl:=crc_lt (body r) HBB.out
   have HE:Hid (encS r=body r++digits 4 ((crc (body r):Nat):Int)++zs (4-4)):=by show _=_;simp[encS,zs]
   generalize crc (body r)=S at *
   go_wp2_with fail
   refine (refPut_any w1.heap.size w1.heap.size 64 60 4 4 (body r) (S:Int) w1 w7 O7.out B7.out HBL.out (by omega) (by omega) (by omega) (by omega) (by omega)).mono ?_
   rintro e w9 ⟨rfl,o9,b9⟩
   rw[← HE.out] at o9
   obtain ⟨p9,c9,e9,m9⟩:=made_of (own_mono o9 B1.out.size) (encS_bytes r HW.out HM.out) (below_then B1.out b9)
   simp only[Value.slice.injEq,true_and] at e9
   obtain ⟨rfl,rfl⟩:=e9
   have M9:Hid (_):=m9
   clear o9 b9 m9
   go_wp2_with fail
   go_ret2
   exact⟨_,_,rfl,M9.out⟩
end Go.Proofs.YtcdjepkhdjpjcaaGreatDoor.R
namespace Go.Proofs.YtcdjepkhdjpjcaaGreatDoor
open Go.Proofs.Tryz
open Go.RowKit
theorem rmay_at {w:World}{L p:Nat}{g:Lg}{b:Int}(h:HAt w L (some ⟨p,0,none⟩) g b)(ok:g.Ok):Calls prog 128 #[.pointer (some ⟨L,0,none⟩)] w fun e w'=>e=.returned (.int .i64 (moreS g))∧Below w.heap.size w w':=by
 have HG:Hid (HAt w L (some ⟨p,0,none⟩) g b):=h
 have HO:Hid g.Ok:=ok
 have HR:Hid (Below w.heap.size w w):=Below.refl _ _
 have c0:=HAt.c0 h
 have c8:=HAt.c8 h
 have hf:0≤g.fin∧g.fin≤4611686018427387904:=by have:=ok.t0;have:=ok.tm;have:=ok.mf;have:=ok.fM;omega
 clear h ok
 go_enter func128,ntmps128
 by_cases h1:g.fin=4611686018427387904
 ·have HE:Hid (moreS g=31):=moreS_max h1
  go_wp2_with fail
  go_ret
  exact⟨by rw[HE.out];rfl,HR.out⟩
 ·by_cases h2:g.fin-g.tail=g.c.lc
  ·have HE:Hid (moreS g=90):=moreS_full h1 h2
   go_wp2_with fail
   refine wp_region_noPanic ?_
   refine wp_region_held_drew (S:=fun w'=>Below w.heap.size w w') (by kernel_rfl) (below_drawn 1) (fun hHeld=>?_)
   have D:Hid (Below w.heap.size w w.drew):=hHeld
   generalize w.drew=wd at *
   have HC2:Hid (∀w',Below w.heap.size w w'→w'.cell? ⟨L,2,none⟩=some (.int .i64 g.c.lc)):=fun w' hb=>HAt.c2 (LAt.later HG.out hb)
   refine tk 0 hHeld ?_
   refine tk 2 hHeld ?_
   refine tk 3 hHeld ?_
   refine tk 4 hHeld ?_
   refine tk 5 hHeld ?_
   refine tkl 6 hHeld (fun _ hSw=>(HC2.out _ hSw)) ?_
   refine wpAnyH_ready (rs:=[1]) (by kernel_rfl) (by simp) ?_
   refine AllReadyH.cons (by simp;rfl) (fun Kc hKc=>?_) AllReadyH.nil
   go_simp
   refine (rused_at (LAt.later HG.out D.out) HO.out).mono ?_
   rintro e wn ⟨rfl,bn⟩
   have hB:Hid (Below w.heap.size w wn):=below_then D.out bn
   refine hKc.out _ _ hB.out (fun hHeld=>?_)
   clear hKc Kc bn
   refine tk 7 hHeld ?_
   refine tk 8 hHeld ?_
   clear hHeld
   refine wpAnyH_done (by kernel_rfl) (NoPanic.normal ?_) _
   have hq:(g.fin-g.tail == g.c.lc)=true:=by simp[h2]
   go_wp2_with fail
   go_ret
   exact⟨by rw[HE.out];rfl,hB.out⟩
  ·have HE:Hid (moreS g=0):=moreS_ok h1 h2
   go_wp2_with fail
   refine wp_region_noPanic ?_
   refine wp_region_held_drew (S:=fun w'=>Below w.heap.size w w') (by kernel_rfl) (below_drawn 1) (fun hHeld=>?_)
   have D:Hid (Below w.heap.size w w.drew):=hHeld
   generalize w.drew=wd at *
   have HC2:Hid (∀w',Below w.heap.size w w'→w'.cell? ⟨L,2,none⟩=some (.int .i64 g.c.lc)):=fun w' hb=>HAt.c2 (LAt.later HG.out hb)
   refine tk 0 hHeld ?_
   refine tk 2 hHeld ?_
   refine tk 3 hHeld ?_
   refine tk 4 hHeld ?_
   refine tk 5 hHeld ?_
   refine tkl 6 hHeld (fun _ hSw=>(HC2.out _ hSw)) ?_
   refine wpAnyH_ready (rs:=[1]) (by kernel_rfl) (by simp) ?_
   refine AllReadyH.cons (by simp;rfl) (fun Kc hKc=>?_) AllReadyH.nil
   go_simp
   refine (rused_at (LAt.later HG.out D.out) HO.out).mono ?_
   rintro e wn ⟨rfl,bn⟩
   have hB:Hid (Below w.heap.size w wn):=below_then D.out bn
   refine hKc.out _ _ hB.out (fun hHeld=>?_)
   clear hKc Kc bn
   refine tk 7 hHeld ?_
   refine tk 8 hHeld ?_
   clear hHeld
   refine wpAnyH_done (by kernel_rfl) (NoPanic.normal ?_) _
   have hq:(g.fin-g.tail == g.c.lc)=false:=by simp[h2]
   go_wp2_with fail
   go_ret
   exact⟨by rw[HE.out];rfl,hB.out⟩
theorem rwrite_at {w:World}{S:Nat→Prop}{p n:Nat}{d:List Int}{ws:List Wr}(h:Ref w S p n d ws)(i:Int)(h0:0≤i)(h1:i<n)(a:Option Addr)(c:Nat)(b:List Int)(hb:BIn w a 64 b)(hk:ws.length≤100000):Calls prog 184 #[.pointer (some ⟨p,0,none⟩),.int .i64 i,.slice a 64 c] w fun e w'=>e=.returned (.int .i64 0)∧Ref w' (More S w) p n d (ws++[⟨i.toNat,b⟩])∧Kept S w w':=by
 have e0:((i.toNat:Nat):Int)=i:=by omega
 have:=rwrite_good h i.toNat (by omega) a c b hb hk
 rw[e0] at this
 exact this
theorem rlay_low {w:World}{S:Nat→Prop}{L p:Nat}{d:List Int}{ws:List Wr}{g:Lg}{b:Int}(h:RL w S L p d ws g b)(hS:∀k,S k→k<w.heap.size)(hk:ws.length≤100000)(r:R.Rec)(hv:r.val.length=32)(hw:R.Rec.Wf ⟨r.kind,g.fin,r.block,r.val,r.images⟩)(hm:R.may ⟨r.kind,g.fin,r.block,r.val,r.images⟩=true)(hf:g.fin<4611686018427387904) :
  Calls prog 129 #[.pointer (some ⟨L,0,none⟩),.agg (R.rcells r).toArray] w fun e w'=>e=.returned (.int .u64 g.fin)∧Ref w' (More (fun k=>S k∧k≠L) w) p g.sz d (ws++[⟨(secN g g.fin).toNat,R.encS ⟨r.kind,g.fin,r.block,r.val,r.images⟩⟩])∧HAt w' L (some ⟨p,0,none⟩) (addG g) b∧Kept S w w':=by
 obtain ⟨r',hr'⟩:∃x:R.Rec,x=⟨r.kind,g.fin,r.block,r.val,r.images⟩:=⟨_,rfl⟩
 rw[← hr'] at hw hm ⊢
 have hlr:r'.val.length=32:=by rw[hr'];exact hv
 have hpos:r'.pos=g.fin:=by rw[hr']
 have hset:(R.rcells r).set 1 (.int .u64 g.fin)=R.rcells r':=by rw[hr'];rfl
 have hget:(R.rcells r)[1]?=some (.int .u64 r.pos):=rfl
 obtain ⟨w1,hw1⟩:∃x,x=w.alloc (.cells (R.rcells r').toArray 226):=⟨_,rfl⟩
 have ew:=hw1.symm
 have HG:Hid (RL w S L p d ws g b):=h
 have HS:Hid (∀k,S k→k<w.heap.size):=hS
 have HW:Hid (r'.Wf∧R.may r'=true):=⟨hw,hm⟩
 have B1:Hid (Below w.heap.size w w1):=by rw[hw1];exact below_alloc w _
 have A1:Hid (R.RAt 226 w1 w.heap.size r'):=by rw[hw1];exact R.RAt.new 226 w r'
 have L1:Hid (_):=R.RAt.load37 A1.out hlr
 have hf0:0≤g.fin:=by have:=h.ok.t0;have:=h.ok.tm;have:=h.ok.mf;omega
 have hLlt:=LAt.lt h.log
 have c8:=HAt.c8 h.log
 clear h hS hw1 hr' hw hm
 go_enter func129,ntmps129
 go_wp2_with ((with_reducible refine at_ops ?_);(refine wpList_load_is (by rfl) 226 rfl rfl L1.out ?_);simp only[Act.put,zA,zB,zC])
 refine (R.refEncode_good r' HW.out.1 HW.out.2 w1).mono ?_
 rintro e w2 ⟨q2,c2',rfl,m2⟩
 have B2:Hid (Below w.heap.size w w2):=below_then B1.out m2.below
 have HG2:Hid (RL w2 S L p d ws g b):=HG.out.later B2.out
 have A2:Hid (R.RAt 226 w2 w.heap.size r'):=R.RAt.later A1.out m2.below
 have X2:Hid (BIn w2 q2 64 (R.encS r')):=m2.read
 clear m2 A1 L1 ew hget hset c8
 go_wp2_with fail
 refine wp_region_noPanic ?_
 refine wp_region_held_drew (S:=fun w'=>w'.cell? ⟨L,0,none⟩=some (.pointer (some ⟨p,0,none⟩))∧w'.cell? ⟨L,8,none⟩=some (.int .u64 g.fin)) (by kernel_rfl) ⟨HAt.c0 HG2.out.log,HAt.c8 HG2.out.log⟩ (fun hHeld=>?_)
 have D2:Hid (Below w2.heap.size w2 w2.drew):=below_drawn 1
 generalize w2.drew=wd at *
 refine tk 0 hHeld ?_
 refine tk 1 hHeld ?_
 refine tk 2 hHeld ?_
 refine tkl 3 hHeld (fun _ hSw=>hSw.1) ?_
 refine tk 4 hHeld ?_
 refine tk 5 hHeld ?_
 refine tk 6 hHeld ?_
 refine tk 7 hHeld ?_
 refine tkl 8 hHeld (fun _ hSw=>hSw.2) ?_
 refine tk 10 hHeld ?_
 refine wpAnyH_ready (rs:=[9]) (by kernel_rfl) (by simp) ?_
 refine AllReadyH.cons (by simp;rfl) (fun Kc hKc=>?_) AllReadyH.nil
 go_simp
 refine (rsector_at (LAt.later HG2.out.log D2.out) HG.out.ok g.fin hf0).mono ?_
 rintro e wn ⟨rfl,bn⟩
 have DN:Hid (Below wd.heap.size wd wn):=bn
 have HGn:Hid (RL wn S L p d ws g b):=(HG2.out.later D2.out).later bn
 refine hKc.out _ _ ⟨HAt.c0 HGn.out.log,HAt.c8 HGn.out.log⟩ (fun hHeld=>?_)
 clear hKc Kc bn
 refine wpAnyH_ready (rs:=[11]) (by kernel_rfl) (by simp) ?_
 refine AllReadyH.cons (by simp;rfl) (fun Kc hKc=>?_) AllReadyH.nil
 go_simp
 refine (rwrite_at HGn.out.dsk (secN g g.fin) (secN_in HG.out.ok _).1 (secN_in HG.out.ok _).2 q2 c2' _ ((X2.out.later D2.out).later DN.out) hk).mono ?_
 rintro e w3 ⟨rfl,d3,k3⟩
 have Y3:Hid (Ref w3 (More (fun k=>S k∧k≠L) wn) p g.sz d (ws++[⟨(secN g g.fin).toNat,R.encS r'⟩])∧HAt w3 L (some ⟨p,0,none⟩) g b∧Kept (fun k=>S k∧k≠L) wn w3∧w3.cell? ⟨w.heap.size,1,none⟩=some (.int .u64 g.fin)):=by
  have hz:=B2.out.size
  have hz2:=D2.out.size
  have hz3:=DN.out.size
  have hA:=A2.out.lt
  refine⟨d3,(k3.block L (by omega) (fun t=>t.2 rfl)).trans HGn.out.log,k3,?_⟩
  rw[World.cell?_of_block (k3.block w.heap.size (by omega) (fun t=>by have:=HS.out _ t.1;omega)),← hpos]
  exact (R.RAt.later (R.RAt.later A2.out D2.out) DN.out).c1
 clear d3 k3
 refine hKc.out _ _ ⟨HAt.c0 Y3.out.2.1,HAt.c8 Y3.out.2.1⟩ (fun hHeld=>?_)
 clear hKc Kc
 refine wpAnyH_done (by kernel_rfl) (NoPanic.normal ?_) _
 have c8:=HAt.c8 Y3.out.2.1
 have cf:=HAt.free Y3.out.2.1 8
 have c1:=Y3.out.2.2.2
 have hne:¬L=w.heap.size:=by omega
 have hne2:¬w.heap.size=L:=by omega
 have k1:IntKind.u64.wrap (g.fin+1)=g.fin+1:=G.wrap_u (by omega) (by omega)
 clear hHeld X2 A2
 go_wp2_with fail
 go_ret
 have hs2:=B2.out.size
 have hs3:=Y3.out.2.2.1.size
 refine⟨rfl,?_,HAt.setF Y3.out.2.1 _,?_⟩
 ·refine (Y3.out.1.kept (kept_set w3 L 8 (.int .u64 (g.fin+1))) ?_).mono ?_
  ·rintro k (hs | hs) rfl
   ·exact hs.2 rfl
   ·have:=D2.out.size;have:=DN.out.size;omega
  ·rintro k _ (hs | hs)
   ·exact .inl hs
   ·exact .inr (by have:=D2.out.size;have:=DN.out.size;omega)
 ·exact ((Kept.of_below (S:=S) (below_then (below_then B2.out D2.out) DN.out)).trans (T:=fun k=>S k∧k≠L) Y3.out.2.2.1 (fun _ _ t=>t.1)).setCell (p:=⟨L,8,none⟩) (fun _=>HG.out.sl) _
theorem rlay_good {w:World}{S:Nat→Prop}{L p:Nat}{d:List Int}{ws:List Wr}{g:Lg}{b:Int}(h:RL w S L p d ws g b)(hk:ws.length≤100000)(r:R.Rec)(hv:r.val.length=32)(hw:R.Rec.Wf ⟨r.kind,g.fin,r.block,r.val,r.images⟩)(hm:R.may ⟨r.kind,g.fin,r.block,r.val,r.images⟩=true)(hf:g.fin<4611686018427387904) :
  Calls prog 129 #[.pointer (some ⟨L,0,none⟩),.agg (R.rcells r).toArray] w fun e w'=>e=.returned (.int .u64 g.fin)∧Ref w' (More (fun k=>S k∧k≠L) w) p g.sz d (ws++[⟨(secN g g.fin).toNat,R.encS ⟨r.kind,g.fin,r.block,r.val,r.images⟩⟩])∧HAt w' L (some ⟨p,0,none⟩) (addG g) b∧Kept S w w':=by
 refine (rlay_low (h.mono (T:=fun k=>S k∧k<w.heap.size) fun k hk s=>⟨s,hk⟩) (fun _ s=>s.2) hk r hv hw hm hf).mono ?_
 rintro e w' ⟨rfl,h1,h2,h3⟩
 refine⟨rfl,h1.mono ?_,h2,h3.wider fun _ _ s=>s.1⟩
 rintro k _ (hs | hs)
 ·exact .inl ⟨hs.1.1,hs.2⟩
 ·exact .inr hs
end Go.Proofs.YtcdjepkhdjpjcaaGreatDoor
