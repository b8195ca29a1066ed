import Derived.Test.YtcdjepkhdjpjcaaGreatDoorY08
import Derived.Lib.AppendZerosOnto
import Derived.RangeFuncNested
import Derived.RangeFuncBound
import Derived.Shelf.RegionOpen
import Derived.OwnWalkIn
import Derived.LoopNIn
import Derived.LoopIn
set_option maxHeartbeats 20000000
set_option maxRecDepth 100000
namespace Go.Proofs.YtcdjepkhdjpjcaaGreatDoor
open Go.RowKit
theorem zeros_one (z:Value)(k:Nat):Builtin.zeroCells #[z] k=(List.replicate k z).toArray:=by
 have h:=toList_madeCells_one z k
 have e:Builtin.zeroCells #[z] k=madeCells #[z] k:=by simp[Builtin.zeroCells,madeCells]
 rw[e,← h]
section
variable {P:Program} (w:World)
theorem run_append_zeros_own (base:Nat)(t tn ty e:TypeId)(i:TypeInfo)(z:Value)(bytes:Nat)(kq kn:IntKind)(ht:P.underlying t=some (.slice e))(htn:P.underlying tn=some (.int kn))(hi:P.info? e=some i)(hz:i.zero=some z)
  (hsize:i.size=1) (hby:i.bytes=bytes) (hzc:z.cells=#[z]) (hone:z.oneCell'=true) (g n cap:Nat) (xs:List Value) (hown:w.ownsRow base e 1 (.slice (some ⟨g,0,none⟩) n cap) n xs) (k:Nat) (hk:0<k)
  (h63:n+k≤maxLen) (hbytes:(n+k)*bytes≤140737488355328) (hbase:base≤w.heap.size) :
  ∃v' w',(Builtin.append_ #[t,tn] ty #[.slice (some ⟨g,0,none⟩) n cap,.int kq k]).run P w=.ok v' w'∧w'.ownsRow base e 1 v' (n+k) (xs++List.replicate k z)∧w.grownBy w' (some g):=by
 have hsmall:n+k≤9223372036854775807:=by simp only[maxLen] at h63;omega
 have hlen:(xs++List.replicate k z).length=(n+k)*1:=by rw[List.length_append,hown.1,List.length_replicate];omega
 have hkb:k*i.bytes≤140737488355328:=by
  rw[hby]
  exact Nat.le_trans (Nat.mul_le_mul_right _ (by omega)) hbytes
 rcases hown.2 with ⟨h,_⟩ | ⟨g',cap',cur,h,hbg,hg,hnc,hcm,hcs,htake⟩
 ·simp at h
 ·simp only[Value.slice.injEq,Option.some.injEq,Addr.mk.injEq,and_true,true_and] at h
  obtain ⟨rfl,rfl⟩:=h
  by_cases hroom:n+k≤cap
  ·have hst:=run_storeCells_at P g n e (List.replicate k z) 0 cur w hg (by simp;omega) (by intro v hv;rw[List.eq_of_mem_replicate hv];exact hone)
   simp only[Nat.add_zero] at hst
   have hw:IntKind.i64.wrap (k:Int)=k:=by rw[IntKind.wrap_i64];omega
   have hneg:¬((k:Int)<0):=by omega
   have h48i:¬(281474976710656<(k:Int)*(i.bytes:Int)):=by
    rw[← Int.natCast_mul]
    omega
   have hk0:k≠0:=by omega
   have hr:(Builtin.append_ #[t,tn] ty #[.slice (some ⟨g,0,none⟩) n cap,.int kq k]).run P w=.ok (.slice (some ⟨g,0,none⟩) (n+k) cap) (w.setRow g (cur.toList.take n++List.replicate k z++cur.toList.drop (n+(List.replicate k z).length)).toArray):=by
    simp[Builtin.append_,run_underlying ht,run_underlying htn,sizeOf,typeInfo,zeroValue,hi,hz,hsize,asInt,asIntOf,hw,hneg,h48i,hroom,hk0,hzc,zeros_one,Addr.add_lit,hst]
   refine⟨_,_,hr,⟨hlen,.inr ⟨g,cap,_,rfl,hbg,setRow_heap w g cur _ e _ hg,hroom,hcm,?_,?_⟩⟩,⟨rfl,rfl,rfl,by simp,fun k _ hk=>setRow_other w g k _ (fun e=>hk (by simp[e]))⟩⟩
   ·simp only[List.size_toArray,List.length_append,List.length_take,List.length_drop,Array.length_toList,List.length_replicate]
    omega
   ·rw[Nat.mul_one] at htake
    rw[htake,← hlen]
    exact List.take_left
  ·have holds:∀j u,xs[j]?=some u→w.drew.cell? ((⟨g,0,none⟩:Addr).add j)=some u:=hown.cells (g:=g) rfl
   have hf:=run_firstCells_some (P:=P) w.drew i.size n ⟨g,0,none⟩ n cap xs (by rw[hsize];exact hown.1) holds
   have hr:=Lib.run_append_grow_zeros (P:=P) w t tn ty e i z kq kn ht htn hi hz (some ⟨g,0,none⟩) n cap xs hf k hk (by omega) (by omega) (by omega) (by omega) (growslice_fits (by omega) (by rw[hby];exact hbytes))
   have hge:=grownCap_ge w (n+k) cap e
   have hcm2:grownCap w (n+k) cap e≤maxLen:=grownCap_le_maxLen w (n+k) cap e h63
   refine⟨_,_,hr,⟨hlen,.inr ⟨w.heap.size,_,_,rfl,hbase,heap_alloc_new w.drew _,hge,hcm2,?_,?_⟩⟩,⟨rfl,rfl,rfl,by simp,fun k hk _=>heap_alloc_old w.drew _ hk⟩⟩
   ·have:=hown.1
    simp only[Array.size_append,List.size_toArray,size_zeroCells,hzc]
    simp
    omega
   ·simp only[Array.toList_append,hzc,zeros_one,List.append_assoc]
    rw[← List.append_assoc,← hlen]
    exact List.take_left
theorem wpList_append_zeros_own {ops:Array Oper}{rest:List Oper}{o:Oper}{a:Act}{Q:Exit→Act→World→Prop}(hgd:o.guard=none)(s x:Operand)(t tn:TypeId)
  (ho:o.op=.call { callee:=.builtin .append,args:=#[s,x],argTypes:=#[t,tn] }) (base:Nat) (e:TypeId) (i:TypeInfo) (z:Value) (bytes:Nat) (kq kn:IntKind) (ht:P.underlying t=some (.slice e)) (htn:P.underlying tn=some (.int kn)) (hi:P.info? e=some i) (hz:i.zero=some z)
  (hsize:i.size=1) (hby:i.bytes=bytes) (hzc:z.cells=#[z]) (hone:z.oneCell'=true) (g n cap:Nat) (xs:List Value) (hs:a.eval s=.slice (some ⟨g,0,none⟩) n cap) (hown:w.ownsRow base e 1 (.slice (some ⟨g,0,none⟩) n cap) n xs) (k:Nat) (hx:a.eval x=.int kq k) (hk:0<k)
  (h63:n+k≤maxLen) (hbytes:(n+k)*bytes≤140737488355328) (hbase:base≤w.heap.size)
  (h:∀v' w',w'.ownsRow base e 1 v' (n+k) (xs++List.replicate k z)→w.grownBy w' (some g)→wpList P ops Q rest (a.put o.dst v') w'):wpList P ops Q (o :: rest) a w:=by
 refine wpList_plain hgd fun K hK=>?_
 obtain ⟨v',w',hr,h1,h2⟩:=run_append_zeros_own (P:=P) w base t tn o.type e i z bytes kq kn ht htn hi hz hsize hby hzc hone g n cap xs hown k hk h63 hbytes hbase
 unfold Oper.wp
 simp[execOp,ho,resolve,invoke,builtin,hs,hx,hr,Result.andThen]
 exact hK _ _ (h v' w' h1 h2)
end
theorem div_step (n:Int)(j:Nat):n / 256 ^ j / 256=n / 256 ^ (j+1):=by
 rw[Int.pow_succ,Int.ediv_ediv_of_nonneg (Int.le_of_lt (pow_pos j))]
theorem div_bd (n:Int)(j:Nat)(h0:0≤n):0≤n / 256 ^ j∧n / 256 ^ j≤n :=
 ⟨Int.ediv_nonneg h0 (Int.le_of_lt (pow_pos j)),Int.ediv_le_self _ h0⟩
theorem own_shape {w:World}{base:Nat}{v:Value}{n:Nat}{xs:List Value}(h:w.ownsRow base 5 1 v n xs)(h0:0<n):∃g cap,v=.slice (some ⟨g,0,none⟩) n cap∧n≤cap:=by
 rcases h.2 with ⟨_,h2⟩ | ⟨g,cap,cur,h2,_,_,h3,_⟩
 ·omega
 ·exact⟨g,cap,h2,h3⟩
theorem own_bin {w:World}{base g cap n:Nat}{xs:List Int}(h:w.ownsRow base 5 1 (.slice (some ⟨g,0,none⟩) n cap) n (U8 xs))(hb:Bytes xs):BIn w (some ⟨g,0,none⟩) n xs:=by
 obtain ⟨p,c,e,hr,_⟩:=own_in h hb
 simp only[Value.slice.injEq] at e
 rw[e.1]
 exact hr
open Go.Proofs.Tryz
theorem placesRL:placesOf prog 214=some plL:=by kernel_rfl
theorem fillRL (dp:Option Addr)(s:Sup)(t l:Int):Instr.fill (plL.toArray[·]?) (lcells none lg0).toArray [(0,.pointer dp),(1,.agg (ccells s).toArray),(2,.int .u64 l),(3,.int .u64 t),(4,.int .u64 t),(5,.int .u64 t)]=some (lcells dp (wb (opnG s t l) 0)).toArray:=by
 rw[fill_step 0 1 0 rfl _ [.pointer dp] _ rfl rfl (by simp[lcells]),fill_step 1 5 1 rfl _ (ccells s) _ rfl rfl (by simp[lcells]),fill_step 6 1 2 rfl _ [.int .u64 l] _ rfl rfl (by simp[lcells,ccells]),fill_step 7 1 3 rfl _ [.int .u64 t] _ rfl rfl (by simp[lcells,ccells]),fill_step 8 1 4 rfl _ [.int .u64 t] _ rfl rfl (by simp[lcells,ccells]),fill_step 9 1 5 rfl _ [.int .u64 t] _ rfl rfl (by simp[lcells,ccells])]
 rfl
theorem buildRL (w:World)(dp:Option Addr)(s:Sup)(t l:Int):(Instr.build 214 #[(0,.pointer dp),(1,.agg (ccells s).toArray),(2,.int .u64 l),(3,.int .u64 t),(4,.int .u64 t),(5,.int .u64 t)]).run prog w=.ok (.agg (lcells dp (wb (opnG s t l) 0)).toArray) w :=
 run_build w 214 _ _ ((built_of 214 _ _ _ placesRL zeroRL).trans (fillRL dp s t l))
theorem ropen_ok (s:Sup)(t l:Int)(ht0:0≤t)(hl0:0≤l){w:World}{S:Nat→Prop}{p n:Nat}{d:List Int}{ws:List Wr}(h:Ref w S p n d ws)(hr:opnS s n t l=0) :
  Calls prog 60 #[.pointer (some ⟨p,0,none⟩),.agg (ccells s).toArray,.int .u64 t,.int .u64 l] w fun e w'=>∃L,e=.returned (.tuple #[.pointer (some ⟨L,0,none⟩),.int .i64 0])∧w.heap.size≤L∧RL w' (More S w) L p d ws (opnG s t l) 0∧Below w.heap.size w w':=by
 have HB:Hid (Below w.heap.size w (w.alloc (.cells (ccells s).toArray 23))):=below_alloc w _
 have C0:Hid (CAt (w.alloc (.cells (ccells s).toArray 23)) w.heap.size s):=LAt.new 23 w (ccells s)
 have L1:Hid (_):=CAt.load23 C0.out
 have HD:Hid (Ref w S p n d ws):=h
 clear h
 go_enter func60,ntmps60
 go_wp2_with ((with_reducible refine at_ops ?_);(refine wpList_load_is (by rfl) 23 rfl rfl L1.out ?_);simp only[Act.put,zA,zB,zC])
 refine (refConfig_any s _).mono ?_
 rintro e w1 ⟨rfl,b1⟩
 have B1:Hid (Below w.heap.size w w1):=below_then HB.out b1
 have C1:Hid (CAt w1 w.heap.size s):=LAt.later C0.out b1
 have D1:Hid (Ref w1 S p n d ws):=HD.out.later B1.out
 clear b1 HB C0 L1
 obtain ⟨hc,hlen,hw1,hw2,hl⟩:=opnS_zero hr
 have hcf:cfg s=0:=if_pos hc
 have hb:=hc.1
 have hlc:=hc.2.1
 rw[hcf]
 have k1:IntKind.i64.wrap (1+s.bl)=1+s.bl:=by rw[IntKind.wrap_i64];omega
 have k2:IntKind.i64.wrap (1+s.bl+s.lc)=1+s.bl+s.lc:=by rw[IntKind.wrap_i64];omega
 have hq:((n:Int) != 1+s.bl+s.lc)=false:=by simp[hlen]
 have hw1':¬4611686018427387904<t:=by omega
 have hw2':¬4611686018427387904<l:=by omega
 have hl':(l == 0)=false:=by simp[hl]
 have HOK:Hid ((opnG s t l).Ok∧(opnG s t l).sz=n):=⟨opnG_ok hr ht0 hl0,by have:=(opnG_ok hr ht0 hl0).sz_is;have e1:(opnG s t l).c=s:=rfl;rw[e1] at this;omega⟩
 clear hr hlen hc hw1 hw2
 go_wp2_with fail
 refine wp_region_noPanic ?_
 refine wp_region_held_drew (S:=fun w'=>Below w1.heap.size w1 w') (by kernel_rfl) (below_drawn 1) (fun hHeld=>?_)
 have DX:Hid (Below w1.heap.size w1 w1.drew):=hHeld
 generalize w1.drew=wd at *
 have BD:Hid (Below w.heap.size w wd):=below_then B1.out DX.out
 refine tk 0 hHeld ?_
 refine tk 2 hHeld ?_
 refine tkl 3 hHeld (fun _ hSw=>CAt.c0 (LAt.later C1.out hSw)) ?_
 refine tk 4 hHeld ?_
 refine tk 5 hHeld ?_
 refine tkl 6 hHeld (fun _ hSw=>CAt.c1 (LAt.later C1.out hSw)) ?_
 refine tk 7 hHeld ?_
 refine wpAnyH_ready (rs:=[1]) (by kernel_rfl) (by simp) ?_
 refine AllReadyH.cons (by simp;rfl) (fun Kc hKc=>?_) AllReadyH.nil
 go_simp
 refine (rlen_any (D1.out.later DX.out)).mono ?_
 rintro e wn ⟨rfl,rfl⟩
 refine hKc.out _ _ DX.out (fun hHeld=>?_)
 clear hKc Kc
 refine tk 8 hHeld ?_
 refine tk 9 hHeld ?_
 clear hHeld
 refine wpAnyH_done (by kernel_rfl) (NoPanic.normal ?_) _
 have LC:Hid (_):=CAt.load23 (LAt.later C1.out DX.out)
 have U1:Hid (_):=buildRL wd (some ⟨p,0,none⟩) s t l
 have DD:Hid (Ref wd S p n d ws):=D1.out.later DX.out
 go_wp2_with ((with_reducible refine at_ops ?_);(first | (refine wpList_load_is (by rfl) 23 rfl rfl LC.out ?_) | (refine wpList_build_is (vs:=[(0,.pointer (some ⟨p,0,none⟩)),(1,.agg (ccells s).toArray),(2,.int .u64 l),(3,.int .u64 t),(4,.int .u64 t),(5,.int .u64 t)]) (by rfl) 214 rfl (by rfl) U1.out ?_));simp only[Act.put,zA,zB,zC])
 go_ret2
 refine⟨wd.heap.size,rfl,BD.out.size,?_,BD.out.alloc BD.out.size _⟩
 have hn:=LAt.new 214 wd (lcells (some ⟨p,0,none⟩) (wb (opnG s t l) 0))
 refine⟨hn,?_,.inr BD.out.size,HOK.out.1,fun h=>absurd h (Int.lt_irrefl 0)⟩
 rw[HOK.out.2]
 have hS:=HD.out.mono (T:=fun k=>S k∧k<w.heap.size) fun k hk s=>⟨s,hk⟩
 refine (hS.later (BD.out.alloc BD.out.size _)).mono fun k _ s=>⟨.inl s.1,?_⟩
 have:=BD.out.size
 omega
end Go.Proofs.YtcdjepkhdjpjcaaGreatDoor
