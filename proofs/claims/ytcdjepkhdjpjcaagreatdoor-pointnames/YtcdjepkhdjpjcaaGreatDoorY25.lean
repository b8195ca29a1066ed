import Derived.Test.YtcdjepkhdjpjcaaGreatDoorY24
import Derived.Lib.Overlaps
import Derived.Shelf.RegionOpenPlain
set_option maxHeartbeats 20000000
set_option maxRecDepth 100000
namespace Go.Proofs.YtcdjepkhdjpjcaaGreatDoor.C
open Go.Proofs.Tryz
open Go.RowKit
open Go.Shelf
theorem run_copy_rowk {P:Program}(w:World)(dT sT ty elem:TypeId)(sz g o dLen dCap:Nat)(a:Addr)(sLen sCap:Nat)(cur:Array Value)(t:TypeId)(cs:List Value)
  (hu:P.underlying dT=some (.slice elem)) (hs:(P.info? elem).map (·.size)=some sz)
  (hg:w.heap[g]?=some (.cells cur t (0,0))) (hn:cs.length=Nat.min sLen dLen*sz)
  (hsrc:∀j v,cs[j]?=some v→w.cell? (a.add j)=some v) (hfit:o+cs.length≤cur.size) (h1:∀v∈cs,v.oneCell'=true) :
  (Builtin.copy_ #[dT,sT] ty #[.slice (some ⟨g,o,none⟩) dLen dCap,.slice (some a) sLen sCap]).run P w =
   .ok (goInt (Nat.min sLen dLen)) (w.setRow g (cur.toList.take o++cs++cur.toList.drop (o+cs.length)).toArray):=by
 have hl:=run_loadCells_list (P:=P) w a cs hsrc
 have hst:=run_storeCells_at P g o t cs 0 cur w hg (by simpa using hfit) h1
 cases hq:P.info? elem with
 | none=>simp[hq] at hs
 | some i =>
  have hi:i.size=sz:=by simpa [hq] using hs
  simp[Builtin.copy_,run_underlying hu,Builtin.lenOf,Builtin.firstCells,sizeOf,typeInfo,hq,hi,← hn,hl,hst]
theorem shift_eq {α:Type}{C A X D:List α}{a x d:Nat}(hA:C.take a=A)(hx:X.length=x)(hd:D.length=d)(hl:a+x+d≤C.length) :
  (C.take (a+x)++D++C.drop (a+x+d)).take a++X++(C.take (a+x)++D++C.drop (a+x+d)).drop (a+x)=A++X++D++C.drop (a+x+d):=by
 have e1:(C.take (a+x)++D++C.drop (a+x+d)).take a=A:=by
  rw[List.append_assoc,List.take_append_of_le_length (by simp;omega),List.take_take,Nat.min_eq_left (by omega),hA]
 have e2:(C.take (a+x)++D++C.drop (a+x+d)).drop (a+x)=D++C.drop (a+x+d):=by
  have:(C.take (a+x)).length=a+x:=by simp;omega
  rw[List.append_assoc,List.drop_append_of_le_length (by omega),List.drop_of_length_le (by omega),List.nil_append]
 rw[e1,e2,List.append_assoc (A++X)]
theorem grow_eq {α:Type}{C A X D:List α}{a x d:Nat}(hA:C.take a=A)(hx:X.length=x)(hd:D.length=d)(hl:a+x+d≤C.length) :
  (C.take a++X++C.drop (a+x)).take (a+x)++D++(C.take a++X++C.drop (a+x)).drop (a+x+d)=A++X++D++C.drop (a+x+d):=by
 have hal:A.length=a:=by rw[← hA];simp;omega
 have e1:(C.take a++X++C.drop (a+x)).take (a+x)=A++X:=by
  rw[hA,List.take_append_of_le_length (by simp;omega),List.take_of_length_le (by simp;omega)]
 have e2:(C.take a++X++C.drop (a+x)).drop (a+x+d)=C.drop (a+x+d):=by
  rw[hA,List.drop_append,List.drop_of_length_le (by simp;omega),List.nil_append,List.drop_drop]
  congr 1
  simp;omega
 rw[e1,e2]
theorem EC_split (L:List En)(i:Nat)(x:En):EC (L.take i++[x]++L.drop i)=EC (L.take i)++ecells x++EC (L.drop i):=by simp[EC]
theorem wf_take {L:List En}(h:EnsWf L)(i:Nat):EnsWf (L.take i):=fun x hx=>h x (List.mem_of_mem_take hx)
theorem wf_drop {L:List En}(h:EnsWf L)(i:Nat):EnsWf (L.drop i):=fun x hx=>h x (List.mem_of_mem_drop hx)
theorem wf_ins {L:List En}(h:EnsWf L)(i:Nat){x:En}(hx:x.Wf):EnsWf (L.take i++[x]++L.drop i):=((wf_take h i).snoc hx).append (wf_drop h i)
theorem ins_len {L:List En}{i:Nat}(hi:i≤L.length)(x:En):(L.take i++[x]++L.drop i).length=L.length+1:=by simp;omega
theorem insert_shift {w:World}{B g c i vb n:Nat}{L:List En}{x:En}(h:EOwn 54 w B (.slice (some ⟨g,0,none⟩) n c) L)(hw:EnsWf L)(hl:L.length=n)(hx:x.Wf)(hv:LAt 54 w vb (ecells x))(hvg:vb≠g)(hi:i<n)(hroom:n+1≤c)(hn:n≤10000) :
  Calls prog 135 #[.slice (some ⟨g,0,none⟩) n c,.int .i64 (i:Int),.slice (some ⟨vb,0,none⟩) 1 1] w fun e w'=>e=.returned (.slice (some ⟨g,0,none⟩) (n+1) c)∧EOwn 54 w' B (.slice (some ⟨g,0,none⟩) (n+1) c) (L.take i++[x]++L.drop i)∧Kept (·=g) w w':=by
 subst hl
 obtain ⟨cur,hg,hcs,htk,hB,hcm⟩:∃cur,w.heap[g]?=some (.cells cur 54 (0,0))∧cur.size=c*34∧cur.toList.take (L.length*34)=EC L∧B≤g∧c≤maxLen:=by
  rcases h.2 with ⟨e,_⟩ | ⟨g',cap,cur,e,h0,hg,h1,h2,h3,h4⟩
  ·cases e
  ·cases e;exact⟨cur,hg,h3,h4,h0,h2⟩
 have hv0:w.heap[vb]?=some (.cells (ecells x).toArray 54 (0,0)):=hv
 have hlen:cur.toList.length=c*34:=by rw[← hcs];exact Array.length_toList
 have hov:∀lb cb,(callFunc 187 #[.slice (some ⟨vb,0,none⟩) 1 1,.slice (some ⟨g,(i+1)*34,none⟩) lb cb]).run prog w=.ok (.value (.bool false)) w:=fun lb cb=>by
  rw[run_callFunc_extern func187 (by kernel_rfl) (by kernel_rfl) (by kernel_rfl) (e:=Extern.SlicesOverlaps.overlaps #[47,47] #[4]) (by kernel_rfl),
   Lib.run_overlaps_apart w 47 4 54 etC.ut 34 (fun w=>Tryz.sizeOf54 w) ⟨vb,0,none⟩ ⟨g,(i+1)*34,none⟩ 1 1 lb cb hvg 54 54 (ecells x).toArray.size cur.size (by simp[World.shape?,hv0]) (by simp[World.shape?,hg]) (by omega) (by simp[World.frozen?,hv0]) (by simp[World.frozen?,hv0])]
  rfl
 have hz2:¬((i:Int)=(L.length:Int)):=by omega
 have hr1:¬(c:Int)<(L.length:Int)+1:=by omega
 have HDl:Hid ((EC (L.drop i)).length=(L.length-i)*34):=by show _=_;rw[EC_len (wf_drop hw i),List.length_drop]
 have HXl:Hid ((ecells x).length=34):=ecells_len hx.len
 have HAl:Hid (cur.toList.take (i*34)=EC (L.take i)):=by
  have e2:EC L=EC (L.take i)++EC (L.drop i):=by rw[← EC_append,List.take_append_drop]
  have el:(EC (L.take i)).length=i*34:=by rw[EC_len (wf_take hw i),List.length_take];omega
  show _=_
  rw[show cur.toList.take (i*34)=(cur.toList.take (L.length*34)).take (i*34) by rw[List.take_take,Nat.min_eq_left (Nat.mul_le_mul_right _ (by omega))],htk,e2,← el,List.take_left]
 have hsrc1:∀j v,(EC (L.drop i))[j]?=some v→w.cell? ((⟨g,i*34,none⟩:Addr).add j)=some v:=fun j v hj=>by
  have e2:EC L=EC (L.take i)++EC (L.drop i):=by rw[← EC_append,List.take_append_drop]
  have el:(EC (L.take i)).length=i*34:=by rw[EC_len (wf_take hw i),List.length_take];omega
  have:=h.cells (g:=g) rfl (i*34+j) v (by rw[e2,List.getElem?_append_right (by omega),el,Nat.add_sub_cancel_left];exact hj)
  rw[Go.WideShapes.add_plain] at this ⊢
  rwa [Nat.zero_add] at this
 have hfit1:(i+1)*34+(EC (L.drop i)).length≤cur.size:=by
  rw[HDl.out,hcs]
  have:=Nat.mul_le_mul_right 34 hroom
  omega
 obtain ⟨C1,hC1⟩:∃C1,C1=(cur.toList.take ((i+1)*34)++EC (L.drop i)++cur.toList.drop ((i+1)*34+(EC (L.drop i)).length)).toArray:=⟨_,rfl⟩
 have hC1s:C1.size=cur.size:=by rw[hC1];simp only[List.size_toArray,List.length_append,List.length_take,List.length_drop,Array.length_toList];omega
 have HCP1:Hid (∀(W:World) ty dc sc,W.heap[g]?=w.heap[g]?→(Builtin.copy_ #[47,47] ty #[.slice (some ⟨g,(i+1)*34,none⟩) (L.length-i) dc,.slice (some ⟨g,i*34,none⟩) (L.length+1-i) sc]).run prog W=.ok (goInt ((L.length-i:Nat):Int)) (W.setRow g C1)):=fun W ty dc sc hW=>by
  have em:Nat.min (L.length+1-i) (L.length-i)=L.length-i:=by simp only[Nat.min_def];split <;> omega
  have:=run_copy_rowk (P:=prog) W 47 47 ty 54 34 g ((i+1)*34) (L.length-i) dc ⟨g,i*34,none⟩ (L.length+1-i) sc cur 54 (EC (L.drop i)) etC.ut etC.size (hW.trans hg) (by rw[em];exact HDl.out) (fun j v hj=>(World.cell?_of_block (w:=w) (w':=W) (a:=(⟨g,i*34,none⟩:Addr).add j) (by rw[Go.WideShapes.add_plain];exact hW)).trans (hsrc1 j v hj)) hfit1 (EC_ones _)
  rw[em] at this
  rw[hC1];exact this
 have HCP2:Hid (∀(W:World) ty dc,W.heap[g]?=some (.cells C1 54 (0,0))→LAt 54 W vb (ecells x)→(Builtin.copy_ #[47,47] ty #[.slice (some ⟨g,i*34,none⟩) (L.length+1-i) dc,.slice (some ⟨vb,0,none⟩) 1 1]).run prog W=.ok (goInt 1) (W.setRow g (EC (L.take i)++ecells x++EC (L.drop i)++cur.toList.drop ((L.length+1)*34)).toArray)):=fun W ty dc hW hV=>by
  have em:Nat.min 1 (L.length+1-i)=1:=by simp only[Nat.min_def];split <;> omega
  have:=run_copy_rowk (P:=prog) W 47 47 ty 54 34 g (i*34) (L.length+1-i) dc ⟨vb,0,none⟩ 1 1 C1 54 (ecells x) etC.ut etC.size hW (by rw[em];exact HXl.out) (fun j v hj=>by rw[Go.WideShapes.add_plain,Nat.zero_add,LAt.cell hV];exact hj) (by rw[HXl.out,hC1s,hcs];omega) (ecells_ones x)
  rw[em] at this
  rw[this,HXl.out]
  have e:=shift_eq (C:=cur.toList) (X:=ecells x) (D:=EC (L.drop i)) (a:=i*34) (x:=34) (d:=(L.length-i)*34) HAl.out HXl.out HDl.out (by rw[hlen];omega)
  rw[show i*34+34+(L.length-i)*34=(L.length+1)*34 by omega] at e
  congr 3
  rw[hC1,HDl.out,show (i+1)*34=i*34+34 by omega,show i*34+34+(L.length-i)*34=(L.length+1)*34 by omega]
  exact e
 have HFin:Hid (∀W:World,Kept (·=g) w W→W.heap[g]?=some (.cells (EC (L.take i)++ecells x++EC (L.drop i)++cur.toList.drop ((L.length+1)*34)).toArray 54 (0,0))→EOwn 54 W B (.slice (some ⟨g,0,none⟩) (L.length+1) c) (L.take i++[x]++L.drop i)):=fun W _ hW=>by
  have e:=ins_len (i:=i) (L:=L) (by omega) x
  refine⟨EC_len (wf_ins hw i hx),.inr ⟨g,c,_,by rw[e],hB,hW,by omega,hcm,?_,?_⟩⟩
  ·have e3:=EC_len (wf_ins hw i hx)
   rw[EC_split,e] at e3
   rw[List.size_toArray,List.length_append,e3,List.length_drop,hlen];omega
  ·have e3:=EC_len (wf_ins hw i hx)
   rw[e,EC_split] at *
   show ((EC (L.take i)++ecells x++EC (L.drop i))++_).take _=_
   rw[← e3,List.take_left]
 obtain ⟨C2,hC2⟩:∃C2:Array Value,C2=(EC (L.take i)++ecells x++EC (L.drop i)++cur.toList.drop ((L.length+1)*34)).toArray:=⟨_,rfl⟩
 rw[← hC2] at HCP2 HFin
 clear hC2
 have HV:Hid (LAt 54 w vb (ecells x)):=hv
 have HG:Hid (w.heap[g]?=some (.cells cur 54 (0,0))):=hg
 have HNE:Hid (vb≠g):=hvg
 clear hv0 hlen hC1 hC1s hsrc1 hfit1 hg hcs htk h hw hv hvg hx HDl HXl HAl
 go_enter func135,ntmps135
 go_wp2_with (simp only[hov])
 clear hov
 have mixed:prog.follows Departure.mixedOrders=true:=by kernel_rfl
 have hw1:IntKind.i64.wrap ((i:Int)+1)=(i:Int)+1:=by rw[IntKind.wrap_i64];omega
 have hb1:(0:Int)≤(i:Int)+1:=by omega
 have htn:((i:Int)+1).toNat=i+1:=by omega
 have hb2:¬(c=i+1):=by omega
 have hb3:(i:Int)+1≤(L.length:Int)+1:=by omega
 have hb4:¬(c=i):=by omega
 have hb5:(i:Int)≤(L.length:Int)+1:=by omega
 have hcp:=HCP1.out w.drew 3 (c-(i+1)) (c-i) rfl
 go_region
 clear hcp
 have K1:Kept (·=g) w (w.drew.setRow g C1):=(Kept.of_below _ (below_drawn 1)).trans (Kept.setRow _ g C1) (fun _ _ e=>e)
 have HK1:Hid (Kept (·=g) w (w.drew.setRow g C1)):=K1
 have HG1:Hid ((w.drew.setRow g C1).heap[g]?=some (.cells C1 54 (0,0))):=setRow_heap w.drew g cur _ 54 (0,0) HG.out
 have HV1:Hid (LAt 54 (w.drew.setRow g C1) vb (ecells x)):=(K1.block vb (LAt.lt HV.out) HNE.out).trans HV.out
 clear K1 HCP1 hw1 hb1 htn mixed
 generalize w.drew.setRow g C1=w1 at *
 have hcp2:=HCP2.out w1 3 (c-i) HG1.out HV1.out
 go_wp2
 go_ret
 have K2:=HK1.out.trans (Kept.setRow w1 g C2) (fun _ _ e=>e)
 exact⟨rfl,HFin.out _ K2 (setRow_heap w1 g C1 _ 54 (0,0) HG1.out),K2⟩
theorem zeros_len (k:Nat):(Builtin.zeroCells (ecells en0).toArray k).size=k*34:=by simp[Builtin.zeroCells,ecells_len (show en0.v.length=32 from zs_len 32)]
theorem below_drew_alloc (w:World)(o:Obj):Below w.heap.size w (w.drew.alloc o):=below_then (show Below w.heap.size w w.drew from below_drawn 1) (below_alloc w.drew o)
theorem insert_grow {w:World}{B g c i vb n:Nat}{L:List En}{x:En}(h:EOwn 54 w B (.slice (some ⟨g,0,none⟩) n c) L)(hw:EnsWf L)(hl:L.length=n)(hx:x.Wf)(hv:LAt 54 w vb (ecells x))(hi:i<n)(hroom:¬n+1≤c)(hn:n≤10000)(hB:B≤w.heap.size) :
  Calls prog 135 #[.slice (some ⟨g,0,none⟩) n c,.int .i64 (i:Int),.slice (some ⟨vb,0,none⟩) 1 1] w fun e w'=>∃c',e=.returned (.slice (some ⟨w.heap.size,0,none⟩) (n+1) c')∧EOwn 54 w' B (.slice (some ⟨w.heap.size,0,none⟩) (n+1) c') (L.take i++[x]++L.drop i)∧Below w.heap.size w w':=by
 subst hl
 obtain ⟨i0,hi0,hz0,hz1,hz2⟩:=info_parts etC.inf
 have hnc:L.length≤c:=by
  rcases h.2 with ⟨e,_⟩ | ⟨g',cap,cur,e,h0,hg,h1,h2,h3,h4⟩
  ·cases e
  ·cases e;exact h1
 have hgw:g<w.heap.size:=(h.lt g rfl).2
 have HDl:Hid ((EC (L.drop i)).length=(L.length-i)*34):=by show _=_;rw[EC_len (wf_drop hw i),List.length_drop]
 have HXl:Hid ((ecells x).length=34):=ecells_len hx.len
 have HAl:Hid ((EC (L.take i)).length=i*34):=by show _=_;rw[EC_len (wf_take hw i),List.length_take];omega
 have e2:EC L=EC (L.take i)++EC (L.drop i):=by rw[← EC_append,List.take_append_drop]
 have hcell:∀j v,(EC L)[j]?=some v→w.cell? ⟨g,j,none⟩=some v:=fun j v hj=>by
  have:=h.cells (g:=g) rfl j v hj
  rw[Go.WideShapes.add_plain] at this
  rwa [Nat.zero_add] at this
 have hold:(Builtin.firstCells i0.size i (.slice (some ⟨g,0,none⟩) i c)).run prog w.drew=.ok (EC (L.take i)).toArray w.drew :=
  run_firstCells_some w.drew i0.size i ⟨g,0,none⟩ i c (EC (L.take i)) (by rw[hz1];exact HAl.out) (fun j v hj=>by
   rw[Go.WideShapes.add_plain,Nat.zero_add]
   exact hcell j v (by rw[e2,List.getElem?_append_left (List.getElem?_eq_some_iff.1 hj).1];exact hj))
 have hkk:(L.length:Int)+1-(i:Int)=((L.length+1-i:Nat):Int):=by omega
 have hik:i+(L.length+1-i)=L.length+1:=by omega
 obtain ⟨G,hG,hcm⟩:∃G,(∀ty,(Builtin.append_ #[47,3] ty #[.slice (some ⟨g,0,none⟩) i c,.int .i64 ((L.length:Int)+1-(i:Int))]).run prog w=.ok (.slice (some ⟨w.heap.size,0,none⟩) (L.length+1) G) (w.drew.alloc (.cells ((EC (L.take i)).toArray++Builtin.zeroCells (ecells en0).toArray (L.length+1-i)++Builtin.zeroCells (ecells en0).toArray (G-(L.length+1))) 54)))∧L.length+1≤G∧G≤maxLen:=by
  have hb:(L.length+1)*48≤140737488355328:=by omega
  have hfit:=growslice_fits (need:=L.length+1) (old:=c) (bytes:=48) (by omega) hb
  have h65:(20000:Nat)≤maxLen:=by decide
  refine⟨grownCap w (L.length+1) c 54,fun ty=>?_,grownCap_ge _ _ _ _,grownCap_le_maxLen _ _ _ _ (by omega)⟩
  have h:=Lib.run_append_grow_zeros (P:=prog) w 47 3 ty 54 i0 _ .i64 .i64 etC.ut underlying3 hi0 hz0 (some ⟨g,0,none⟩) i c (EC (L.take i)) hold (L.length+1-i) (by omega) (by omega) (by omega) (by omega) (by rw[hz2];omega) (by rw[hz2,hik];exact hfit)
  rw[hik] at h
  rw[hkk]
  exact h
 obtain ⟨R,hR⟩:∃R:Array Value,R=(EC (L.take i)).toArray++Builtin.zeroCells (ecells en0).toArray (L.length+1-i)++Builtin.zeroCells (ecells en0).toArray (G-(L.length+1)):=⟨_,rfl⟩
 have hRs:R.size=G*34:=by rw[hR,Array.size_append,Array.size_append,zeros_len,zeros_len,List.size_toArray,HAl.out];omega
 have hRl:R.toList.length=G*34:=by rw[← hRs];exact Array.length_toList
 have hRt:R.toList.take (i*34)=EC (L.take i):=by
  rw[hR,Array.toList_append,Array.toList_append,List.append_assoc]
  show List.take (i*34) (EC (L.take i)++_)=_
  rw[← HAl.out,List.take_left]
 rw[← hR] at hG
 obtain ⟨W0,hW0⟩:∃W0,W0=w.drew.alloc (.cells R 54):=⟨_,rfl⟩
 rw[← hW0] at hG
 have B0:Below w.heap.size w W0:=by rw[hW0];exact below_drew_alloc w _
 have HN0:Hid (W0.heap[w.heap.size]?=some (.cells R 54 (0,0))):=by rw[hW0];exact heap_alloc_new w.drew _
 have HV0:Hid (LAt 54 W0 vb (ecells x)):=LAt.later hv B0
 obtain ⟨C1,hC1⟩:∃C1,C1=(R.toList.take (i*34)++ecells x++R.toList.drop (i*34+34)).toArray:=⟨_,rfl⟩
 have hC1s:C1.size=G*34:=by rw[hC1];simp only[List.size_toArray,List.length_append,List.length_take,List.length_drop,hRl,HXl.out];omega
 have HCP1:Hid ((Builtin.copy_ #[47,47] 3 #[.slice (some ⟨w.heap.size,i*34,none⟩) (L.length+1-i) (G-i),.slice (some ⟨vb,0,none⟩) 1 1]).run prog W0=.ok (goInt 1) (W0.setRow w.heap.size C1)):=by
  have em:Nat.min 1 (L.length+1-i)=1:=by simp only[Nat.min_def];split <;> omega
  have:=run_copy_rowk (P:=prog) W0 47 47 3 54 34 w.heap.size (i*34) (L.length+1-i) (G-i) ⟨vb,0,none⟩ 1 1 R 54 (ecells x) etC.ut etC.size HN0.out (by rw[em];exact HXl.out) (fun j v hj=>by rw[Go.WideShapes.add_plain,Nat.zero_add,LAt.cell HV0.out];exact hj) (by rw[HXl.out,hRs];omega) (ecells_ones x)
  rw[em] at this
  show _=_
  rw[this,HXl.out,hC1]
  rfl
 obtain ⟨W1,hW1⟩:∃W1,W1=W0.setRow w.heap.size C1:=⟨_,rfl⟩
 rw[← hW1] at HCP1
 have B1:Below w.heap.size w W1:=by rw[hW1];exact below_setRow B0 (Nat.le_refl _) _
 have HN1:Hid (W1.heap[w.heap.size]?=some (.cells C1 54 (0,0))):=by rw[hW1];exact setRow_heap W0 _ R _ 54 (0,0) HN0.out
 obtain ⟨C2,hC2⟩:∃C2:Array Value,C2=(EC (L.take i)++ecells x++EC (L.drop i)++R.toList.drop ((L.length+1)*34)).toArray:=⟨_,rfl⟩
 have HCP2:Hid ((Builtin.copy_ #[47,47] 3 #[.slice (some ⟨w.heap.size,(i+1)*34,none⟩) (L.length-i) (G-(i+1)),.slice (some ⟨g,i*34,none⟩) (L.length-i) (c-i)]).run prog W1.drew=.ok (goInt ((L.length-i:Nat):Int)) (W1.drew.setRow w.heap.size C2)):=by
  have em:Nat.min (L.length-i) (L.length-i)=L.length-i:=Nat.min_self _
  have:=run_copy_rowk (P:=prog) W1.drew 47 47 3 54 34 w.heap.size ((i+1)*34) (L.length-i) (G-(i+1)) ⟨g,i*34,none⟩ (L.length-i) (c-i) C1 54 (EC (L.drop i)) etC.ut etC.size HN1.out (by rw[em];exact HDl.out) (fun j v hj=>by
   rw[Go.WideShapes.add_plain]
   have b2:Below w.heap.size w W1.drew:=B1.trans (below_drawn 1)
   rw[b2.cell (p:=⟨g,i*34+j,none⟩) hgw]
   exact hcell _ v (by rw[e2,List.getElem?_append_right (by rw[HAl.out];omega),HAl.out,Nat.add_sub_cancel_left];exact hj)) (by rw[HDl.out,hC1s];omega) (EC_ones _)
  rw[em] at this
  show _=_
  rw[this,HDl.out]
  have e:=grow_eq (C:=R.toList) (X:=ecells x) (D:=EC (L.drop i)) (a:=i*34) (x:=34) (d:=(L.length-i)*34) hRt HXl.out HDl.out (by rw[hRl];omega)
  rw[show i*34+34+(L.length-i)*34=(L.length+1)*34 by omega] at e
  congr 2
  rw[hC2]
  congr 1
  rw[hC1,show (i+1)*34=i*34+34 by omega,show i*34+34+(L.length-i)*34=(L.length+1)*34 by omega]
  exact e
 have HFin:Hid (∀W:World,W.heap[w.heap.size]?=some (.cells C2 54 (0,0))→EOwn 54 W B (.slice (some ⟨w.heap.size,0,none⟩) (L.length+1) G) (L.take i++[x]++L.drop i)):=fun W hW=>by
  have e:=ins_len (i:=i) (L:=L) (by omega) x
  have e3:=EC_len (wf_ins hw i hx)
  rw[EC_split,e] at e3
  refine⟨EC_len (wf_ins hw i hx),.inr ⟨w.heap.size,G,_,by rw[e],hB,hW,by omega,hcm.2,?_,?_⟩⟩
  ·rw[hC2,List.size_toArray,List.length_append,e3,List.length_drop,hRl];omega
  ·rw[e,EC_split,hC2]
   show ((EC (L.take i)++ecells x++EC (L.drop i))++_).take _=_
   rw[← e3,List.take_left]
 have HB1:Hid (Below w.heap.size w W1):=B1
 have hGc:=hcm.1
 have hzz:¬((i:Int)=(L.length:Int)):=by omega
 have hr1:(c:Int)<(L.length:Int)+1:=by omega
 have hap:=hG 47
 have hcp1:=HCP1.out
 have hkx:¬G=i:=by omega
 clear hkk hik hC1 hC1s hC2 hW0 hW1 hG hR hRs hRl hRt B0 B1 e2 hcell hold h hw hx hv HN0 HV0 HCP1 HDl HXl HAl hi0 hz0 hz1 hz2 hcm hgw i0
 go_enter func135,ntmps135
 go_wp2_with (at_builtin;refine Lib.wpList_append_run _ rfl _ _ _ _ rfl _ _ rfl rfl _ _ hap ?_)
 clear hap hcp1
 have mixed:prog.follows Departure.mixedOrders=true:=by kernel_rfl
 have hw1:IntKind.i64.wrap ((i:Int)+1)=(i:Int)+1:=by rw[IntKind.wrap_i64];omega
 have hb1:(0:Int)≤(i:Int)+1:=by omega
 have htn:((i:Int)+1).toNat=i+1:=by omega
 have hb2:¬(G=i+1):=by omega
 have hb3:(i:Int)+1≤(L.length:Int)+1:=by omega
 have hb4:¬(c=i):=by omega
 have hb5:(i:Int)≤(L.length:Int):=by omega
 have hcp:=HCP2.out
 go_region
 clear hcp mixed hw1 hb1 htn
 go_wp2
 go_ret
 exact⟨G,rfl,HFin.out _ (setRow_heap W1.drew _ C1 _ 54 (0,0) HN1.out),below_setRow (HB1.out.trans (below_drawn 1)) (Nat.le_refl _) _⟩
theorem insert_end {w:World}{B vb n c:Nat}{p:Option Addr}{L:List En}{x:En}(h:EOwn 54 w B (.slice p n c) L)(hw:EnsWf L)(hl:L.length=n)(hx:x.Wf)(hv:LAt 54 w vb (ecells x))(hn:n≤10000)(hB:B≤w.heap.size) :
  Calls prog 135 #[.slice p n c,.int .i64 (n:Int),.slice (some ⟨vb,0,none⟩) 1 1] w fun e w'=>∃v',e=.returned v'∧EOwn 54 w' B v' (L++[x])∧w.grownBy w' (Value.slice p n c).ownBlock∧(v'.ownBlock=(Value.slice p n c).ownBlock∨v'.ownBlock=some w.heap.size):=by
 have hM:EIn w (some ⟨vb,0,none⟩) 1 [x]:=⟨rfl,fun y hy=>by rw[List.mem_singleton.1 hy];exact hx,fun _=>⟨vb,0,rfl,fun j v hj=>by
  rw[Nat.zero_add,LAt.cell hv]
  simpa [EC] using hj⟩⟩
 obtain ⟨q',c',W',hr,ho,hg,hat⟩:=app_ens etC (c:=1) h hw hM (by omega) hB
 have hap:(Builtin.append_ #[47,47] 47 #[.slice p n c,.slice (some ⟨vb,0,none⟩) 1 1]).run prog w=.ok (.slice q' (L++[x]).length c') W':=hr
 have HO:Hid (EOwn 54 W' B (.slice q' (L++[x]).length c') (L++[x])):=ho
 have HG:Hid (w.grownBy W' (Value.slice p n c).ownBlock):=hg
 have HA:Hid ((Value.slice q' (L++[x]).length c').ownBlock=(Value.slice p n c).ownBlock∨(Value.slice q' (L++[x]).length c').ownBlock=some w.heap.size):=hat
 have hz:n≤c:=by
  rcases h.2 with ⟨e,e2⟩ | ⟨g',cap,cur,e,h0,hg,h1,h2,h3,h4⟩
  ·cases e;omega
  ·cases e;omega
 generalize (L++[x]).length=m at *
 clear hr ho hg hat hM h hw hx hv
 go_enter func135,ntmps135
 cases p with
 | none =>
  go_wp2_with (at_builtin;refine Lib.wpList_append_run _ rfl _ _ _ _ rfl _ _ rfl rfl _ _ hap ?_)
  go_ret
  exact⟨_,rfl,HO.out,HG.out,HA.out⟩
 | some a =>
  obtain ⟨ab,ao,asp⟩:=a
  go_wp2_with (at_builtin;refine Lib.wpList_append_run _ rfl _ _ _ _ rfl _ _ rfl rfl _ _ hap ?_)
  all_goals (go_ret;exact⟨_,rfl,HO.out,HG.out,HA.out⟩)
theorem insert_at {w:World}{B vb i:Nat}{v:Value}{L:List En}{x:En}(h:EOwn 54 w B v L)(hw:EnsWf L)(hx:x.Wf)(hv:LAt 54 w vb (ecells x))(hvg:v.ownBlock≠some vb)(hi:i≤L.length)(hn:L.length≤10000)(hB:B≤w.heap.size) :
  Calls prog 135 #[v,.int .i64 (i:Int),.slice (some ⟨vb,0,none⟩) 1 1] w fun e w'=>∃v',e=.returned v'∧EOwn 54 w' B v' (L.take i++[x]++L.drop i)∧Kept (fun b=>v.ownBlock=some b) w w'∧(v'.ownBlock=v.ownBlock∨v'.ownBlock=some w.heap.size):=by
 have hf:=O.own_form h
 obtain ⟨p,c,rfl,hc,hp⟩:=hf
 by_cases hin:i<L.length
 ·obtain ⟨g,rfl⟩:=hp (by omega)
  by_cases hroom:L.length+1≤c
  ·refine (insert_shift h hw rfl hx hv (fun e=>hvg (by rw[e];rfl)) hin hroom hn).mono ?_
   rintro e w' ⟨rfl,h1,h2⟩
   exact⟨_,rfl,h1,h2.wider (fun x _ e=>by subst e;rfl),.inl rfl⟩
  ·refine (insert_grow h hw rfl hx hv hin hroom hn hB).mono ?_
   rintro e w' ⟨c',rfl,h1,h2⟩
   exact⟨_,rfl,h1,Kept.of_below _ h2,.inr rfl⟩
 ·obtain rfl:i=L.length:=by omega
  refine (insert_end h hw rfl hx hv hn hB).mono ?_
  rintro e w' ⟨v',rfl,h1,h2,h3⟩
  refine⟨v',rfl,?_,O.kept_grown h2,h3⟩
  rw[List.take_length,List.drop_length,List.append_nil]
  exact h1
section
variable {P:Program}
theorem step_append_runE {ops:Array Oper}{o:Oper}{a:Act}{w:World}{K:Act→World→Prop}{Q:Exit→Act→World→Prop}{E:Prop}
  (hg:o.guard=none) (d x:Operand) (dT sT:TypeId) (hop:o.op=Op.call { callee:=Callee.builtin Builtin.append,args:=#[d,x],argTypes:=#[dT,sT] })
  (v u:Value) (hd:a.eval d=v) (hx:a.eval x=u) {v':Value} {w':World} (hr:(Builtin.append_ #[dT,sT] o.type #[v,u]).run P w=.ok v' w') (hK:K (a.put o.dst v') w') :
  if Region.wanted o (yielded ops a.tmps)=true then Oper.wp P o a w K Q else E:=by
 have hw:Region.wanted o (yielded ops a.tmps)=true:=by simp[Region.wanted,hg]
 rw[if_pos hw]
 unfold Oper.wp
 simp[execOp,hop,resolve,invoke,builtin,hd,hx,hr,Result.andThen]
 exact hK
end
theorem zeroE_ones (k:Nat):∀u∈(Builtin.zeroCells (ecells en0).toArray k).toList,u.oneCell'=true:=by
 intro u hu
 simp only[Builtin.zeroCells,Array.toList_map,List.mem_map] at hu
 obtain ⟨j,-,rfl⟩:=hu
 have hj:j % (ecells en0).toArray.size<(ecells en0).toArray.size:=Nat.mod_lt _ (by simp[ecells])
 rw[getElem!_pos (ecells en0).toArray _ hj]
 exact ecells_ones en0 _ (by rw[List.getElem_toArray];exact List.getElem_mem _)
theorem run_clearE {W:World}{g o n c:Nat}{cur:Array Value}(ty:TypeId)(hg:W.heap[g]?=some (.cells cur 54 (0,0)))(hn:0<n)(hf:o+n*34≤cur.size) :
  (Builtin.clear_ #[47] ty #[.slice (some ⟨g,o,none⟩) n c]).run prog W=.ok (.tuple #[]) (W.setRow g (cur.toList.take o++(Builtin.zeroCells (ecells en0).toArray n).toList++cur.toList.drop (o+n*34)).toArray):=by
 have hl:(Builtin.zeroCells (ecells en0).toArray n).toList.length=n*34:=by rw[Array.length_toList];exact zeros_len n
 have hst:=run_storeCells_at prog g o 54 (Builtin.zeroCells (ecells en0).toArray n).toList 0 cur W hg (by rw[hl];omega) (zeroE_ones n)
 rw[hl,Nat.add_zero] at hst
 obtain ⟨m,rfl⟩:∃m,n=m+1:=⟨n-1,by omega⟩
 simp[Builtin.clear_,run_underlying etC.ut,zv 54 _ etC.zero,Value.cells,hst]
theorem cut_eq {α:Type}{C A D Z:List α}{a d m:Nat}(hA:C.take a=A)(hal:a≤C.length)(hd:D.length=d) :
  ((C.take a++D++C.drop m).take (a+d)++Z)=A++D++Z:=by
 have hal:(C.take a).length=a:=by rw[List.length_take];omega
 rw[List.take_append_of_le_length (by simp;omega),List.take_of_length_le (by simp;omega),hA]
theorem EC_cut (L:List En)(i:Nat):EC (L.take i++L.drop (i+1))=EC (L.take i)++EC (L.drop (i+1)):=EC_append _ _
theorem wf_cut {L:List En}(h:EnsWf L)(i:Nat):EnsWf (L.take i++L.drop (i+1)):=(wf_take h i).append (wf_drop h (i+1))
theorem cut_len {L:List En}{i n:Nat}(hl:L.length=n)(hi:i<n):(L.take i++L.drop (i+1)).length=n-1:=by simp;omega
theorem delete_at {w:World}{B g c i n:Nat}{L:List En}(h:EOwn 54 w B (.slice (some ⟨g,0,none⟩) n c) L)(hw:EnsWf L)(hl:L.length=n)(hi:i<n)(hn:n≤10000) :
  Calls prog 167 #[.slice (some ⟨g,0,none⟩) n c,.int .i64 (i:Int),.int .i64 ((i:Int)+1)] w fun e w'=>e=.returned (.slice (some ⟨g,0,none⟩) (n-1) c)∧EOwn 54 w' B (.slice (some ⟨g,0,none⟩) (n-1) c) (L.take i++L.drop (i+1))∧Kept (·=g) w w':=by
 obtain ⟨i0,hi0,hz0,hz1,hz2⟩:=info_parts etC.inf
 obtain ⟨cur,hg,hcs,htk,hB,hcm,hnc⟩:∃cur,w.heap[g]?=some (.cells cur 54 (0,0))∧cur.size=c*34∧cur.toList.take (n*34)=EC L∧B≤g∧c≤maxLen∧n≤c:=by
  rcases h.2 with ⟨e,_⟩ | ⟨g',cap,cur,e,h0,hg,h1,h2,h3,h4⟩
  ·cases e
  ·cases e;exact⟨cur,hg,h3,by rw[hl] at h4;exact h4,h0,h2,by rw[hl] at h1;exact h1⟩
 have hlen:cur.toList.length=c*34:=by rw[← hcs];exact Array.length_toList
 have HDl:(EC (L.drop (i+1))).length=(n-(i+1))*34:=by rw[EC_len (wf_drop hw (i+1)),List.length_drop,hl]
 have HAl:cur.toList.take (i*34)=EC (L.take i):=by
  have e2:EC L=EC (L.take i)++EC (L.drop i):=by rw[← EC_append,List.take_append_drop]
  have el:(EC (L.take i)).length=i*34:=by rw[EC_len (wf_take hw i),List.length_take];omega
  rw[show cur.toList.take (i*34)=(cur.toList.take (n*34)).take (i*34) by rw[List.take_take,Nat.min_eq_left (Nat.mul_le_mul_right _ (by omega))],htk,e2,← el,List.take_left]
 have hcell:∀j v,(EC L)[j]?=some v→w.cell? ⟨g,j,none⟩=some v:=fun j v hj=>by
  have:=h.cells (g:=g) rfl j v hj
  rw[Go.WideShapes.add_plain] at this
  rwa [Nat.zero_add] at this
 obtain ⟨Ad,hA,hsrc⟩:∃Ad:Addr,(if c=i+1 then some (⟨g,0,none⟩:Addr) else some ⟨g,(i+1)*34,none⟩)=some Ad∧∀j v,(EC (L.drop (i+1)))[j]?=some v→w.cell? (Ad.add j)=some v:=by
  by_cases hc:c=i+1
  ·refine⟨⟨g,0,none⟩,by simp[hc],fun j v hj=>?_⟩
   have e0:(EC (L.drop (i+1)))=[]:=List.length_eq_zero_iff.1 (by rw[HDl];omega)
   rw[e0] at hj;simp at hj
  ·refine⟨⟨g,(i+1)*34,none⟩,by simp[hc],fun j v hj=>?_⟩
   rw[Go.WideShapes.add_plain]
   have e2:EC L=EC (L.take (i+1))++EC (L.drop (i+1)):=by rw[← EC_append,List.take_append_drop]
   have el:(EC (L.take (i+1))).length=(i+1)*34:=by rw[EC_len (wf_take hw (i+1)),List.length_take];omega
   exact hcell _ v (by rw[e2,List.getElem?_append_right (by omega),el,Nat.add_sub_cancel_left];exact hj)
 obtain ⟨C1,hC1⟩:∃C1:Array Value,C1=(cur.toList.take (i*34)++EC (L.drop (i+1))++cur.toList.drop (i*34+(EC (L.drop (i+1))).length)).toArray:=⟨_,rfl⟩
 have hC1s:C1.size=c*34:=by
  rw[hC1];simp only[List.size_toArray,List.length_append,List.length_take,List.length_drop,hlen,HDl]
  have:=Nat.mul_le_mul_right 34 hnc
  omega
 have HAP:Hid ((Builtin.append_ #[47,47] 47 #[.slice (some ⟨g,0,none⟩) i c,.slice (some Ad) (n-(i+1)) (c-(i+1))]).run prog w.drew=.ok (.slice (some ⟨g,0,none⟩) (i+(n-(i+1))) c) (w.drew.setRow g C1)):=by
  have:=run_append_room (P:=prog) w.drew 47 47 54 i0 etC.ut hi0 g i c cur hg Ad (n-(i+1)) (c-(i+1)) (EC (L.drop (i+1))) (by rw[hz1];exact HDl) hsrc (EC_ones _) (by omega) (by
   rw[hz1,HDl,hcs]
   have:=Nat.mul_le_mul_right 34 hnc
   omega)
  rw[hz1] at this
  rw[hC1]
  exact this
 have hw1:(w.drew.setRow g C1).heap[g]?=some (.cells C1 54 (0,0)):=setRow_heap w.drew g cur _ 54 (0,0) hg
 have hik:i+(n-(i+1))=n-1:=by omega
 have HCL:Hid (∀ty,(Builtin.clear_ #[47] ty #[.slice (some ⟨g,(n-1)*34,none⟩) (n-(n-1)) (c-(n-1))]).run prog (w.drew.setRow g C1)=.ok (.tuple #[]) ((w.drew.setRow g C1).setRow g (C1.toList.take ((n-1)*34)++((Builtin.zeroCells (ecells en0).toArray (n-(n-1))).toList++C1.toList.drop ((n-1)*34+(n-(n-1))*34))).toArray)):=fun ty=>by
  rw[← List.append_assoc]
  exact run_clearE ty hw1 (by omega) (by rw[hC1s];omega)
 obtain ⟨C2,hC2⟩:∃C2:Array Value,C2=(C1.toList.take ((n-1)*34)++((Builtin.zeroCells (ecells en0).toArray (n-(n-1))).toList++C1.toList.drop ((n-1)*34+(n-(n-1))*34))).toArray:=⟨_,rfl⟩
 rw[← hC2] at HCL
 have HFin:Hid (∀W:World,W.heap[g]?=some (.cells C2 54 (0,0))→EOwn 54 W B (.slice (some ⟨g,0,none⟩) (n-1) c) (L.take i++L.drop (i+1))):=fun W hW=>by
  have e:=cut_len hl hi
  have e3:=EC_len (wf_cut hw i)
  rw[e] at e3
  have hC2s:C2.size=c*34:=by
   rw[hC2]
   have z:=zeros_len (n-(n-1))
   simp only[List.size_toArray,List.length_append,List.length_take,List.length_drop,Array.length_toList,z,hC1s]
   omega
  refine⟨by rw[EC_len (wf_cut hw i)],.inr ⟨g,c,_,by rw[e],hB,hW,by omega,hcm,hC2s,?_⟩⟩
  rw[e,hC2,hC1]
  show List.take ((n-1)*34) (List.take ((n-1)*34) (cur.toList.take (i*34)++EC (L.drop (i+1))++cur.toList.drop (i*34+(EC (L.drop (i+1))).length))++_)=_
  rw[show (n-1)*34=i*34+(n-(i+1))*34 by omega,cut_eq HAl (by rw[hlen];omega) HDl,EC_cut,← HAl]
  have hal:(cur.toList.take (i*34)).length=i*34:=by rw[List.length_take,hlen];omega
  rw[List.take_append_of_le_length (by rw[List.length_append,hal,HDl];omega),List.take_of_length_le (by rw[List.length_append,hal,HDl];omega)]
 have HG:Hid ((w.drew.setRow g C1).heap[g]?=some (.cells C1 54 (0,0))):=hw1
 have HK:Hid (Kept (·=g) w (w.drew.setRow g C1)):=(Kept.of_below _ (below_drawn 1)).trans (Kept.setRow _ g C1) (fun _ _ e=>e)
 clear hsrc hC1 hC1s hC2 hw1 HAl HDl hlen htk hcs h hw hcell hg hi0 hz0 hz1 hz2 hl
 have hz:¬((i:Int)=(i:Int)+1):=by omega
 have hb0:(0:Int)≤(i:Int)+1:=by omega
 have hic:i≤c:=by omega
 have hb1:(i:Int)+1≤(n:Int):=by omega
 have mixed:prog.follows Departure.mixedOrders=true:=by kernel_rfl
 go_enter func167,ntmps167
 go_wp2_with fail
 go_region_law_o (refine step_append_runE rfl (.tmp 22) (.tmp 25) 47 47 rfl (.slice (some ⟨g,0,none⟩) i c) (.slice (some Ad) (n-(i+1)) (c-(i+1))) (by simp[Act.eval,Act.put]) (by simp[Act.eval,Act.put]) HAP.out ?_)
 have HGd:Hid (∀ty,(Builtin.clear_ #[47] ty #[.slice (some ⟨g,(n-1)*34,none⟩) (n-(n-1)) (c-(n-1))]).run prog (w.drew.setRow g C1)=.ok (.tuple #[]) ((w.drew.setRow g C1).setRow g C2)):=HCL.out
 clear HCL HAP hA hik hz hb0 hb1 mixed hic
 generalize w.drew.setRow g C1=w1 at *
 have hcl:=HGd.out
 have s1:n-1≤n:=by omega
 have s2:n≤c:=hnc
 have s3:¬(c=n-1):=by omega
 clear HGd
 go_wp2
 go_ret
 have K2:=HK.out.trans (Kept.setRow w1 g C2) (fun _ _ e=>e)
 exact⟨rfl,HFin.out _ (setRow_heap w1 g C1 _ 54 (0,0) HG.out),K2⟩
end Go.Proofs.YtcdjepkhdjpjcaaGreatDoor.C
namespace Go.Proofs.YtcdjepkhdjpjcaaGreatDoor.C
open Go.Proofs.Tryz
open Go.RowKit
theorem results_ent {fn:Func}{p u:Tmp}{ty:TypeId}(h:fn.results=#[.cell p ty,.tmp u])(tmps:Array Value)(w:World)(g:Nat)(t:TypeId)(cs:List Value)(d:TypeDesc)
  (hp:tmps.getD p undef=.pointer (some ⟨g,0,none⟩)) (hg:LAt t w g cs) (hu:prog.underlying ty=some d) (hd:d.isRow=true) (hi:(prog.info? ty).map (·.size)=some cs.length) :
  (results fn tmps).run prog w=.ok (.tuple #[.agg cs.toArray,tmps.getD u undef]) w:=results_lat h tmps w g t cs d hp hg hu hd hi
structure CAt (w:World) (Q:Nat) (n:Int) (ve:Value) (L:List En) (nx:Int):Prop where
 st:w.heap[Q]?=some (.cells #[.int .i64 n,ve,.int .u64 nx] 105 (0,0))
 row:EOwn 54 w 0 ve L
section
variable {w w':World} {Q:Nat} {n nx:Int} {ve:Value} {L:List En}
theorem CAt.lt (h:CAt w Q n ve L nx):Q<w.heap.size:=(Array.getElem?_eq_some_iff.1 h.st).1
theorem CAt.c0 (h:CAt w Q n ve L nx):w.cell? ⟨Q,0,none⟩=some (.int .i64 n):=by rw[cell_of_row _ Q 0 _ 105 (0,0) h.st];rfl
theorem CAt.c1 (h:CAt w Q n ve L nx):w.cell? ⟨Q,1,none⟩=some ve:=by rw[cell_of_row _ Q 1 _ 105 (0,0) h.st];rfl
theorem CAt.c2 (h:CAt w Q n ve L nx):w.cell? ⟨Q,2,none⟩=some (.int .u64 nx):=by rw[cell_of_row _ Q 2 _ 105 (0,0) h.st];rfl
theorem CAt.free (h:CAt w Q n ve L nx)(o:Nat):w.frozen? ⟨Q,o,none⟩=false:=by simp[World.frozen?,h.st]
theorem CAt.later (h:CAt w Q n ve L nx)(hb:Below w.heap.size w w'):CAt w' Q n ve L nx:=⟨(hb.block Q h.lt).trans h.st,O.own_later h.row hb⟩
theorem CAt.far {S:Nat→Prop}(h:CAt w Q n ve L nx)(hk:Kept S w w')(hQ:¬S Q)(hi:∀g,ve.ownBlock=some g→¬S g):CAt w' Q n ve L nx:=⟨(hk.block Q h.lt hQ).trans h.st,O.own_far h.row hk hi⟩
theorem CAt.ne (h:CAt w Q n ve L nx):ve.ownBlock≠some Q:=O.own_not h.row h.st (by decide)
theorem CAt.ein (h:CAt w Q n ve L nx)(hw:EnsWf L):∃p c,ve=.slice p L.length c∧EIn w p L.length L∧L.length≤c:=by
 obtain ⟨p,c,e,hm,hc,_⟩:=EOwn.in h.row hw
 exact⟨p,c,e,hm,hc⟩
theorem new_at {n:Int}(h1:1≤n)(h2:n≤64)(w:World):Calls prog 59 #[.int .i64 n] w fun e w'=>e=.returned (.tuple #[.pointer (some ⟨w.heap.size,0,none⟩),.int .i64 0])∧CAt w' w.heap.size n (.slice none 0 0) [] 0∧Below w.heap.size w w':=by
 go_enter func59,ntmps59
 go_wp2
 go_ret2
 exact⟨rfl,⟨heap_alloc_new w _,World.ownsRow_nil _ _ _ _⟩,below_alloc w _⟩
theorem find_at (h:CAt w Q n ve L nx)(hk:Okc n L nx)(b:Int):Calls prog 49 #[.pointer (some ⟨Q,0,none⟩),.int .i64 b] w fun e w'=>e=.returned (.tuple #[.int .i64 (ple L b:Int),.bool (isE L b)])∧Below w.heap.size w w':=by
 have c1:=h.c1
 obtain ⟨p,c,rfl,hM,hc⟩:=h.ein hk.wf
 have HM:Hid (EIn w p L.length L):=hM
 have HU:Hid (UpE L):=hk.up
 have hf:=hk.few
 clear h hk hM
 go_enter func49,ntmps49
 go_wp2_with (go_at_call 107;refine (search_at HM.out HU.out (by omega) b).mono ?_;rintro e w' ⟨rfl,hb⟩;have HB:Hid (Below w.heap.size w w'):=hb;clear hb)
 go_ret2
 exact⟨rfl,HB.out⟩
theorem len_at (h:CAt w Q n ve L nx):Calls prog 20 #[.pointer (some ⟨Q,0,none⟩)] w fun e w'=>e=.returned (.int .i64 (L.length:Int))∧w'=w:=by
 have c1:=h.c1
 obtain ⟨p,c,rfl,_⟩:=O.own_form h.row
 clear h
 go_enter func20,ntmps20
 go_wp2
 go_ret
 exact⟨rfl,rfl⟩
theorem len_nil (w:World):Calls prog 20 #[.pointer none] w fun e w'=>e=.returned (.int .i64 0)∧w'=w:=by
 go_enter func20,ntmps20
 go_wp2
 go_ret
 exact⟨rfl,rfl⟩
def lasV (nx:Int):Int:=if nx=0 then 0 else nx-1
def lasB (nx:Int):Bool:=decide (nx≠0)
theorem last_at (h:CAt w Q n ve L nx)(h0:0≤nx)(h1:nx≤4611686018427387905):Calls prog 21 #[.pointer (some ⟨Q,0,none⟩)] w fun e w'=>e=.returned (.tuple #[.int .u64 (lasV nx),.bool (lasB nx)])∧w'=w:=by
 have c2:=h.c2
 clear h
 go_enter func21,ntmps21
 by_cases hz:nx=0
 ·have HZ:Hid (lasV nx=0∧lasB nx=false):=⟨if_pos hz,by simp[lasB,hz]⟩
  subst hz
  go_wp2
  go_ret2
  exact⟨by rw[HZ.out.1,HZ.out.2];rfl,rfl⟩
 ·have HZ:Hid (lasV nx=nx-1∧lasB nx=true):=⟨if_neg hz,by simp[lasB,hz]⟩
  have hz2:(nx == 0)=false:=by rw[beq_eq_false_iff_ne];exact hz
  have hw:IntKind.u64.wrap (nx-1)=nx-1:=by rw[IntKind.wrap_u64];omega
  clear hz
  go_wp2
  go_ret2
  exact⟨by rw[HZ.out.1,HZ.out.2];rfl,rfl⟩
def getV (L:List En)(b:Int):En:=(gtE L b).getD en0
def getB (L:List En)(b:Int):Bool:=(gtE L b).isSome
theorem lay0E (w:World)(g:Nat)(i:En)(hi:i.v.length=32)(h:LAt 54 w g (ecells en0)):(Instr.storeAt 54 (.pointer (some ⟨g,0,none⟩)) (.agg (ecells i).toArray)).run prog w=.ok () (w.setRow g (ecells i).toArray) :=
 LAt.store (ds:=ecells i) h (by rw[etC.size,ecells_len hi]) (by rw[ecells_len hi,ecells_len (zs_len 32)]) (ecells_all i)
theorem get_at (h:CAt w Q n ve L nx)(hk:Okc n L nx)(b:Int):Calls prog 17 #[.pointer (some ⟨Q,0,none⟩),.int .i64 b] w fun e w'=>e=.returned (.tuple #[.agg (ecells (getV L b)).toArray,.bool (getB L b)])∧Below w.heap.size w w':=by
 obtain ⟨w1,hw1⟩:∃w1,w1=w.alloc (.cells (ecells en0).toArray 54):=⟨_,rfl⟩
 have HAL:Hid ((Instr.alloc 54 true (.tuple #[])).run prog w=.ok (.pointer (some ⟨w.heap.size,0,none⟩)) w1):=by rw[hw1];exact allocE etC w
 have B1:Below w.heap.size w w1:=by rw[hw1];exact below_alloc w _
 have HV1:Hid (LAt 54 w1 w.heap.size (ecells en0)):=by rw[hw1];exact LAt.new _ _ _
 have HA1:Hid (CAt w1 Q n ve L nx):=h.later B1
 have HB1:Hid (Below w.heap.size w w1):=B1
 have HK:Hid (Okc n L nx):=hk
 clear hw1 B1 h hk
 cases hat:isE L b with
 | false =>
  have HRV:Hid (getV L b=en0∧getB L b=false):=by
   have e:=gt_no HK.out.up hat
   exact⟨by unfold getV;rw[e];rfl,by unfold getB;rw[e];rfl⟩
  have HAT:Hid (isE L b=false):=hat
  clear hat
  go_enter func17,ntmps17
  go_wp2_with ((with_reducible refine at_ops ?_);(refine wpList_alloc_is (by rfl) 54 rfl HAL.out ?_);simp only[Act.put,zA,zB,zC])
  refine (find_at HA1.out HK.out b).mono ?_
  rintro e w2 ⟨rfl,bn⟩
  rw[HAT.out]
  have HV2:Hid (LAt 54 w2 w.heap.size (ecells en0)):=LAt.later HV1.out bn
  have HB2:Hid (Below w.heap.size w w2):=below_then HB1.out bn
  have HBV:Hid ((Instr.build 54 #[]).run prog w2=.ok (.agg (ecells en0).toArray) w2):=buildE0 etC w2
  have HST:Hid ((Instr.storeAt 54 (.pointer (some ⟨w.heap.size,0,none⟩)) (.agg (ecells en0).toArray)).run prog w2=.ok () (w2.setRow w.heap.size (ecells en0).toArray)):=lay0E w2 _ en0 (zs_len 32) HV2.out
  have HV3:Hid (LAt 54 (w2.setRow w.heap.size (ecells en0).toArray) w.heap.size (ecells en0)):=LAt.stored HV2.out _
  have HB3:Hid (Below w.heap.size w (w2.setRow w.heap.size (ecells en0).toArray)):=below_setRow HB2.out (Nat.le_refl _) _
  clear bn HV2 HB2 HV1 HA1 HB1
  generalize w2.setRow w.heap.size (ecells en0).toArray=w3 at *
  go_wp2_with ((with_reducible refine at_ops ?_);(first | ((refine wpList_build_is (vs:=[]) (by rfl) 54 rfl (by rfl) HBV.out ?_);simp only[Act.put,zA,zB,zC]) | (refine stI 54 HST.out ?_)))
  (try simp only[Exit.inBlock,Exit.then])
  exact bodyPost_ret (results_ent results17 _ _ w.heap.size 54 _ _ (by rfl) HV3.out etC.un (isRowS _) (by rw[etC.size,ecells_len (zs_len 32)])) rfl ⟨by rw[HRV.out.1,HRV.out.2];rfl,HB3.out⟩
 | true =>
  obtain ⟨x,hx,hxb⟩:=isE_some hat
  have HRV:Hid (getV L b=x∧getB L b=true∧x.v.length=32):=by
   have e:=gt_at HK.out.up hat hx
   exact⟨by unfold getV;rw[e];rfl,by unfold getB;rw[e];rfl,(HK.out.wf x (List.mem_of_getElem? hx)).len⟩
  have HAT:Hid (isE L b=true):=hat
  have HX:Hid (L[ple L b]?=some x):=hx
  have hpl:ple L b<L.length:=(List.getElem?_eq_some_iff.1 hx).1
  have hfew:=HK.out.few
  clear hat hx hxb
  go_enter func17,ntmps17
  go_wp2_with ((with_reducible refine at_ops ?_);(refine wpList_alloc_is (by rfl) 54 rfl HAL.out ?_);simp only[Act.put,zA,zB,zC])
  refine (find_at HA1.out HK.out b).mono ?_
  rintro e w2 ⟨rfl,bn⟩
  rw[HAT.out]
  have A2:CAt w2 Q n ve L nx:=HA1.out.later bn
  have HV2:Hid (LAt 54 w2 w.heap.size (ecells en0)):=LAt.later HV1.out bn
  have HB2:Hid (Below w.heap.size w w2):=below_then HB1.out bn
  obtain ⟨p,c,rfl,hM,hc⟩:=A2.ein HK.out.wf
  obtain ⟨b1,o1,rfl,-⟩:=hM.cells (by omega)
  have c1:=A2.c1
  have HLD:Hid ((Instr.loadAt 54 (.pointer (some ⟨b1,o1+ple L b*34,none⟩))).run prog w2=.ok (.agg (ecells x).toArray) w2):=EIn.load etC hM HX.out
  have HST:Hid ((Instr.storeAt 54 (.pointer (some ⟨w.heap.size,0,none⟩)) (.agg (ecells x).toArray)).run prog w2=.ok () (w2.setRow w.heap.size (ecells x).toArray)):=lay0E w2 _ x HRV.out.2.2 HV2.out
  have HV3:Hid (LAt 54 (w2.setRow w.heap.size (ecells x).toArray) w.heap.size (ecells x)):=LAt.stored HV2.out _
  have HB3:Hid (Below w.heap.size w (w2.setRow w.heap.size (ecells x).toArray)):=below_setRow HB2.out (Nat.le_refl _) _
  clear bn HV2 HB2 HV1 HA1 HB1 A2 hM HX
  generalize w2.setRow w.heap.size (ecells x).toArray=w3 at *
  generalize ple L b=k at *
  go_wp2_with ((with_reducible refine at_ops ?_);(first | (refine ldI 54 HLD.out ?_) | (refine stI 54 HST.out ?_)))
  (try simp only[Exit.inBlock,Exit.then])
  exact bodyPost_ret (results_ent results17 _ _ w.heap.size 54 _ _ (by rfl) HV3.out etC.un (isRowS _) (by rw[etC.size,ecells_len HRV.out.2.2])) rfl ⟨by rw[HRV.out.1,HRV.out.2.1];rfl,HB3.out⟩
end
end Go.Proofs.YtcdjepkhdjpjcaaGreatDoor.C
namespace Go.Proofs.YtcdjepkhdjpjcaaGreatDoor.C
open Go.RowKit
section
variable {P:Program} {ops:Array Oper} {Q:Exit→Act→World→Prop} {md:Region.Mode} {S:World→Prop} {L:Nat}
def wpAnyL (P:Program)(md:Region.Mode)(ops:Array Oper)(Q:Exit→Act→World→Prop)(S:World→Prop)(L:Nat):Nat→Array Bool→Act→World→Prop
 | 0,listed,a,w=>Region.ready md ops listed=[]∧Q .normal a w
 | fuel+1,listed,a,w =>
  (Region.ready md ops listed=[]→Q .normal a w) ∧
  ∀i∈Region.ready md ops listed,wpOp P ops Q i (fun a' w'=>(i≠L→S w')∧wpAnyL P md ops Q S L fuel (listed.setIfInBounds i true) a' w') a w
theorem wpAny_of_L:∀(fuel:Nat) (listed:Array Bool)(a:Act)(w:World),wpAnyL P md ops Q S L fuel listed a w→wpAny P md ops Q fuel listed a w
 | 0,_,_,_,h=>h
 | fuel+1,_,_,_,h=>⟨h.1,fun i hi=>wpOp_mono (fun a' w' h'=>wpAny_of_L fuel _ a' w' h'.2) (h.2 i hi)⟩
theorem wpAnyL_first {i:Nat}{oi:Oper}{v:Value}(hi:ops[i]?=some oi)(hsel:∀(j:Nat) (o:Oper) cs b,ops[j]?=some o→o.op≠.select cs b)
  (hQ:∀c a w,Q (.panic c) (a.put oi.dst v) w→Q (.panic c) a w) (hdep:∀o,ops[L]?=some o→∃e∈o.after,Region.binds md e=true∧e.on=i) :
  ∀(fuel:Nat) (listed:Array Bool) (a:Act) (w:World),
   (∀j oj,ops[j]?=some oj→j≠i→listed.getD j true=false→(∀e∈oj.after,Region.binds md e=true→e.on≠i)→oi.apart ops oj=true) →
   i∈Region.ready md ops listed→YieldsIf P ops S oi v a→S w →
   wpAnyL P md ops Q S L fuel (listed.setIfInBounds i true) (a.put oi.dst v) w→wpAnyL P md ops Q S L (fuel+1) listed a w:=by
 intro fuel
 induction fuel with
 | zero =>
  intro listed a w _ hr hy hS H
  refine⟨fun h=>(by rw[h] at hr;cases hr),fun j hj=>?_⟩
  by_cases hji:j=i
  ·subst hji;exact hy.wpOp hi hS ⟨fun _=>hS,H⟩
  ·have:=ready_mono hj hji
   rw[H.1] at this
   cases this
 | succ fuel ih =>
  intro listed a w hfree hr hy hS H
  refine⟨fun h=>(by rw[h] at hr;cases hr),fun j hj=>?_⟩
  by_cases hji:j=i
  ·subst hji;exact hy.wpOp hi hS ⟨fun _=>hS,H⟩
  ·have h1:=H.2 j (ready_mono hj hji)
   obtain ⟨hjun,oj,hoj,hall⟩:=mem_ready.1 hj
   have hnot:∀e∈oj.after,Region.binds md e=true→e.on≠i:=fun e he hb heq=>by
    have h1:=hall e he hb
    have h0:=(mem_ready.1 hr).1
    rw[heq] at h1
    rcases Nat.lt_or_ge i listed.size with h' | h'
    ·simp[h'] at h0 h1;rw[h0] at h1;cases h1
    ·simp[Array.getElem?_eq_none h'] at h1
   have hjL:j≠L:=fun e=>by
    subst e
    obtain ⟨e,he,hb,ho⟩:=hdep oj hoj
    exact hnot e he hb ho
   have h2:=wpOp_putIf hoj (hfree j oj hoj hji hjun hnot) (fun cs b=>hsel i oi cs b hi) (fun cs b=>hsel j oj cs b hoj) hQ hy h1
   have hfree':∀k ok,ops[k]?=some ok→k≠i→(listed.setIfInBounds j true).getD k true=false →
     (∀e∈ok.after,Region.binds md e=true→e.on≠i)→oi.apart ops ok=true:=fun k ok hk hki hun hno=>by
    refine hfree k ok hk hki ?_ hno
    by_cases hjk:j=k
    ·subst hjk;exact hjun
    ·rw[getD_set_ne true hjk] at hun;exact hun
   refine wpOp_mono (fun a' w' h3=>⟨fun _=>h3.2.1 hjL,ih (listed.setIfInBounds j true) a' w' hfree' (ready_mono hr (Ne.symm hji)) h3.1 (h3.2.1 hjL) ?_⟩) h2
   rw[Array.setIfInBounds_comm _ _ hji]
   exact h3.2.2
theorem wpAnyL_take {i:Nat}{oi:Oper}{v:Value}{fuel:Nat}{listed:Array Bool}{a:Act}{w:World}(hi:ops[i]?=some oi)
  (hs:Region.noSelect ops=true) (hf:Region.free md ops listed i=true) (hr:(Region.ready md ops listed).contains i=true)
  (hd:(match ops[L]? with | some o=>o.after.any (fun e=>Region.binds md e && e.on == i) | none=>true)=true)
  (hQ:∀c a w,Q (.panic c) (a.put oi.dst v) w→Q (.panic c) a w) (hy:YieldsIf P ops S oi v a) (hS:S w)
  (h:wpAnyL P md ops Q S L fuel (listed.setIfInBounds i true) (a.put oi.dst v) w):wpAnyL P md ops Q S L (fuel+1) listed a w :=
 wpAnyL_first hi (Region.noSelect_spec hs) hQ (fun o ho=>by
  rw[ho] at hd
  obtain ⟨e,he,hb⟩:=Array.any_eq_true'.1 hd
  simp only[Bool.and_eq_true,beq_iff_eq] at hb
  exact⟨e,he,hb.1,hb.2⟩) fuel listed a w (Region.free_spec hi hf) (by simpa using hr) hy hS h
theorem tkL (i:Nat){oi:Oper}{v:Value}{fuel:Nat}{listed:Array Bool}{a a':Act}{w:World}(hS:S w)(h:wpAnyL P md ops Q S L fuel (listed.setIfInBounds i true) a' w)(hi:ops[i]?=some oi:=by simp;rfl)(hs:Region.noSelect ops=true:=by kernel_rfl)(hf:Region.free md ops listed i=true:=by kernel_rfl)(hr:(Region.ready md ops listed).contains i=true:=by kernel_rfl)(hd:(match ops[L]? with | some o=>o.after.any (fun e=>Region.binds md e && e.on == i) | none=>true)=true:=by kernel_rfl)(hg:Region.wanted oi (yielded ops a.tmps)=true:=by rfl)(hy:∀w,(execOp a.eval oi).run P w=.ok (.value v) w:=by intro w;go_simp;with_reducible rfl)(ha:a.put oi.dst v=a':=by simp only[Act.put,zA,zB,zC];with_reducible rfl)(hQ:∀c a w,Q (.panic c) (a.put oi.dst v) w→Q (.panic c) a w:=by exact fun _ _ _ h=>h):wpAnyL P md ops Q S L (fuel+1) listed a w :=
 wpAnyL_take hi hs hf hr hd hQ (.inl ⟨hg,fun w _=>hy w⟩) hS (ha ▸ h)
def AllReadyL (P:Program)(md:Region.Mode)(ops:Array Oper)(Q:Exit→Act→World→Prop)(S:World→Prop)(L fuel:Nat)(listed:Array Bool)(a:Act)(w:World)(rs:List Nat):Prop :=
 ∀i∈rs,wpOp P ops Q i (fun a' w'=>(i≠L→S w')∧wpAnyL P md ops Q S L fuel (listed.setIfInBounds i true) a' w') a w
theorem AllReadyL.nil {fuel:Nat}{listed:Array Bool}{a:Act}{w:World}:AllReadyL P md ops Q S L fuel listed a w []:=fun _ h=>by cases h
theorem AllReadyL.cons {fuel:Nat}{listed:Array Bool}{a:Act}{w:World}{i:Nat}{o:Oper}{rs:List Nat}(ho:ops[i]?=some o)
  (h:∀K':Act→World→Prop,Shut (∀a w,(i≠L→S w)→wpAnyL P md ops Q S L fuel (listed.setIfInBounds i true) a w→K' a w)→if Region.wanted o (yielded ops a.tmps)=true then Oper.wp P o a w K' Q else K' (a.put o.dst undef) w)
  (hs:AllReadyL P md ops Q S L fuel listed a w rs):AllReadyL P md ops Q S L fuel listed a w (i :: rs):=fun j hj=>by
 rcases List.mem_cons.1 hj with rfl | hj
 ·exact wpOp_step ho (fun K' hK=>h K' (fun a w hS hW=>hK a w ⟨hS,hW⟩))
 ·exact hs j hj
theorem wpAnyL_ready {rs:List Nat}{fuel:Nat}{listed:Array Bool}{a:Act}{w:World}(hr:Region.ready md ops listed=rs)(hne:rs≠[])
  (h:AllReadyL P md ops Q S L fuel listed a w rs):wpAnyL P md ops Q S L (fuel+1) listed a w :=
 ⟨fun h0=>absurd (hr ▸ h0) hne,hr ▸ h⟩
theorem wpAnyL_done {listed:Array Bool}{a:Act}{w:World}(hr:Region.ready md ops listed=[])(h:Q .normal a w) :
  ∀fuel,wpAnyL P md ops Q S L fuel listed a w
 | 0=>⟨hr,h⟩
 | _+1=>⟨fun _=>h,by rw[hr];simp⟩
theorem wp_region_last {id:Nat}{a:Act}{w:World}(L:Nat)(S:World→Prop)(hm:P.follows .mixedOrders=true)
  (h:wpAnyL P .any ops Q S L ops.size (Array.replicate ops.size false) a w.drew):(Code.region id ops true).wp P Q a w :=
 wp_region_any hm (wpAny_of_L _ _ _ _ h)
end
end Go.Proofs.YtcdjepkhdjpjcaaGreatDoor.C
