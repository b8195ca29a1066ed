import Derived.Test.YtcdjepkhdjpjcaaGreatDoorY14
import Derived.Sort.OwnSortedInts
import Derived.Lib.OwnBridge
set_option maxHeartbeats 20000000
set_option maxRecDepth 100000
namespace Go.Proofs.YtcdjepkhdjpjcaaGreatDoor.E.B
open Go.Proofs.Tryz
open Go.RowKit Go.Shelf
attribute [local go_sem] Oper.semAt_some
def upto (zs:List Int)(k:Nat):List Int:=(List.range k).map fun j=>zs.getD j 0
theorem upto_succ (zs:List Int)(k:Nat):upto zs (k+1)=upto zs k++[zs.getD k 0]:=by simp[upto,List.range_succ]
theorem upto_length (zs:List Int)(k:Nat):(upto zs k).length=k:=by simp[upto]
theorem upto_all (zs:List Int):upto zs zs.length=zs:=by
 apply List.ext_getElem
 ·simp[upto]
 ·intro i h1 h2
  simp[upto,List.getD,h2]
theorem values1_in (F:Fence)(n:Nat)(h7:F.fn 220)(hro:F.round=none)(hn:1≤n)(l Bs n₀ b off len cap:Nat)(zs:List Int)(hreach:len≤17592186044416)(hb:b<n₀)(J Jx:List Int→World→Prop)
  (hY:∀pre x W,J pre W→pre.length<len→YieldAt F (n-1) prog l #[.int .i64 x] W fun e W' =>
   (e=.returned (.bool true)∧J (pre++[x]) W'∧Below n₀ W W')∨(e=.returned (.bool false)∧Jx (pre++[x]) W'))
  (W:World) (hBs:W.cell? ⟨Bs,0,none⟩=some (.slice (some ⟨b,off,none⟩) len cap)) (hc:∀j,j<len→W.cell? ⟨b,off+j,none⟩=some (.int .i64 (zs.getD j 0))) (h0:J [] W) :
  CallsIn F n prog 220 #[.func (.yield l) #[] #[],.pointer (some ⟨Bs,0,none⟩)] W fun e W'=>(∃v,e=.returned v) ∧
   ((∃ys,ys=upto zs len∧J ys W')∨(∃pre,True∧Jx pre W')):=by
 refine callsIn_of_wp func220 rfl h7 ?_ hro
 simp only[ntmps220,List.size_toArray,List.length_cons,List.length_nil,Nat.reduceAdd,Nat.reduceSub,Array.replicate_succ,Array.replicate_zero,List.push_toArray,List.append_toArray,List.nil_append,List.cons_append]
 gi_wp2
 gi_loopw [7] (fun i wr=>∃k:Nat,k≤len∧i=.int .i64 k∧J (upto zs k) wr∧Below n₀ W wr)
  (fun i _=>len-(intOf i).toNat)
 case atStart=>exact⟨0,Nat.zero_le _,rfl,h0,Below.refl _ _⟩
 case round =>
  obtain ⟨k,hk,rfl,hJs,hnx⟩:=hrel
  have hcx:k<len→wr.cell? ⟨b,off+k,none⟩=some (.int .i64 (zs.getD k 0)):=fun h=>(hnx.cell (p:=⟨b,off+k,none⟩) hb).trans (hc k h)
  by_cases hlt:k<len
  ·obtain ⟨fn,tmps,assign,body,hy,hR⟩:=hY _ (zs.getD k 0) wr hJs (by rw[upto_length];exact hlt)
   have hcx':=hcx hlt
   have HS:Hid (upto zs (k+1)=upto zs k++[zs.getD k 0]):=upto_succ zs k
   clear hcx hc
   generalize zs.getD k 0=x at *
   gi_wp2
   refine hR.mono ?_
   rintro e W3 (⟨rfl,hJ3,hk3⟩ | ⟨rfl,hJx3⟩)
   ·gi_wp2
    go_roundw
    case rel=>exact⟨k+1,by omega,by simp,by rw[HS.out];exact hJ3,hnx.trans hk3⟩
    case measure=>simp[intOf];omega
   ·gi_wp2
    refine bodyPost_ret (results_none rfl _ _ _) rfl ?_
    exact⟨⟨_,rfl⟩,.inr ⟨_,trivial,hJx3⟩⟩
  ·obtain rfl:k=len:=by omega
   gi_wp2
   go_end0
   exact⟨⟨_,rfl⟩,.inl ⟨_,rfl,hJs⟩⟩
theorem values1_zero_in (F:Fence)(n:Nat)(h7:F.fn 220)(hro:F.round=none)(l Bs:Nat)(p:Option Addr)(cap:Nat)(J:List Int→World→Prop)(W:World)(hBs:W.cell? ⟨Bs,0,none⟩=some (.slice p 0 cap))(h0:J [] W) :
  CallsIn F n prog 220 #[.func (.yield l) #[] #[],.pointer (some ⟨Bs,0,none⟩)] W fun e W'=>(∃v,e=.returned v)∧J [] W':=by
 refine callsIn_of_wp func220 rfl h7 ?_ hro
 simp only[ntmps220,List.size_toArray,List.length_cons,List.length_nil,Nat.reduceAdd,Nat.reduceSub,Array.replicate_succ,Array.replicate_zero,List.push_toArray,List.append_toArray,List.nil_append,List.cons_append]
 gi_wp2
 gi_loopw [7] (fun i wr=>i=.int .i64 0∧J [] wr) (fun _ _=>0)
 case atStart=>exact⟨rfl,h0⟩
 case round =>
  obtain ⟨rfl,hJs⟩:=hrel
  gi_wp2
  go_end0
  exact⟨⟨_,rfl⟩,hJs⟩
abbrev seqV (Bs:Nat):Value:=.func (.func 220) #[] #[.pointer (some ⟨Bs,0,none⟩)]
theorem values_is (p:Option Addr)(n c:Nat)(w:World) :
  Calls prog 197 #[.slice p n c] w fun e w'=>e=.returned (seqV w.heap.size)∧w'=w.alloc (.cells #[.slice p n c] 59):=by
 go_enter func197,ntmps197
 go_wp2
 go_ret
 exact⟨rfl,rfl⟩
theorem values_stops (F:Fence)(n:Nat)(h7:F.fn 220)(hro:F.round=none)(hn:1≤n)(Bs n₀:Nat)(p:Option Addr)(m c:Nat)(zs:List Int)(hreach:m≤17592186044416)(w:World)(hBs:Bs<w.heap.size)(hn₀:n₀≤w.heap.size)
  (hc:w.cell? ⟨Bs,0,none⟩=some (.slice p m c)) (hI:IIn w p m zs) (hlo:∀a,p=some a→0<m→a.block<n₀) :
  SeqStopsK F n prog 220 #[.pointer (some ⟨Bs,0,none⟩)] (fun x:Int=>#[Value.int .i64 x]) (Below n₀) (fun ys=>ys=zs) (fun _=>True) m w:=fun l J Jx W hW _ _ hY h0=>by
 have hc':=(hW.cell (p:=⟨Bs,0,none⟩) hBs).trans hc
 have hl:=hI.len
 by_cases hp:0<m
 ·obtain ⟨b,off,rfl,hcs⟩:=hI.cells hp
  have hb:=hlo _ rfl hp
  refine (values1_in F n h7 hro hn l Bs n₀ b off m c zs hreach hb J Jx hY W hc' (fun j hj=>(hW.cell (p:=⟨b,off+j,none⟩) (Nat.lt_of_lt_of_le hb hn₀)).trans (hcs j hj)) h0).mono ?_
  rintro e W' ⟨he,⟨ys,rfl,hj⟩ | ⟨pre,_,hj⟩⟩
  ·exact⟨he,.inl ⟨_,by rw[← hl];exact upto_all zs,hj⟩⟩
  ·exact⟨he,.inr ⟨_,trivial,hj⟩⟩
 ·obtain rfl:m=0:=by omega
  obtain rfl:zs=[]:=List.eq_nil_of_length_eq_zero hl
  exact (values1_zero_in F n h7 hro l Bs p c J W hc' h0).mono fun e W' ⟨he,hj⟩=>⟨he,.inl ⟨_,rfl,hj⟩⟩
theorem appendSeq_is (Bs:Nat)(p:Option Addr)(m c:Nat)(zs:List Int)(w:World)(hreach:m+80≤17592186044416)(hBs:Bs<w.heap.size)(hc:w.cell? ⟨Bs,0,none⟩=some (.slice p m c))(hI:IIn w p m zs) :
  Calls prog 232 #[.slice none 0 0,seqV Bs] w fun e' w'=>∃v,e'=.returned v∧w'.ownsRow w.heap.size 3 1 v zs.length (I64 zs)∧Below w.heap.size w w':=by
 obtain ⟨i0,hi,hz0,hz1,hz2⟩:=info_parts info3
 have hlo:∀a,p=some a→0<m→a.block<w.heap.size:=fun a e h0=>by subst e;exact hI.lt h0
 refine (callsIn_wide (n:=9)).1 ?_
 refine callsIn_of_wp_marks func232 rfl trivial ?_ rfl
 simp only[ntmps232,List.size_toArray,List.length_cons,List.length_nil,Nat.reduceAdd,Nat.reduceSub,Array.replicate_succ,Array.replicate_zero,List.push_toArray,List.append_toArray,List.nil_append,List.cons_append]
 gi_wp2
 have bL:=Boxed.new w 59 (.slice none 0 0)
 have hB0:Below w.heap.size w (w.alloc (.cells #[.slice none 0 0] 59)):=below_alloc w _
 have hsz:(w.alloc (.cells #[.slice none 0 0] 59)).heap.size=w.heap.size+1:=by simp
 have hc0:=(hB0.cell (p:=⟨Bs,0,none⟩) hBs).trans hc
 have hI0:=hI.later hB0
 obtain ⟨W0,hW0⟩:∃W0,(w.alloc (.cells #[.slice none 0 0] 59))=W0:=⟨_,rfl⟩
 rw[hW0] at bL hB0 hsz hc0 hI0 ⊢
 clear hW0
 refine wpIn_rangeFunc_ownG (F:=Fence.wide) (n:=9) (P:=prog) rfl (by decide) (gf:=220) (lb:=#[.pointer (some ⟨Bs,0,none⟩)]) rfl trivial (enters_of func220 (by kernel_rfl) rfl)
  (values_stops Fence.wide (9-1) trivial rfl (by decide) Bs w.heap.size p m c zs (by omega) W0 (by omega) (by omega) hc0 hI0 hlo) belowK_t (belowK_b (by omega)) (Below.refl _ _) (fun _=>rfl)
  (fun pre W=>(∃v,Boxed W w.heap.size 59 v∧W.ownsRow w.heap.size 3 1 v pre.length (I64 pre)∧True)∧Below w.heap.size w W)
  (fun _ _ _=>False)
  (OwnFrom.and (Own.from (holdsRow_own w.heap.size w.heap.size 59 3 1 (fun pre=>pre.length) (fun pre=>I64 pre) (fun _ _=>True)) _) (ownFrom_below (Nat.le_refl _) (by omega)))
  (fun _ _ _ _ _ hs _ _=>hs)
  ⟨⟨_,bL,World.ownsRow_nil _ _ _ _,trivial⟩,hB0⟩
  (fun x=>{ tmps:=#[.slice none 0 0,seqV Bs,.pointer (some ⟨w.heap.size,0,none⟩),undef,.slice none 0 0,.int .i64 x,seqV Bs,.int .i64 x,undef,undef,undef,undef,undef],defers:=[] }) ?assign ?body ?done ?stop
 case assign =>
  intro l x W K hK
  gi_wp2
  exact hK
 case body =>
  rintro l pre x W ⟨⟨v,hv,hrow,_⟩,hB⟩ hlt
  have hc:=hv.cell
  have hle:=hB.size
  have hml:140737488355328≤maxLen:=by decide
  gi_wp2_with (gi_at_builtin;refine wpListIn_append_own _ rfl _ _ 59 rfl w.heap.size 3 i0 (.int .i64 0) 1 8 underlying59 hi hz0 hz1 hz2 rfl (by decide) _ _ _ rfl (hrow.alloc _) ⟨W.heap.size,0,none⟩ 1 1 [.int .i64 x] rfl rfl (cell_one_new _ _ _) (by simp[Value.oneCell']) (by omega) (by omega) (by simp;omega) ?_;intro v' w1 hown' hgrow _;obtain ⟨g',cap',rfl⟩:=ownsRow_succ hown';obtain ⟨hv1,hv2,hr2,hk2,hb2⟩:=hv.appended (by decide) hrow hle (Nat.le_refl _) hown' hgrow;have hc1:=hv1.cell;have hf1:=hv1.frozen;have hc2:=hv2.cell)
  rw[show I64 pre++[Value.int .i64 x]=I64 (pre++[x]) by simp[I64],show pre.length+1=(pre++[x]).length by simp] at hr2
  exact⟨hk2.from _,hb2,⟨_,hv2,by simpa using hr2,trivial⟩,hB.trans hb2⟩
 case done =>
  rintro D ys W hD hS ⟨⟨v,hv,hrow,_⟩,hB⟩ hK
  have hc:=hv.cell
  have HS:Hid (ys=zs):=hS
  clear hS
  gi_wp2
  refine⟨by simp,.inl ⟨_,_,rfl,run_takeDeferred hK,?_⟩⟩
  exact⟨_,results_tmp rfl _ _ _,v,rfl,by have:=ownsRow_putObj hrow (.deferred none) hK rfl;rw[HS.out] at this;exact this,hB.trans (belowK_b (w:=w) (Nat.le_refl _) W D _ _ (by omega) hK rfl rfl)⟩
 case stop =>
  rintro D c pre W hD hpre hF
  exact absurd hF (fun h=>h)
end Go.Proofs.YtcdjepkhdjpjcaaGreatDoor.E.B
namespace Go.Proofs.YtcdjepkhdjpjcaaGreatDoor.E.B
open Go.Proofs.Tryz
open Go.RowKit Go.Shelf
theorem compact_up (zs:List Int)(hs:zs.Pairwise (·≤·)):∀m,m≤zs.length→Up (Lib.compactUpTo zs.toArray m)∧∀x,x∈Lib.compactUpTo zs.toArray m↔∃j,j<m∧zs.getD j 0=x
 | 0,_=>by simp[Lib.compactUpTo]
 | m+1,hm=>by
  obtain ⟨h1,h2⟩:=compact_up zs hs m (by omega)
  have hd:∀j,j<zs.length→zs.toArray[j]! = zs.getD j 0:=fun j hj=>by
   rw[getElem!_pos zs.toArray j (by simpa using hj)]
   simp[List.getD,List.getElem?_eq_getElem hj]
  have hle:∀i j,i≤j→j<zs.length→zs.getD i 0≤zs.getD j 0:=fun i j hij hj=>by
   rcases Nat.eq_or_lt_of_le hij with rfl | hlt
   ·exact Int.le_refl _
   ·have:=(List.pairwise_iff_getElem.1 hs) i j (by omega) hj hlt
    simpa [List.getD,List.getElem?_eq_getElem hj,List.getElem?_eq_getElem (show i<zs.length by omega)] using this
  rw[Lib.compactUpTo_succ]
  by_cases hk:Lib.keeps zs.toArray m=true
  ·rw[if_pos hk,hd m (by omega)]
   have hk':m=0∨zs.getD m 0≠zs.getD (m-1) 0:=by
    have:=of_decide_eq_true hk
    rwa [hd m (by omega),hd (m-1) (by omega)] at this
   refine⟨List.pairwise_append.2 ⟨h1,by simp,fun x hx y hy=>?_⟩,fun x=>?_⟩
   ·obtain rfl:=List.mem_singleton.1 hy
    obtain ⟨j,hj,rfl⟩:=(h2 x).1 hx
    have a1:=hle j (m-1) (by omega) (by omega)
    have a2:=hle (m-1) m (by omega) (by omega)
    rcases hk' with e | e
    ·omega
    ·omega
   ·rw[List.mem_append,h2 x,List.mem_singleton]
    constructor
    ·rintro (⟨j,hj,e⟩ | e)
     ·exact⟨j,by omega,e⟩
     ·exact⟨m,by omega,e.symm⟩
    ·rintro ⟨j,hj,e⟩
     by_cases ej:j=m
     ·subst ej;exact .inr e.symm
     ·exact .inl ⟨j,by omega,e⟩
  ·rw[if_neg hk,List.append_nil]
   have hk':¬(m=0∨zs.getD m 0≠zs.getD (m-1) 0):=by
    intro h
    apply hk
    rw[Lib.keeps,hd m (by omega),hd (m-1) (by omega)]
    exact decide_eq_true h
   refine⟨h1,fun x=>?_⟩
   rw[h2 x]
   constructor
   ·rintro ⟨j,hj,e⟩;exact⟨j,by omega,e⟩
   ·rintro ⟨j,hj,e⟩
    by_cases ej:j=m
    ·subst ej
     refine⟨j-1,by omega,?_⟩
     rw[← e]
     exact (Classical.not_not.1 fun c=>hk' (.inr c)).symm
    ·exact⟨j,by omega,e⟩
theorem mem_getD {zs:List Int}{x:Int}:(∃j,j<zs.length∧zs.getD j 0=x)↔x∈zs:=by
 constructor
 ·rintro ⟨j,hj,rfl⟩
  rw[List.getD,List.getElem?_eq_getElem hj]
  exact List.getElem_mem hj
 ·intro h
  obtain ⟨j,hj,rfl⟩:=List.getElem_of_mem h
  exact⟨j,hj,by simp[List.getD,List.getElem?_eq_getElem hj]⟩
abbrev srt (zs:List Int):List Int:=zs.mergeSort fun x y=>decide (x≤y)
theorem srt_perm (zs:List Int):(srt zs).Perm zs:=List.mergeSort_perm _ _
theorem srt_length (zs:List Int):(srt zs).length=zs.length:=(srt_perm zs).length_eq
theorem srt_sorted (zs:List Int):(srt zs).Pairwise (·≤·):=by
 have:=List.pairwise_mergeSort (le:=fun x y:Int=>decide (x≤y)) (fun a b c h1 h2=>by simp at *;omega) (fun a b=>by simp;omega) zs
 refine List.pairwise_iff_getElem.2 fun i j hi hj hij=>?_
 have h:=(List.pairwise_iff_getElem.1 this) i j hi hj hij
 simpa using h
theorem compact_srt (zs:List Int):Lib.compact (srt zs)=diffS zs:=by
 obtain ⟨h1,h2⟩:=compact_up (srt zs) (srt_sorted zs) _ (Nat.le_refl _)
 refine diffS_eq h1 fun x=>?_
 have:=h2 x
 rw[mem_getD] at this
 exact this.trans (srt_perm zs).mem_iff
theorem collect_is (Bs:Nat)(p:Option Addr)(m c:Nat)(zs:List Int)(w:World)(hreach:m+80≤17592186044416)(hBs:Bs<w.heap.size)(hc:w.cell? ⟨Bs,0,none⟩=some (.slice p m c))(hI:IIn w p m zs) :
  Calls prog 218 #[seqV Bs] w fun e' w'=>∃v,e'=.returned v∧w'.ownsRow w.heap.size 3 1 v zs.length (I64 zs)∧Below w.heap.size w w':=by
 go_enter func218,ntmps218
 go_wp2_with fail
 refine (appendSeq_is Bs p m c zs w hreach hBs hc hI).mono ?_
 rintro e w' ⟨v,rfl,ho,hb⟩
 have HO:Hid (w'.ownsRow w.heap.size 3 1 v zs.length (I64 zs)∧Below w.heap.size w w'):=⟨ho,hb⟩
 clear ho hb hc hI
 go_wp2
 go_ret
 exact⟨v,rfl,HO.out.1,HO.out.2⟩
theorem sorted_is (Bs:Nat)(p:Option Addr)(m c:Nat)(zs:List Int)(w:World)(hreach:m+80≤17592186044416)(hBs:Bs<w.heap.size)(hc:w.cell? ⟨Bs,0,none⟩=some (.slice p m c))(hI:IIn w p m zs) :
  Calls prog 196 #[seqV Bs] w fun e' w'=>∃v,e'=.returned v∧w'.ownsRow w.heap.size 3 1 v zs.length (I64 (srt zs))∧Below w.heap.size w w':=by
 have hl:=hI.len
 go_enter func196,ntmps196
 go_wp2_with fail
 refine (collect_is Bs p m c zs w hreach hBs hc hI).mono ?_
 rintro e w1 ⟨v,rfl,ho,hb⟩
 clear hc hI
 rcases ho.2 with ⟨rfl,h0⟩ | ⟨g,cap,cur,rfl,hbase,hg,r1,r2,r3,r4⟩
 ·obtain rfl:zs=[]:=List.eq_nil_of_length_eq_zero h0
  have HO:Hid (w1.ownsRow w.heap.size 3 1 (.slice none 0 0) 0 (I64 [])∧Below w.heap.size w w1):=⟨ho,hb⟩
  clear ho hb h0
  go_wp2_with fail
  refine (slices_Sort_int_none none 0 w1).mono ?_
  rintro e w2 ⟨rfl,rfl⟩
  go_wp2
  go_ret
  exact⟨_,rfl,by simpa using HO.out.1,HO.out.2⟩
 ·have hH:Sort.Holds (Value.int .i64) w1 g 0 zs.toArray:=holds_of_blockI hg (by simpa [I64] using r4)
  have hgl:g<w1.heap.size:=(Array.getElem?_eq_some_iff.1 hg).1
  have HR:Hid (∀n os,(Sort.grow (Sort.putRow (Value.int .i64) (Sort.ahead w1 n) g 0 (srt zs).toArray) os).ownsRow w.heap.size 3 1 (.slice (some ⟨g,0,none⟩) zs.length cap) zs.length (I64 (srt zs))∧Below w.heap.size w (Sort.grow (Sort.putRow (Value.int .i64) (Sort.ahead w1 n) g 0 (srt zs).toArray) os)):=fun n os =>
   ⟨ownsRow_sortedI (srt_length zs) hbase hg r1 r2 r3,hb.grown (grownBy_sortedI _) hb.size (fun j hj=>by cases hj;exact hbase)⟩
  have HS:=slices_Sort_int g 0 cap zs w1 hH hgl (by omega)
  clear ho hb hH hgl hg r1 r2 r3 r4 hbase hl hreach
  go_wp2_with fail
  refine HS.mono ?_
  rintro e w2 ⟨rfl,n,os,hw2⟩
  have HR2:=HR.out n os
  rw[← hw2] at HR2
  have HR3:Hid (w2.ownsRow w.heap.size 3 1 (.slice (some ⟨g,0,none⟩) zs.length cap) zs.length (I64 (srt zs))∧Below w.heap.size w w2):=HR2
  clear HR HR2 hw2 HS
  go_wp2
  go_ret
  exact⟨_,rfl,HR3.out.1,HR3.out.2⟩
theorem different_is (p:Option Addr)(m c:Nat)(zs:List Int)(w:World)(hreach:m+80≤17592186044416)(hI:IIn w p m zs) :
  Calls prog 152 #[.slice p m c] w fun e' w'=>∃q d,e'=.returned (.slice q (diffS zs).length d)∧Made w w' q (diffS zs).length d (diffS zs):=by
 have hlz:=hI.len
 go_enter func152,ntmps152
 go_wp2_with fail
 refine (values_is p m c w).mono ?_
 rintro e w1 ⟨rfl,hw1⟩
 have hb1:Below w.heap.size w w1:=by rw[hw1];exact below_alloc w _
 have hs1:w.heap.size<w1.heap.size:=by rw[hw1];simp
 have hc1:w1.cell? ⟨w.heap.size,0,none⟩=some (.slice p m c):=by rw[hw1,cell_of_row _ w.heap.size 0 _ 59 (0,0) (heap_alloc_new w _)];rfl
 clear hw1
 go_wp2_with fail
 refine (sorted_is w.heap.size p m c zs w1 hreach hs1 hc1 (hI.later hb1)).mono ?_
 rintro e w2 ⟨v,rfl,ho,hb⟩
 have hb2:Below w.heap.size w w2:=below_then hb1 hb
 have ho2:=own_mono ho (Nat.le_of_lt hs1)
 clear hb1 hs1 hc1 ho hb hI
 have hlen:(Lib.compact (srt zs)).length≤zs.length:=by have:=Lib.compact_length_le (srt zs);rwa [srt_length] at this
 rcases ho2.2 with ⟨rfl,h0⟩ | ⟨g,cap,cur,rfl,hbase,hg,r1,r2,r3,r4⟩
 ·obtain rfl:zs=[]:=List.eq_nil_of_length_eq_zero h0
  have HB:Hid (Below w.heap.size w w2):=hb2
  clear ho2 hb2 h0 hlen hlz
  go_wp2_with fail
  refine (slices_Compact_int_empty none 0 w2).mono ?_
  rintro e w3 ⟨rfl,rfl⟩
  go_wp2
  go_ret
  exact⟨none,0,rfl,made_nil w HB.out⟩
 ·have hH:Sort.Holds (Value.int .i64) w2 g 0 (srt zs).toArray:=holds_of_blockI hg (by simpa [I64,srt_length] using r4)
  have HS:=slices_Compact_int g 0 cap (srt zs) w2 hH (by rw[srt_length];omega) (by rw[srt_length];exact r1)
  rw[srt_length,compact_srt] at HS
  have HR:Hid (∀q,Made w (Sort.putRow (Value.int .i64) (Sort.ahead w2 q) g 0 (diffS zs++List.replicate (zs.length-(diffS zs).length) 0).toArray) (some ⟨g,0,none⟩) (diffS zs).length cap (diffS zs)):=fun q=>by
   have hld:=diffS_length zs
   have h1:=Lib.ownsRow_putRow (q:=q) (k:=(diffS zs).length) (ys:=diffS zs++List.replicate (zs.length-(diffS zs).length) 0) ho2 (by simp;omega) hld
   rw[List.take_left] at h1
   exact⟨h1,Lib.below_putRow hb2 hbase⟩
  clear ho2 hb2 hH hg r1 r2 r3 r4 hbase hlen hlz hreach
  go_wp2_with fail
  refine HS.mono ?_
  rintro e w3 ⟨rfl,q,hw3⟩
  have HR2:=HR.out q
  rw[← hw3] at HR2
  have HR3:Hid (Made w w3 (some ⟨g,0,none⟩) (diffS zs).length cap (diffS zs)):=HR2
  clear HR HR2 hw3 HS
  go_wp2
  go_ret
  exact⟨_,_,rfl,HR3.out⟩
end Go.Proofs.YtcdjepkhdjpjcaaGreatDoor.E.B
namespace Go.Proofs.YtcdjepkhdjpjcaaGreatDoor.E.B
open Go.Proofs.Tryz
open Go.RowKit
def hasS (xs:List Int)(b:Int):Bool:=decide (b∈xs)
theorem hasS_iff {xs:List Int}{b:Int}:hasS xs b=true↔b∈xs:=by unfold hasS;rw[decide_eq_true_eq]
theorem has_at {xs:List Int}{b:Int}{k:Nat}(hk:k<xs.length)(h:xs.getD k 0=b):hasS xs b=true:=by
 rw[hasS_iff,← h,List.getD,List.getElem?_eq_getElem hk]
 exact List.getElem_mem hk
theorem has_none {xs:List Int}{b:Int}(h:∀j,j<xs.length→xs.getD j 0≠b):hasS xs b=false:=by
 cases e:hasS xs b with
 | false=>rfl
 | true =>
  rw[hasS_iff] at e
  obtain ⟨i,hi,he⟩:=List.getElem_of_mem e
  exact absurd (by simp[List.getD,List.getElem?_eq_getElem hi,he]) (h i hi)
theorem not_snoc {xs:List Int}{b x:Int}{k:Nat}(h:∀j,j<k→xs.getD j 0≠b)(hx:xs.getD k 0=x)(hne:¬x=b):∀j,j<k+1→xs.getD j 0≠b:=by
 intro j hj
 by_cases e:j=k
 ·subst e;rw[hx];exact hne
 ·exact h j (by omega)
theorem bel_step {xs:List Int}{b:Int}{k:Nat}(h:∀j,j<k→0≤xs.getD j 0∧xs.getD j 0<b)(hx:0≤xs.getD k 0∧xs.getD k 0<b):∀j,j<k+1→0≤xs.getD j 0∧xs.getD j 0<b:=by
 intro j hj
 by_cases e:j=k
 ·subst e;exact hx
 ·exact h j (by omega)
theorem bel_all {xs:List Int}{b:Int}(h:∀j,j<xs.length→0≤xs.getD j 0∧xs.getD j 0<b):∀x∈xs,0≤x∧x<b:=by
 intro x hx
 obtain ⟨i,hi,rfl⟩:=List.getElem_of_mem hx
 have:=h i hi
 simpa [List.getD,List.getElem?_eq_getElem hi] using this
theorem bel_not {xs:List Int}{b:Int}{k:Nat}(hk:k<xs.length)(h:¬(0≤xs.getD k 0∧xs.getD k 0<b)):¬∀x∈xs,0≤x∧x<b:=by
 intro a
 refine h (a _ ?_)
 rw[List.getD,List.getElem?_eq_getElem hk]
 exact List.getElem_mem hk
theorem below_is (p:Option Addr)(n c:Nat)(xs:List Int)(b:Int)(w:World)(h:IIn w p n xs)(hn:n≤140737488355328) :
  Calls prog 151 #[.slice p n c,.int .i64 b] w fun e w'=>e=.returned (.bool (belS xs b))∧w=w':=by
 have HH:Hid (IIn w p n xs):=h
 clear h
 go_enter func151,ntmps151
 go_wp2
 go_loop [9] (fun i=>∃k:Nat,k≤n∧i=.int .i64 k∧Hid (∀j,j<k→0≤xs.getD j 0∧xs.getD j 0<b)) (fun i=>n-(intOf i).toNat)
 case atStart=>exact⟨0,Nat.zero_le _,rfl,fun j hj=>absurd hj (Nat.not_lt_zero _)⟩
 case round =>
  obtain ⟨k,hk,rfl,HT⟩:=hrel
  by_cases hlt:k<n
  ·have hlen:=HH.out.len
   obtain ⟨b',o,rfl,hcs⟩:=HH.out.cells (by omega)
   have hc:=hcs k hlt
   have HN:Hid ((0≤xs.getD k 0∧xs.getD k 0<b)→∀j,j<k+1→0≤xs.getD j 0∧xs.getD j 0<b):=fun e=>bel_step HT.out e
   have HY:Hid (¬(0≤xs.getD k 0∧xs.getD k 0<b)→belS xs b=false):=fun e=>decide_eq_false (bel_not (by omega) e)
   clear hcs hlen HH HT
   generalize xs.getD k 0=x at *
   by_cases h1:x<0
   ·have E:Hid (belS xs b=false):=HY.out (by omega)
    clear HN HY
    go_wp2
    go_ret
    exact⟨by rw[E.out];rfl,rfl⟩
   ·by_cases h2:x<b
    ·have E:Hid (∀j,j<k+1→0≤xs.getD j 0∧xs.getD j 0<b):=HN.out (by omega)
     clear HN HY
     go_wp2
     go_round
     case rel=>exact⟨k+1,by omega,by go_num,E⟩
     case measure=>simp[intOf];omega
    ·have E:Hid (belS xs b=false):=HY.out (by omega)
     clear HN HY
     go_wp2
     go_ret
     exact⟨by rw[E.out];rfl,rfl⟩
  ·obtain rfl:k=n:=by omega
   have E:Hid (belS xs b=true):=decide_eq_true (bel_all fun j hj=>HT.out j (by have:=HH.out.len;omega))
   go_wp2
   go_ret
   exact⟨by rw[E.out];rfl,rfl⟩
theorem may_is (b m:Int)(w:World) :
  Calls prog 150 #[.int .i64 b,.int .i64 m] w fun e w'=>e=.returned (.bool (mayS b m))∧w=w':=by
 go_enter func150,ntmps150
 go_wp2
 all_goals go_ret
 all_goals refine⟨?_,rfl⟩
 all_goals (show Ending.returned (.bool _)=Ending.returned (.bool _);congr 2;unfold mayS)
 all_goals first | exact (decide_eq_decide.2 (by omega)) | exact (decide_eq_false (by omega)).symm | exact (decide_eq_true (by omega)).symm
theorem form_is (p:Option Addr)(n c:Nat)(xs:List Int)(b m:Int)(F:List Int)(E:Int)(hF:formS xs b m=(F,E))(w:World)(hreach:n+80≤17592186044416)(hI:IIn w p n xs) :
  Calls prog 85 #[.slice p n c,.int .i64 b,.int .i64 m] w fun e' w'=>∃q d,e'=.returned (.tuple #[.slice q F.length d,.int .i64 E])∧Made w w' q F.length d F:=by
 have hlen:=hI.len
 go_enter func85,ntmps85
 go_wp2_with fail
 refine (may_is b m w).mono ?_
 rintro e w1 ⟨rfl,rfl⟩
 cases h1:mayS b m with
 | false =>
  unfold formS at hF
  rw[if_pos h1] at hF
  simp only[Prod.mk.injEq] at hF
  obtain ⟨rfl,rfl⟩:=hF
  clear hI
  go_wp2
  go_ret2
  exact⟨none,0,rfl,made_nil w (Below.refl _ _)⟩
 | true =>
  by_cases h0:n=0
  ·subst h0
   obtain rfl:xs=[]:=List.eq_nil_of_length_eq_zero hlen
   unfold formS at hF
   rw[if_neg (by rw[h1];decide),if_pos rfl] at hF
   simp only[Prod.mk.injEq] at hF
   obtain ⟨rfl,rfl⟩:=hF
   clear hI
   go_wp2
   go_ret2
   exact⟨none,0,rfl,made_nil w (Below.refl _ _)⟩
  ·have hne:xs≠[]:=fun e=>h0 (by rw[← hlen,e];rfl)
   have hz:((n:Int) == 0)=false:=by simpa using h0
   go_wp2_with fail
   refine (below_is p n c xs b w hI (by omega)).mono ?_
   rintro e w1 ⟨rfl,rfl⟩
   clear hz
   cases h2:belS xs b with
   | false =>
    unfold formS at hF
    rw[if_neg (by rw[h1];decide),if_neg hne,if_pos h2] at hF
    simp only[Prod.mk.injEq] at hF
    obtain ⟨rfl,rfl⟩:=hF
    clear hI
    go_wp2
    go_ret2
    exact⟨none,0,rfl,made_nil w (Below.refl _ _)⟩
   | true =>
    go_wp2_with fail
    refine (different_is p n c xs w hreach hI).mono ?_
    rintro e w1 ⟨q,d,rfl,hM⟩
    have HM:Hid (Made w w1 q (diffS xs).length d (diffS xs)):=hM
    unfold formS at hF
    rw[if_neg (by rw[h1];decide),if_neg hne,if_neg (by rw[h2];decide)] at hF
    have hmay:1≤m:=by have:=of_decide_eq_true h1;omega
    clear hM hI hne h1 h2
    by_cases h3:m<((diffS xs).length:Int)
    ·rw[if_pos h3] at hF
     simp only[Prod.mk.injEq] at hF
     obtain ⟨rfl,rfl⟩:=hF
     go_wp2
     go_ret2
     exact⟨none,0,rfl,made_nil w HM.out.below⟩
    ·rw[if_neg h3] at hF
     simp only[Prod.mk.injEq] at hF
     obtain ⟨rfl,rfl⟩:=hF
     go_wp2
     go_ret2
     exact⟨q,d,rfl,HM.out⟩
end Go.Proofs.YtcdjepkhdjpjcaaGreatDoor.E.B
namespace Go.Proofs.YtcdjepkhdjpjcaaGreatDoor.E
structure Ad where
 bl:Int
 lc:Int
 mr:Int
 hi:Int
 cl:Int
 next:Int
 got:Int
 W:List (Int × List Int)
 I:List (Int × List Int × Int)
 used:Int
abbrev mayC (bl lc mr hi cl:Int):Prop:=1≤bl∧bl≤64∧2≤lc∧lc≤64∧1≤mr∧mr≤16∧mr≤bl∧mr≤lc-1∧1≤hi∧hi≤lc∧1≤cl∧cl≤8
def newA (bl lc mr hi cl:Int):Ad:=⟨bl,lc,mr,hi,cl,1,0,[],[],0⟩
def lefts (I:List (Int × List Int × Int)):List (Int × Int):=I.map fun x=>(x.1,x.2.2)
def wt (W:List (Int × List Int)):List Int:=W.map Prod.fst
def it (I:List (Int × List Int × Int)):List Int:=I.map Prod.fst
def Ad.rsv (a:Ad):Int:=L.total (lefts a.I)
def Ad.lg (a:Ad):L.Lg:=⟨a.lc,a.hi,a.used,lefts a.I⟩
def fi (t:Int):List (Int × List Int × Int)→Option (List Int × Int)
 | []=>none
 | x :: xs=>if x.1=t then some x.2 else fi t xs
def cutI (t:Int):List (Int × List Int × Int)→List (Int × List Int × Int)
 | []=>[]
 | x :: xs=>if x.1=t then xs else x :: cutI t xs
def decI (t:Int):List (Int × List Int × Int)→List (Int × List Int × Int)
 | []=>[]
 | x :: xs=>if x.1=t then (x.1,x.2.1,x.2.2-1) :: xs else x :: decI t xs
theorem look_lefts (t:Int):∀I,L.look t (lefts I)=(fi t I).map Prod.snd
 | []=>rfl
 | x :: xs=>by
  by_cases e:x.1=t
  ·simp[lefts,L.look,fi,e]
  ·have:=look_lefts t xs
   simp only[lefts] at this
   simp[lefts,L.look,fi,e,this]
theorem lefts_cut (t:Int):∀I,lefts (cutI t I)=L.cut t (lefts I)
 | []=>rfl
 | x :: xs=>by
  by_cases e:x.1=t
  ·simp[lefts,L.cut,cutI,e]
  ·have:=lefts_cut t xs
   simp only[lefts] at this
   simp[lefts,L.cut,cutI,e,this]
theorem lefts_dec {t:Int}:∀{I:List (Int × List Int × Int)} {f:List Int} {n:Int},fi t I=some (f,n)→lefts (decI t I)=L.set t (n-1) (lefts I)
 | [],_,_,h=>by simp[fi] at h
 | x :: xs,f,n,h=>by
  by_cases e:x.1=t
  ·simp only[fi,if_pos e,Option.some.injEq] at h
   simp[lefts,L.set,decI,e,h]
  ·simp only[fi,if_neg e] at h
   have:=lefts_dec h
   simp only[lefts] at this
   simp[lefts,L.set,decI,e,this]
theorem lefts_app (I:List (Int × List Int × Int))(t:Int)(f:List Int)(n:Int):lefts (I++[(t,f,n)])=lefts I++[(t,n)]:=by simp[lefts]
theorem lefts_fst (I:List (Int × List Int × Int)):(lefts I).map Prod.fst=it I:=by simp[lefts,it]
theorem it_cut (t:Int):∀I,it (cutI t I)=(it I).erase t
 | []=>rfl
 | x :: xs=>by
  by_cases e:x.1=t
  ·simp[it,cutI,e]
  ·have:=it_cut t xs
   simp only[it] at this
   have e':¬(x.1 == t)=true:=by simp[e]
   simp[it,cutI,e,this]
theorem it_dec (t:Int):∀I,it (decI t I)=it I
 | []=>rfl
 | x :: xs=>by
  by_cases e:x.1=t
  ·simp[it,decI,e]
  ·have:=it_dec t xs
   simp only[it] at this
   simp[it,decI,e,this]
theorem it_app (I:List (Int × List Int × Int))(x:Int × List Int × Int):it (I++[x])=it I++[x.1]:=by simp[it]
theorem cutI_sub (t:Int):∀I,(cutI t I).Sublist I
 | []=>List.Sublist.refl _
 | x :: xs=>by
  by_cases e:x.1=t
  ·simp only[cutI,if_pos e];exact List.sublist_cons_self x xs
  ·simp only[cutI,if_neg e];exact (cutI_sub t xs).cons_cons x
theorem decI_mem {t:Int}:∀{I:List (Int × List Int × Int)} {y},y∈decI t I→y∈I∨∃f n,(t,f,n)∈I∧fi t I=some (f,n)∧y=(t,f,n-1)
 | [],y,h=>by simp[decI] at h
 | x :: xs,y,h=>by
  by_cases e:x.1=t
  ·simp only[decI,if_pos e,List.mem_cons] at h
   rcases h with rfl | h
   ·exact .inr ⟨x.2.1,x.2.2,by rw[← e];exact List.mem_cons_self ..,by simp[fi,e],by rw[e]⟩
   ·exact .inl (List.mem_cons_of_mem _ h)
  ·simp only[decI,if_neg e,List.mem_cons] at h
   rcases h with rfl | h
   ·exact .inl (List.mem_cons_self ..)
   ·rcases decI_mem h with h | ⟨f,n,h1,h2,h3⟩
    ·exact .inl (List.mem_cons_of_mem _ h)
    ·exact .inr ⟨f,n,List.mem_cons_of_mem _ h1,by simpa [fi,e] using h2,h3⟩
theorem fi_mem {t:Int}{f:List Int}{n:Int}:∀{I:List (Int × List Int × Int)},fi t I=some (f,n)→(t,f,n)∈I
 | [],h=>by simp[fi] at h
 | x :: xs,h=>by
  by_cases e:x.1=t
  ·simp only[fi,if_pos e,Option.some.injEq] at h
   have:x=(t,f,n):=by rw[← e,← h]
   rw[this];exact List.mem_cons_self ..
  ·simp only[fi,if_neg e] at h
   exact List.mem_cons_of_mem _ (fi_mem h)
theorem fi_none {t:Int}:∀{I:List (Int × List Int × Int)},fi t I=none↔t ∉ it I
 | []=>by simp[fi,it]
 | x :: xs=>by
  by_cases e:x.1=t
  ·simp[fi,it,e]
  ·have:=fi_none (t:=t) (I:=xs)
   simp only[it] at this
   simp[fi,it,e,this]
   exact fun _ h=>e h.symm
structure Ad.Ok (a:Ad):Prop where
 may:mayC a.bl a.lc a.mr a.hi a.cl
 got0:0≤a.got
 gotN:a.got<a.next
 wrise:(wt a.W).Pairwise (· < ·)
 win:∀x∈a.W,a.got<x.1∧x.1<a.next
 wform:∀x∈a.W,1≤x.2.length∧(x.2.length:Int)≤a.mr
 irise:(it a.I).Pairwise (· < ·)
 iin:∀x∈a.I,1≤x.1∧x.1≤a.got
 iform:∀x∈a.I,1≤x.2.1.length∧(x.2.1.length:Int)≤a.mr∧1≤x.2.2∧x.2.2≤(x.2.1.length:Int)+1
 used0:0≤a.used
 room:a.used+a.rsv≤a.lc
theorem Ad.Ok.new {bl lc mr hi cl:Int}(h:mayC bl lc mr hi cl):(newA bl lc mr hi cl).Ok :=
 ⟨h,Int.le_refl _,by simp[newA],List.Pairwise.nil,fun _ h=>absurd h List.not_mem_nil,fun _ h=>absurd h List.not_mem_nil,List.Pairwise.nil,fun _ h=>absurd h List.not_mem_nil,fun _ h=>absurd h List.not_mem_nil,Int.le_refl _,by have:=h.2.2.1;show (0:Int)+0≤lc;omega⟩
theorem rise_length:∀{xs:List Int} {lo hi:Int},xs.Pairwise (· < ·)→(∀x∈xs,lo<x∧x<hi)→lo≤hi→(xs.length:Int)≤hi-lo
 | [],lo,hi,_,_,h=>by simp;omega
 | x :: xs,lo,hi,hp,hm,h=>by
  have h1:=hm x (List.mem_cons_self ..)
  have h2:=List.pairwise_cons.1 hp
  have:=rise_length (lo:=x) (hi:=hi) h2.2 (fun y hy=>⟨h2.1 y hy,(hm y (List.mem_cons_of_mem _ hy)).2⟩) (by omega)
  simp only[List.length_cons]
  omega
theorem Ad.Ok.wlen {a:Ad}(h:a.Ok):(a.W.length:Int)≤a.next:=by
 have:=rise_length h.wrise (lo:=a.got) (hi:=a.next) (fun x hx=>by obtain ⟨y,hy,rfl⟩:=List.mem_map.1 hx;exact h.win y hy) (by have:=h.gotN;omega)
 have h0:=h.got0
 simp only[wt,List.length_map] at this
 omega
theorem Ad.Ok.ilen {a:Ad}(h:a.Ok):(a.I.length:Int)≤a.next:=by
 have:=rise_length h.irise (lo:=0) (hi:=a.got+1) (fun x hx=>by obtain ⟨y,hy,rfl⟩:=List.mem_map.1 hx;have:=h.iin y hy;exact⟨by omega,by omega⟩) (by have:=h.got0;omega)
 have h0:=h.gotN
 simp only[it,List.length_map] at this
 omega
theorem Ad.Ok.fine {a:Ad}(h:a.Ok):L.Fine (lefts a.I):=by
 refine⟨fun x hx=>?_,?_⟩
 ·obtain ⟨y,hy,rfl⟩:=List.mem_map.1 hx
  have:=h.iform y hy
  show 0≤y.2.2
  omega
 ·rw[lefts_fst];exact nd_of h.irise
theorem Ad.Ok.lok {a:Ad}(h:a.Ok):L.Ok a.lg:=⟨h.may.2.2.1,h.may.2.2.2.1,h.used0,h.room,h.fine⟩
theorem Ad.Ok.rsv0 {a:Ad}(h:a.Ok):0≤a.rsv:=L.total_nonneg h.fine
def Ad.fT (a:Ad):Int:=match a.W with | []=>0 | x :: _=>x.1
def Ad.fF (a:Ad):List Int:=match a.W with | []=>[] | x :: _=>x.2
def Ad.isW (a:Ad):Bool:=match a.W with | []=>false | _ :: _=>true
def Ad.fits (a:Ad):Bool:=match a.W with | []=>false | x :: _=>decide (a.used+a.rsv+x.2.length+1≤a.lc)
def Ad.begE (a:Ad)(xs:List Int):Int:=(B.formS xs a.bl a.mr).2
def Ad.begF (a:Ad)(xs:List Int):List Int:=(B.formS xs a.bl a.mr).1
def Ad.begT (a:Ad)(xs:List Int):Int:=if a.begE xs=0 then a.next else 0
def Ad.begS (a:Ad)(xs:List Int):Ad:=if a.begE xs=0 then { a with next:=a.next+1,W:=a.W++[(a.next,a.begF xs)] } else a
def Ad.entE (a:Ad):Int:=match a.W with | []=>110 | _ :: _=>if a.fits then 0 else 120
def Ad.entT (a:Ad):Int:=if a.entE=0 then a.fT else 0
def Ad.entF (a:Ad):List Int:=if a.entE=0 then a.fF else []
def Ad.entS (a:Ad):Ad:=if a.entE=0 then { a with W:=a.W.tail,I:=a.I++[(a.fT,a.fF,(a.fF.length:Int)+1)],got:=a.fT } else a
def Ad.appE (a:Ad)(t:Int):Int:=match fi t a.I with | none=>110 | some x=>if x.2=1 then 120 else 0
def Ad.appS (a:Ad)(t:Int):Ad:=if a.appE t=0 then { a with used:=a.used+1,I:=decI t a.I } else a
def Ad.donE (a:Ad)(t:Int):Int:=match fi t a.I with | none=>110 | some _=>0
def Ad.donS (a:Ad)(t:Int):Ad:=if a.donE t=0 then { a with used:=a.used+1,I:=cutI t a.I } else a
def Ad.freE (a:Ad)(n:Int):Int:=if 0≤n∧n≤a.used then 0 else 2
def Ad.freS (a:Ad)(n:Int):Ad:=if 0≤n∧n≤a.used then { a with used:=a.used-n } else a
def Ad.leftN (a:Ad)(t:Int):Int:=((fi t a.I).map Prod.snd).getD 0
def Ad.leftB (a:Ad)(t:Int):Bool:=(fi t a.I).isSome
theorem Ad.Ok.beg {a:Ad}(h:a.Ok)(xs:List Int):(a.begS xs).Ok:=by
 unfold Ad.begS
 split
 ·rename_i e
  have hf:=B.formS_ok (xs:=xs) (b:=a.bl) (m:=a.mr) e
  have hg:=h.gotN
  refine⟨h.may,h.got0,by show a.got<a.next+1;omega,?_,fun x hx=>?_,fun x hx=>?_,h.irise,h.iin,h.iform,h.used0,h.room⟩
  ·show (wt (a.W++[_])).Pairwise _
   simp only[wt,List.map_append,List.map_cons,List.map_nil]
   refine List.pairwise_append.2 ⟨h.wrise,List.pairwise_singleton _ _,fun x hx y hy=>?_⟩
   obtain ⟨z,hz,rfl⟩:=List.mem_map.1 hx
   rw[List.mem_singleton.1 hy]
   exact (h.win z hz).2
  ·show a.got<x.1∧x.1<a.next+1
   rcases List.mem_append.1 hx with hx | hx
   ·have:=h.win x hx;omega
   ·rw[List.mem_singleton.1 hx];exact⟨hg,by show a.next<a.next+1;omega⟩
  ·rcases List.mem_append.1 hx with hx | hx
   ·exact h.wform x hx
   ·rw[List.mem_singleton.1 hx]
    show 1≤(a.begF xs).length∧((a.begF xs).length:Int)≤a.mr
    have e1:a.begF xs=B.diffS xs:=hf.1
    rw[e1]
    refine⟨?_,hf.2.2.2.2⟩
    rcases Nat.eq_zero_or_pos (B.diffS xs).length with h0 | h0
    ·exact absurd (B.diffS_nil (List.eq_nil_of_length_eq_zero h0)) hf.2.2.1
    ·exact h0
 ·exact h
theorem Ad.entE_ok {a:Ad}(e:a.entE=0):∃x r,a.W=x :: r∧a.fits=true:=by
 unfold Ad.entE at e
 cases hW:a.W with
 | nil=>rw[hW] at e;cases e
 | cons x r =>
  rw[hW] at e
  refine⟨x,r,rfl,?_⟩
  cases hf:a.fits with
  | true=>rfl
  | false=>rw[hf] at e;cases e
theorem Ad.Ok.ent {a:Ad}(h:a.Ok):a.entS.Ok:=by
 unfold Ad.entS
 split
 ·rename_i e
  obtain ⟨x,r,hW,hf⟩:=Ad.entE_ok e
  have e1:a.fT=x.1:=by simp[Ad.fT,hW]
  have e2:a.fF=x.2:=by simp[Ad.fF,hW]
  have hr:=h.room
  have hu:=h.used0
  have hx:x∈a.W:=by rw[hW];exact List.mem_cons_self ..
  have hx1:=h.win x hx
  have hx2:=h.wform x hx
  have hp:(wt a.W).Pairwise (· < ·):=h.wrise
  rw[hW] at hp
  have hp2:=List.pairwise_cons.1 hp
  have hfit:a.used+a.rsv+x.2.length+1≤a.lc:=by simpa [Ad.fits,hW] using hf
  refine⟨h.may,?_,?_,?_,fun y hy=>?_,fun y hy=>?_,?_,fun y hy=>?_,fun y hy=>?_,h.used0,?_⟩
  ·show 0≤a.fT;have:=h.got0;omega
  ·show a.fT<a.next;omega
  ·show (wt a.W.tail).Pairwise _;rw[hW];exact hp2.2
  ·have hy':y∈r:=by simpa [hW] using hy
   have h1:=hp2.1 y.1 (List.mem_map.2 ⟨y,hy',rfl⟩)
   have h2:=h.win y (by rw[hW];exact List.mem_cons_of_mem _ hy')
   show a.fT<y.1∧y.1<a.next
   omega
  ·have hy':y∈r:=by simpa [hW] using hy
   exact h.wform y (by rw[hW];exact List.mem_cons_of_mem _ hy')
  ·show (it (a.I++[_])).Pairwise _
   rw[it_app]
   refine List.pairwise_append.2 ⟨h.irise,List.pairwise_singleton _ _,fun y hy z hz=>?_⟩
   obtain ⟨v,hv,rfl⟩:=List.mem_map.1 hy
   rw[List.mem_singleton.1 hz]
   have:=h.iin v hv
   show v.1<a.fT
   omega
  ·show 1≤y.1∧y.1≤a.fT
   have:=h.got0
   rcases List.mem_append.1 hy with hy | hy
   ·have:=h.iin y hy;omega
   ·rw[List.mem_singleton.1 hy];exact⟨by show 1≤a.fT;omega,Int.le_refl _⟩
  ·rcases List.mem_append.1 hy with hy | hy
   ·exact h.iform y hy
   ·rw[List.mem_singleton.1 hy]
    show 1≤a.fF.length∧(a.fF.length:Int)≤a.mr∧1≤(a.fF.length:Int)+1∧(a.fF.length:Int)+1≤(a.fF.length:Int)+1
    rw[e2]
    omega
  ·show a.used+L.total (lefts (a.I++[(a.fT,a.fF,(a.fF.length:Int)+1)]))≤a.lc
   rw[lefts_app,L.total_app,e2]
   have:L.total (lefts a.I)=a.rsv:=rfl
   omega
 ·exact h
theorem Ad.fi_of {a:Ad}{t:Int}{E:Int}(h:(match fi t a.I with | none=>(110:Int) | some _=>E)=0):∃f n,fi t a.I=some (f,n):=by
 cases e:fi t a.I with
 | none=>rw[e] at h;cases h
 | some x=>exact⟨x.1,x.2,rfl⟩
theorem Ad.appE_ok {a:Ad}{t:Int}(h:a.appE t=0):∃f n,fi t a.I=some (f,n)∧n≠1:=by
 unfold Ad.appE at h
 cases e:fi t a.I with
 | none=>rw[e] at h;cases h
 | some x =>
  rw[e] at h
  refine⟨x.1,x.2,rfl,fun e1=>?_⟩
  simp[e1] at h
theorem Ad.Ok.cutted {a:Ad}(h:a.Ok)(t:Int)(u:Int)(hu:0≤u)(hr:u+L.total (lefts (cutI t a.I))≤a.lc):({ a with used:=u,I:=cutI t a.I }:Ad).Ok :=
 ⟨h.may,h.got0,h.gotN,h.wrise,h.win,h.wform,by show (it (cutI t a.I)).Pairwise _;exact h.irise.sublist ((cutI_sub t a.I).map _),fun x hx=>h.iin x ((cutI_sub t a.I).subset hx),fun x hx=>h.iform x ((cutI_sub t a.I).subset hx),hu,hr⟩
theorem Ad.Ok.app {a:Ad}(h:a.Ok)(t:Int):(a.appS t).Ok:=by
 unfold Ad.appS
 split
 ·rename_i e
  obtain ⟨f,n,hf,hn⟩:=Ad.appE_ok e
  have hr:=h.room
  refine⟨h.may,h.got0,h.gotN,h.wrise,h.win,h.wform,?_,fun x hx=>?_,fun x hx=>?_,by have:=h.used0;show 0≤a.used+1;omega,?_⟩
  ·show (it (decI t a.I)).Pairwise _;rw[it_dec];exact h.irise
  ·rcases decI_mem hx with hx | ⟨f',n',h1,_,rfl⟩
   ·exact h.iin x hx
   ·exact h.iin (t,f',n') h1
  ·rcases decI_mem hx with hx | ⟨f',n',h1,h2,rfl⟩
   ·exact h.iform x hx
   ·have h3:=h.iform _ h1
    rw[hf] at h2
    cases h2
    show 1≤f.length∧(f.length:Int)≤a.mr∧1≤n-1∧n-1≤(f.length:Int)+1
    simp only at h3
    omega
  ·show a.used+1+L.total (lefts (decI t a.I))≤a.lc
   rw[lefts_dec hf,L.total_set (n:=n) (by rw[look_lefts,hf];rfl)]
   have:L.total (lefts a.I)=a.rsv:=rfl
   omega
 ·exact h
theorem Ad.Ok.don {a:Ad}(h:a.Ok)(t:Int):(a.donS t).Ok:=by
 unfold Ad.donS
 split
 ·rename_i e
  obtain ⟨f,n,hf⟩:=Ad.fi_of e
  refine h.cutted t _ (by have:=h.used0;omega) ?_
  have h3:=h.iform _ (fi_mem hf)
  have hr:=h.room
  have:L.total (lefts a.I)=a.rsv:=rfl
  rw[lefts_cut,L.total_cut (n:=n) (by rw[look_lefts,hf];rfl)]
  simp only at h3
  omega
 ·exact h
theorem Ad.Ok.fre {a:Ad}(h:a.Ok)(n:Int):(a.freS n).Ok:=by
 unfold Ad.freS
 split
 ·rename_i e
  exact⟨h.may,h.got0,h.gotN,h.wrise,h.win,h.wform,h.irise,h.iin,h.iform,by show 0≤a.used-n;omega,by have:=h.room;show a.used-n+a.rsv≤a.lc;omega⟩
 ·exact h
end Go.Proofs.YtcdjepkhdjpjcaaGreatDoor.E
namespace Go.Proofs.YtcdjepkhdjpjcaaGreatDoor.E
open Go.Proofs.Tryz
open Go.RowKit
open B (IIn)
theorem sameF_is (p q:Option Addr)(n c m d:Nat)(xs ys:List Int)(w:World)(hx:IIn w p n xs)(hy:IIn w q m ys)(hn:n≤140737488355328) :
  Calls prog 66 #[.slice p n c,.slice q m d] w fun e w'=>e=.returned (.bool (decide (xs=ys)))∧∃m,w'=w.drewN m:=by
 by_cases hnm:n=m
 ·subst hnm
  have hb:(((n:Nat):Int) != ((n:Nat):Int))=false:=by simp
  have HX:Hid (IIn w p n xs):=hx
  have HY:Hid (IIn w q n ys):=hy
  clear hx hy
  go_enter func66,ntmps66
  go_wp2
  go_loopw [5] (fun i wr=>∃k:Nat,k≤n∧i=.int .i64 k∧Hid (xs.take k=ys.take k)∧∃nq,wr=w.drewN nq) (fun i _=>n-(intOf i).toNat)
  case atStart=>exact⟨0,Nat.zero_le _,rfl,rfl,0,rfl⟩
  case round =>
   obtain ⟨k,hk,rfl,HT,nq,hwr⟩:=hrel
   subst hwr
   by_cases hlt:k<n
   ·have hkx:k<xs.length:=by rw[HX.out.len];exact hlt
    have hky:k<ys.length:=by rw[HY.out.len];exact hlt
    obtain ⟨b',o,rfl,hcx⟩:=HX.out.cells (by omega)
    obtain ⟨b2,o2,rfl,hcy⟩:=HY.out.cells (by omega)
    have h1:=hcx k hlt
    have h2:=hcy k hlt
    have i1:(k:Int)<(n:Int):=by omega
    have HT2:Hid (xs.getD k 0=ys.getD k 0→xs.take (k+1)=ys.take (k+1)):=by
     intro e
     simp only[List.getD,List.getElem?_eq_getElem hkx,List.getElem?_eq_getElem hky,Option.getD_some] at e
     rw[List.take_succ_eq_append_getElem hkx,List.take_succ_eq_append_getElem hky,e,HT.out]
    have HT3:Hid (¬xs.getD k 0=ys.getD k 0→¬xs=ys):=by
     intro e e2
     subst e2
     exact e rfl
    clear hcx hcy hkx hky HX HY HT
    generalize xs.getD k 0=x at *
    generalize ys.getD k 0=y at *
    cases hz:(x != y)
    ·go_wp2
     go_quiet (fail)
     go_wp2
     go_roundw
     case rel=>exact⟨k+1,by omega,by go_num,HT2.out (by simpa using hz),_,rfl⟩
     case measure=>simp[intOf];omega
    ·go_wp2
     go_quiet (fail)
     go_wp2
     go_ret
     exact⟨by rw[decide_eq_false (HT3.out (by simpa using hz))];rfl,_,World.drewN_drewN _ _ _⟩
   ·have HE:Hid (xs=ys):=by
     have:=HT.out
     rw[List.take_of_length_le (by rw[HX.out.len];omega),List.take_of_length_le (by rw[HY.out.len];omega)] at this
     exact this
    go_wp2
    go_ret
    exact⟨by rw[decide_eq_true HE.out];rfl,_,rfl⟩
 ·have hb:(((n:Nat):Int) != ((m:Nat):Int))=true:=by rw[bne_iff_ne];omega
  have HE:Hid (decide (xs=ys)=false):=decide_eq_false fun e=>hnm (by rw[← hx.len,← hy.len,e])
  clear hx hy
  go_enter func66,ntmps66
  go_wp2
  go_ret
  exact⟨by rw[HE.out];rfl,0,rfl⟩
end Go.Proofs.YtcdjepkhdjpjcaaGreatDoor.E
