import Derived.Test.YtcdjepkhdjpjcaaGreatDoorY00
import Derived.Laws.AppendOwnNone
import Derived.Deep.AppendLies
import Derived.Laws.CopyOwn
import Derived.LaidMore
import Derived.RangeFuncNested
import Derived.RangeFuncBound
import Derived.Shelf.RegionOpen
import Derived.OwnWalkIn
import Derived.LoopNIn
import Derived.LoopIn
import Derived.Laws.EntriesVeiled
set_option maxHeartbeats 20000000
set_option maxRecDepth 100000
namespace Go.Proofs.YtcdjepkhdjpjcaaGreatDoor.E
theorem nd_of:∀{xs:List Int},xs.Pairwise (· < ·)→xs.Nodup
 | [],_=>List.nodup_nil
 | x :: xs,h=>List.nodup_cons.2 ⟨fun hm=>by have:=(List.pairwise_cons.1 h).1 x hm;omega,nd_of (List.pairwise_cons.1 h).2⟩
theorem or_id {a b c:Prop}(h:a∨b)(f:b→c):a∨c:=by
 rcases h with h | h
 ·exact .inl h
 ·exact .inr (f h)
def place (xs:List Int)(t:Int):Int:=if t∈xs then (xs.idxOf t:Int) else -1
theorem place_in {xs:List Int}{t:Int}(h:t∈xs):place xs t=(xs.idxOf t:Int):=if_pos h
theorem place_out {xs:List Int}{t:Int}(h:t ∉ xs):place xs t=-1:=if_neg h
theorem erase_idx (xs:List Int)(t:Int):xs.eraseIdx (xs.idxOf t)=xs.erase t:=(List.erase_eq_eraseIdx_of_idxOf rfl).symm
theorem idxOf_pre (pre:List Int)(t:Int)(zs:List Int)(hn:t ∉ pre)(hp:pre++[t] <+: zs):t∈zs∧zs.idxOf t=pre.length:=by
 obtain ⟨r,rfl⟩:=hp
 refine⟨by simp,?_⟩
 rw[List.append_assoc,List.idxOf_append,if_neg hn]
 simp
def upto (zs:List Int)(k:Nat):List Int:=(List.range k).map fun j=>zs.getD j 0
theorem upto_succ (zs:List Int)(k:Nat):upto zs (k+1)=upto zs k++[zs.getD k 0]:=by simp[upto,List.range_succ]
theorem upto_length (zs:List Int)(k:Nat):(upto zs k).length=k:=by simp[upto]
theorem upto_take (zs:List Int)(k:Nat)(hk:k≤zs.length):upto zs k=zs.take k:=by
 apply List.ext_getElem
 ·simp[upto];omega
 ·intro i h1 h2
  have h3:i<zs.length:=by simp at h2;omega
  simp[upto,List.getD,h3]
theorem upto_all (zs:List Int):upto zs zs.length=zs:=by rw[upto_take zs _ (Nat.le_refl _),List.take_length]
theorem leave_at (xs:List Int)(k i:Nat):(xs.eraseIdx k).getD i 0=if i<k then xs.getD i 0 else xs.getD (i+1) 0:=by
 simp only[List.getD,List.getElem?_eraseIdx]
 split <;> rfl
open Go.Proofs.Tryz Go.RowKit
theorem info26:(prog.info? 52).map (fun i=>(i.zero,i.size,i.bytes))=some (some (.int .u64 0),1,8):=by kernel_rfl
theorem size26:(prog.info? 52).map (·.size)=some 1:=by kernel_rfl
abbrev V64 (xs:List Int):List Value:=xs.map (Value.int .u64)
theorem ones_u64 (xs:List Int):∀v∈V64 xs,v.oneCell'=true:=by
 intro u hu;obtain ⟨x,_,rfl⟩:=List.mem_map.1 hu;rfl
theorem below_alloc (w:World)(o:Obj):Below w.heap.size w (w.alloc o):=(Below.refl _ _).alloc (Nat.le_refl _) o
theorem below_then {a b c:World}(h:Below a.heap.size a b)(k:Below b.heap.size b c):Below a.heap.size a c:=h.trans (k.mono h.size)
theorem below_drawn {B:Nat}{w:World}(nq:Nat):Below B w (w.drewN nq):=⟨rfl,rfl,rfl,Nat.le_refl _,fun _ _=>rfl⟩
structure Kept (S:Nat→Prop) (w w':World):Prop where
 os:w'.os=w.os
 tape:w'.tape=w.tape
 output:w'.output=w.output
 size:w.heap.size≤w'.heap.size
 block:∀b,b<w.heap.size→¬S b→w'.heap[b]?=w.heap[b]?
theorem Kept.of_below {w w':World}(S:Nat→Prop)(h:Below w.heap.size w w'):Kept S w w':=⟨h.os,h.tape,h.output,h.size,fun b hb _=>h.block b hb⟩
theorem Kept.refl (S:Nat→Prop)(w:World):Kept S w w:=Kept.of_below S (Below.refl _ _)
theorem Kept.trans {S T:Nat→Prop}{a b c:World}(h:Kept S a b)(k:Kept T b c)(hT:∀x,x<a.heap.size→T x→S x):Kept S a c :=
 ⟨k.os.trans h.os,k.tape.trans h.tape,k.output.trans h.output,Nat.le_trans h.size k.size,fun x hx hs=>(k.block x (Nat.lt_of_lt_of_le hx h.size) fun t=>hs (hT x hx t)).trans (h.block x hx hs)⟩
theorem Kept.wider {S T:Nat→Prop}{a b:World}(h:Kept S a b)(hT:∀x,x<a.heap.size→S x→T x):Kept T a b:=⟨h.os,h.tape,h.output,h.size,fun x hx ht=>h.block x hx fun s=>ht (hT x hx s)⟩
theorem Kept.setCell {w:World}(b o:Nat)(v:Value):Kept (·=b) w (w.setCell ⟨b,o,none⟩ v):=⟨rfl,rfl,rfl,by simp,fun k _ hk=>Below.heap_setCell _ _ _ _ hk⟩
theorem Kept.into {S:Nat→Prop}{B:Nat}{w0 w w':World}(h:Kept S w w')(hb:Below B w0 w)(hS:∀b,b<B→¬S b)(hB:B≤w0.heap.size):Below B w0 w' :=
 ⟨h.os.trans hb.os,h.tape.trans hb.tape,h.output.trans hb.output,Nat.le_trans hb.size h.size,fun b hlt=>(h.block b (by have:=hb.size;omega) (hS b hlt)).trans (hb.block b hlt)⟩
structure UIn (w:World) (p:Option Addr) (n:Nat) (xs:List Int):Prop where
 len:xs.length=n
 cells:0<n→∃b o,p=some ⟨b,o,none⟩∧∀i,i<n→w.cell? ⟨b,o+i,none⟩=some (.int .u64 (xs.getD i 0))
theorem UIn.news {w:World}{a:Addr}{n:Nat}{xs:List Int}(h:UIn w (some a) n xs):∀j u,(V64 xs)[j]?=some u→w.cell? (a.add j)=some u:=by
 intro j u hj
 have hjn:j<xs.length:=by
  have:=(List.getElem?_eq_some_iff.1 hj).1
  simpa using this
 obtain ⟨b,o,e,hc⟩:=h.cells (by have:=h.len;omega)
 simp only[Option.some.injEq] at e
 subst e
 rw[Go.WideShapes.add_plain,hc j (by have:=h.len;omega),← hj]
 simp[List.getD,List.getElem?_eq_getElem hjn]
theorem UIn.nil (w:World)(p:Option Addr):UIn w p 0 []:=⟨rfl,fun h=>absurd h (Nat.lt_irrefl 0)⟩
def blk:Value→Option Nat
 | .slice (some a) _ _=>some a.block
 | _=>none
def Row (w:World)(v:Value)(xs:List Int):Prop :=
 (v=.slice none 0 0∧xs=[])∨∃g o cap cur,v=.slice (some ⟨g,o,none⟩) xs.length cap∧w.heap[g]?=some (.cells cur 52 (0,0))∧xs.length≤cap∧o+cap≤cur.size∧∀i,i<xs.length→cur[o+i]?=some (.int .u64 (xs.getD i 0))
theorem Row.empty (w:World):Row w (.slice none 0 0) []:=.inl ⟨rfl,rfl⟩
theorem Row.form {w:World}{v:Value}{xs:List Int}(h:Row w v xs):∃p c,v=.slice p xs.length c∧UIn w p xs.length xs∧xs.length≤c∧(p=none→c=0):=by
 rcases h with ⟨rfl,rfl⟩ | ⟨g,o,cap,cur,rfl,hg,hc,hf,hx⟩
 ·exact⟨_,_,rfl,UIn.nil _ _,Nat.le_refl _,fun _=>rfl⟩
 ·refine⟨_,_,rfl,⟨rfl,fun _=>⟨g,o,rfl,fun i hi=>?_⟩⟩,hc,fun e=>by cases e⟩
  rw[cell_of_row _ g (o+i) cur 52 (0,0) hg]
  exact hx i hi
theorem Row.lt {w:World}{v:Value}{xs:List Int}(h:Row w v xs){g:Nat}(hg:blk v=some g):g<w.heap.size:=by
 rcases h with ⟨rfl,rfl⟩ | ⟨g',o,cap,cur,rfl,hh,_⟩
 ·cases hg
 ·simp only[blk,Option.some.injEq] at hg
  subst hg
  exact (Array.getElem?_eq_some_iff.1 hh).1
theorem Row.typ {w:World}{v:Value}{xs:List Int}(h:Row w v xs){g:Nat}(hg:blk v=some g):∃cur,w.heap[g]?=some (.cells cur 52 (0,0)):=by
 rcases h with ⟨rfl,rfl⟩ | ⟨g',o,cap,cur,rfl,hh,_⟩
 ·cases hg
 ·simp only[blk,Option.some.injEq] at hg
  subst hg
  exact⟨_,hh⟩
theorem Row.kept {w w':World}{v:Value}{xs:List Int}(h:Row w v xs)(hk:∀g,blk v=some g→w'.heap[g]?=w.heap[g]?):Row w' v xs:=by
 rcases h with ⟨rfl,rfl⟩ | ⟨g,o,cap,cur,rfl,hh,r⟩
 ·exact .inl ⟨rfl,rfl⟩
 ·exact .inr ⟨g,o,cap,cur,rfl,(hk g rfl).trans hh,r⟩
theorem Row.later {w w':World}{v:Value}{xs:List Int}(h:Row w v xs)(hb:Below w.heap.size w w'):Row w' v xs:=h.kept fun g hg=>hb.block g (h.lt hg)
theorem Row.far {w w':World}{v:Value}{xs:List Int}{S:Nat→Prop}(h:Row w v xs)(hk:Kept S w w')(hS:∀g,blk v=some g→¬S g):Row w' v xs:=h.kept fun g hg=>hk.block g (h.lt hg) (hS g hg)
theorem Row.own {w:World}{base:Nat}{v:Value}{n:Nat}{xs:List Int}(h:w.ownsRow base 52 1 v n (V64 xs)):Row w v xs∧∀g,blk v=some g→base≤g:=by
 have hl:xs.length=n:=by have:=h.1;simpa [V64] using this
 rcases h.2 with ⟨rfl,rfl⟩ | ⟨g,cap,cur,rfl,h1,hg,hnc,hcm,hsz,htake⟩
 ·obtain rfl:xs=[]:=List.eq_nil_of_length_eq_zero hl
  exact⟨.inl ⟨rfl,rfl⟩,fun g e=>by cases e⟩
 ·subst hl
  refine⟨.inr ⟨g,0,cap,cur,rfl,hg,hnc,by omega,fun i hi=>?_⟩,fun g' e=>?_⟩
  ·have:=h.cellAt i (by omega)
   rw[cell_of_row _ g i cur 52 (0,0) hg] at this
   rw[Nat.zero_add,this]
   simp[V64,List.getD,List.getElem?_eq_getElem hi]
  ·simp only[blk,Option.some.injEq] at e
   subst e
   exact h1
theorem Kept.setRow (w:World)(g:Nat)(cs:Array Value):Kept (·=g) w (w.setRow g cs):=⟨rfl,rfl,rfl,by simp[World.setRow],fun k _ hk=>setRow_other w g k cs hk⟩
section
variable (w:World)
theorem run_append_piece {P:Program}(t ty e:TypeId)(i:TypeInfo)(ht:P.underlying t=some (.slice e))(hi:P.info? e=some i)(hsz:i.size=1)
  (g off sLen sCap:Nat) (cur:Array Value) (hg:w.heap[g]?=some (.cells cur e (0,0)))
  (a:Addr) (m c:Nat) (news:List Value) (hl:news.length=m) (hnews:∀j u,news[j]?=some u→w.cell? (a.add j)=some u) (h1:∀u∈news,u.oneCell'=true)
  (hroom:sLen+m≤sCap) (hfit:off+sLen+news.length≤cur.size) :
  (Builtin.append_ #[t,t] ty #[.slice (some ⟨g,off,none⟩) sLen sCap,.slice (some a) m c]).run P w =
   .ok (.slice (some ⟨g,off,none⟩) (sLen+m) sCap) (w.setRow g (cur.toList.take (off+sLen)++news++cur.toList.drop (off+sLen+news.length)).toArray):=by
 have hf:=run_firstCells_some (P:=P) w 1 m a m c news (by omega) hnews
 have hst:=run_storeCells_at P g (off+sLen) e news 0 cur w hg (by simpa using hfit) h1
 simp only[Nat.add_zero] at hst
 simp[Builtin.append_,run_underlying ht,sizeOf,typeInfo,hi,hsz,Builtin.lenOf,hroom,hf,Addr.add_lit,hst]
theorem run_append_row (ty:TypeId)(v:Value)(xs:List Int)(hrow:Row w v xs)(p:Option Addr)(m c:Nat)(ys:List Int)(hy:UIn w p m ys)(hlen:xs.length+m≤100000) :
  ∃v' w',(Builtin.append_ #[209,209] ty #[v,.slice p m c]).run prog w=.ok v' w'∧Row w' v' (xs++ys)∧Kept (fun b=>blk v=some b) w w'∧(blk v'=blk v∨∃g,blk v'=some g∧w.heap.size≤g):=by
 obtain ⟨i0,hi,hz0,hz1,hz2⟩:=info_parts info26
 have hml:(100000:Nat)≤maxLen:=by decide
 by_cases hm:m=0
 ·subst hm
  obtain rfl:ys=[]:=List.eq_nil_of_length_eq_zero hy.len
  obtain ⟨q,d,rfl,hq,hd,_⟩:=hrow.form
  refine⟨.slice q xs.length d,w,?_,by simpa using hrow,Kept.refl _ _,.inl rfl⟩
  have hfn:(Builtin.firstCells 1 0 (.slice p 0 c)).run prog w=.ok #[] w:=by
   cases p with
   | none=>exact run_firstCells_none w 1 0 0 c
   | some a=>exact run_firstCells_some (P:=prog) w 1 0 a 0 c [] rfl (fun j u h=>by simp at h)
  cases q <;> simp[Builtin.append_,run_underlying underlying209,sizeOf,typeInfo,hi,hz1,Builtin.lenOf,hd,hfn,storeCells]
 ·obtain ⟨b,o,rfl,hcs⟩:=hy.cells (by omega)
  have hl:=hy.len
  rcases hrow with ⟨rfl,rfl⟩ | ⟨g,off,cap,cur,rfl,hg,hcap,hfit,hx⟩
  ·have hown:=World.ownsRow_nil w w.heap.size 52 1
   obtain ⟨v',w',hr,h2,h3,_⟩:=run_append_own (P:=prog) w w.heap.size 209 ty 52 i0 (.int .u64 0) 1 8 underlying209 hi hz0 hz1 hz2 rfl (by decide) _ 0 [] hown ⟨b,o,none⟩ m c (V64 ys) (by simp[hl]) hy.news (ones_u64 ys) (by simp at hlen;omega) (by simp at hlen;omega) (Nat.le_refl _)
   have h2':=Row.own (xs:=ys) (by simpa using h2)
   refine⟨v',w',hr,by simpa using h2'.1,⟨h3.os,h3.tape,h3.output,h3.size,fun k hk _=>h3.block k hk (by simp[Value.ownBlock])⟩,?_⟩
   cases hb:blk v' with
   | none=>exact .inl rfl
   | some g=>exact .inr ⟨g,rfl,h2'.2 g hb⟩
  ·by_cases hroom:xs.length+m≤cap
   ·have hr:=run_append_piece (P:=prog) w 209 ty 52 i0 underlying209 hi hz1 g off xs.length cap cur hg ⟨b,o,none⟩ m c (V64 ys) (by simp[hl]) hy.news (ones_u64 ys) hroom (by simp[hl];omega)
    refine⟨_,_,hr,.inr ⟨g,off,cap,_,by simp[hl],setRow_heap w g cur _ 52 _ hg,by simp[hl];omega,?_,?_⟩,(Kept.setRow w g _).wider (fun x _ e=>by subst e;rfl),.inl rfl⟩
    ·simp[hl];omega
    ·intro i hi'
     have hi2:i<xs.length+m:=by simpa [hl] using hi'
     have hlt:off+xs.length≤cur.toList.length:=by simp;omega
     simp only[List.getElem?_toArray]
     by_cases h1:i<xs.length
     ·rw[List.append_assoc,List.getElem?_append_left (by simp;omega),List.getElem?_take,if_pos (by omega)]
      simp only[Array.getElem?_toList]
      rw[hx i h1]
      simp[List.getD,List.getElem?_append_left h1]
     ·rw[List.append_assoc,List.getElem?_append_right (by simp;omega),List.getElem?_append_left (by simp[hl];omega)]
      simp only[List.length_take,Nat.min_eq_left hlt]
      rw[show off+i-(off+xs.length)=i-xs.length by omega]
      have h3:i-xs.length<ys.length:=by omega
      simp[List.getD,List.getElem?_append_right (Nat.le_of_not_lt h1),h3]
   ·have holds:∀j u,(V64 xs)[j]?=some u→w.cell? ((⟨g,off,none⟩:Addr).add j)=some u:=by
     have hI:UIn w (some ⟨g,off,none⟩) xs.length xs:=⟨rfl,fun _=>⟨g,off,rfl,fun i hi=>by rw[cell_of_row _ g (off+i) cur 52 (0,0) hg];exact hx i hi⟩⟩
     exact hI.news
    obtain ⟨v',w',hr,h2,h3⟩:=run_append_arg_grows (P:=prog) w 209 ty 52 i0 (.int .u64 0) 1 8 underlying209 hi hz0 hz1 hz2 rfl (by decide) ⟨g,off,none⟩ xs.length cap (V64 xs) (by simp) holds ⟨b,o,none⟩ m c (V64 ys) (by simp[hl]) hy.news (by omega) (by omega) (by omega)
    have h2':=Row.own (xs:=xs++ys) (by simpa using h2)
    refine⟨v',w',hr,h2'.1,⟨h3.os,h3.tape,h3.output,h3.size,fun k hk _=>h3.block k hk (by simp)⟩,?_⟩
    cases hb:blk v' with
    | none =>
     obtain ⟨p',c',e,hI,_,hn⟩:=h2'.1.form
     subst e
     cases p' with
     | none=>obtain ⟨_,_,e,_⟩:=hI.cells (by simp[hl];omega);cases e
     | some a=>simp[blk] at hb
    | some g'=>exact .inr ⟨g',rfl,h2'.2 g' hb⟩
theorem wpList_append_row {ops:Array Oper}{rest:List Oper}{o:Oper}{a:Act}{Q:Exit→Act→World→Prop}(hgd:o.guard=none)(s x:Operand)
  (ho:o.op=.call { callee:=.builtin .append,args:=#[s,x],argTypes:=#[209,209] })
  (v:Value) (xs:List Int) (hs:a.eval s=v) (hrow:Row w v xs) (p:Option Addr) (m c:Nat) (ys:List Int) (hx:a.eval x=.slice p m c) (hy:UIn w p m ys) (hlen:xs.length+m≤100000)
  (h:∀v' w',Row w' v' (xs++ys)→Kept (fun b=>blk v=some b) w w'→(blk v'=blk v∨∃g,blk v'=some g∧w.heap.size≤g)→wpList prog ops Q rest (a.put o.dst v') w'):wpList prog ops Q (o :: rest) a w:=by
 refine wpList_plain hgd fun K hK=>?_
 obtain ⟨v',w',hr,h2,h3,h4⟩:=run_append_row w o.type v xs hrow p m c ys hy hlen
 unfold Oper.wp
 simp[execOp,ho,resolve,invoke,builtin,hs,hx,hr,Result.andThen]
 exact hK _ _ (h v' w' h2 h3 h4)
end
structure QAt (ty:TypeId) (w:World) (Q:Nat) (v:Value) (xs:List Int) (m:Int):Prop where
 st:w.heap[Q]?=some (.cells #[v,.int .u64 m] ty (0,0))
 row:Row w v xs
variable {ty:TypeId} {w w':World} {Q:Nat} {v:Value} {xs:List Int} {m:Int}
theorem QAt.lt (h:QAt ty w Q v xs m):Q<w.heap.size:=(Array.getElem?_eq_some_iff.1 h.st).1
theorem QAt.c0 (h:QAt ty w Q v xs m):w.cell? ⟨Q,0,none⟩=some v:=by rw[cell_of_row _ Q 0 _ ty (0,0) h.st];rfl
theorem QAt.c1 (h:QAt ty w Q v xs m):w.cell? ⟨Q,1,none⟩=some (.int .u64 m):=by rw[cell_of_row _ Q 1 _ ty (0,0) h.st];rfl
theorem QAt.ne (h:QAt ty w Q v xs m)(ht:ty≠52){g:Nat}(hg:blk v=some g):g≠Q:=by
 obtain ⟨cur,hc⟩:=h.row.typ hg
 rintro rfl
 rw[h.st] at hc
 simp at hc
 exact ht hc.2
theorem QAt.far {S:Nat→Prop}(h:QAt ty w Q v xs m)(hk:Kept S w w')(hQ:¬S Q)(hS:∀g,blk v=some g→¬S g):QAt ty w' Q v xs m:=⟨(hk.block Q h.lt hQ).trans h.st,h.row.far hk hS⟩
theorem QAt.later (h:QAt ty w Q v xs m)(hb:Below w.heap.size w w'):QAt ty w' Q v xs m:=⟨(hb.block Q h.lt).trans h.st,h.row.later hb⟩
theorem QAt.set0 (h:w.heap[Q]?=some (.cells #[v,.int .u64 m] ty (0,0))){v':Value}{ys:List Int}(hr:Row w v' ys)(hne:∀g,blk v'=some g→g≠Q):QAt ty (w.setCell ⟨Q,0,none⟩ v') Q v' ys m:=by
 refine⟨?_,hr.far (Kept.setCell Q 0 v') hne⟩
 rw[setCell_eq_setRow w Q 0 _ ty (0,0) v' h]
 exact setRow_heap w Q _ _ ty _ h
theorem QAt.set1 (h:QAt ty w Q v xs m)(ht:ty≠52)(t:Int):QAt ty (w.setCell ⟨Q,1,none⟩ (.int .u64 t)) Q v xs t:=by
 refine⟨?_,h.row.far (Kept.setCell Q 1 _) fun g hg=>h.ne ht hg⟩
 rw[setCell_eq_setRow w Q 1 _ ty (0,0) _ h.st]
 exact setRow_heap w Q _ _ ty _ h.st
theorem QAt.new (w:World)(ty:TypeId){v:Value}{xs:List Int}{m:Int}(hr:Row w v xs):QAt ty (w.alloc (.cells #[v,.int .u64 m] ty)) w.heap.size v xs m:=⟨heap_alloc_new w _,hr.later (below_alloc w _)⟩
abbrev qp (Q:Nat):Value:=.pointer (some ⟨Q,0,none⟩)
theorem one_in (w:World)(t:Int):UIn (w.alloc (.cells #[.int .u64 t] 52)) (some ⟨w.heap.size,0,none⟩) 1 [t]:=by
 refine⟨rfl,fun _=>⟨_,0,rfl,fun i hi=>?_⟩⟩
 obtain rfl:i=0:=by omega
 rw[cell_of_row _ w.heap.size 0 _ 52 (0,0) (heap_alloc_new w _)]
 rfl
theorem len_at {w:World}{Q:Nat}{v:Value}{xs:List Int}{m:Int}(h:QAt 211 w Q v xs m):Calls prog 200 #[qp Q] w fun e w'=>e=.returned (.int .i64 xs.length)∧w=w':=by
 obtain ⟨p,c,rfl,_,_⟩:=h.row.form
 have c0:=h.c0
 clear h
 go_enter func200,ntmps200
 go_wp2
 go_ret
 exact⟨rfl,rfl⟩
theorem first_some {w:World}{Q:Nat}{v:Value}{x:Int}{xs:List Int}{m:Int}(h:QAt 211 w Q v (x :: xs) m):Calls prog 155 #[qp Q] w fun e w'=>e=.returned (.tuple #[.int .u64 x,.bool true])∧w=w':=by
 have H:Hid (QAt 211 w Q v (x :: xs) m):=h
 obtain ⟨p,c,rfl,hI,_⟩:=h.row.form
 obtain ⟨b,o,rfl,hc⟩:=hI.cells (by simp)
 have cx:w.cell? ⟨b,o,none⟩=some (.int .u64 x):=by have:=hc 0 (by simp);simpa using this
 have c0:=h.c0
 have hz:(((x :: xs).length:Int) == 0)=false:=by simp;omega
 have hp:0<(x :: xs).length:=by simp
 clear h hc hI
 generalize (x :: xs).length=n at *
 go_enter func155,ntmps155
 go_wp2_with (go_at_call 200;refine (len_at H.out).mono ?_;rintro e w' ⟨rfl,rfl⟩)
 go_ret2
 exact⟨rfl,rfl⟩
theorem Row.shape {w:World}{v:Value}{xs:List Int}(h:Row w v xs):∃p n c,v=.slice p n c:=by
 obtain ⟨p,c,e,_⟩:=h.form
 exact⟨_,_,_,e⟩
theorem step_copy_kept {P:Program}{ops:Array Oper}{o:Oper}{a:Act}{w:World}{K:Act→World→Prop}{Q:Exit→Act→World→Prop}{E:Prop}(hgd:o.guard=none)(d s:Operand)(dT sT:TypeId)
  (ho:o.op=.call { callee:=.builtin .copy,args:=#[d,s],argTypes:=#[dT,sT] }) (elem:TypeId) (hu:P.underlying dT=some (.slice elem)) (hsz:(P.info? elem).map (·.size)=some 1)
  (dp sp:Option Addr) (dLen dCap sLen sCap:Nat) (hd:a.eval d=.slice dp dLen dCap) (hs:a.eval s=.slice sp sLen sCap)
  (g off:Nat) (cur:Array Value) (t:TypeId) (hg:w.heap[g]?=some (.cells cur t (0,0))) (cs:List Value) (hn:cs.length=Nat.min sLen dLen)
  (hpos:0<cs.length→dp=some ⟨g,off,none⟩∧∃ad,sp=some ad∧∀j v,cs[j]?=some v→w.cell? (ad.add j)=some v)
  (hfit:off+cs.length≤cur.size) (h1:∀v∈cs,v.oneCell'=true)
  (h:∀w',Hid (w'.heap[g]?=some (.cells (cur.toList.take off++cs++cur.toList.drop (off+cs.length)).toArray t (0,0)))→Kept (·=g) w w'→K (a.put o.dst (goInt cs.length)) w') :
  if Region.wanted o (yielded ops a.tmps)=true then Oper.wp P o a w K Q else E:=by
 have hw:Region.wanted o (yielded ops a.tmps)=true:=by simp[Region.wanted,hgd]
 rw[if_pos hw]
 by_cases h0:cs.length=0
 ·obtain rfl:cs=[]:=List.eq_nil_of_length_eq_zero h0
  have hrun:=run_copy_none (P:=P) w dT sT o.type elem dp sp dLen dCap sLen sCap hu hsz (by simpa using hn.symm)
  unfold Oper.wp
  simp[execOp,ho,resolve,invoke,builtin,hd,hs,hrun,Result.andThen]
  exact h w (show _=_ by simpa using hg) (Kept.refl _ _)
 ·obtain ⟨rfl,ad,rfl,hsrc⟩:=hpos (by omega)
  have hrun:=run_copy_row (P:=P) w dT sT o.type elem g off dLen dCap ad sLen sCap cur t cs hu hsz hg hn hsrc hfit h1
  unfold Oper.wp
  simp[execOp,ho,resolve,invoke,builtin,hd,hs,hrun,Result.andThen]
  exact h _ (show _=_ by simpa using setRow_heap w g _ _ t _ hg) (Kept.setRow _ _ _)
theorem leave_row {w':World}{g o cap k:Nat}{cur:Array Value}{xs:List Int}(hk:k<xs.length)(hcap:xs.length≤cap)(hfit:o+cap≤cur.size)(hx:∀i,i<xs.length→cur[o+i]?=some (.int .u64 (xs.getD i 0)))
  (hg:w'.heap[g]?=some (.cells (cur.toList.take (o+1)++V64 (xs.take k)++cur.toList.drop (o+1+(V64 (xs.take k)).length)).toArray 52 (0,0))) :
  Row w' (.slice (some ⟨g,if cap=1 then o else o+1,none⟩) (xs.length-1) (cap-1)) (xs.eraseIdx k):=by
 have hl:(xs.eraseIdx k).length=xs.length-1:=List.length_eraseIdx_of_lt hk
 have hlk:(V64 (xs.take k)).length=k:=by simp;omega
 refine .inr ⟨g,_,cap-1,_,by rw[hl],hg,by omega,?_,?_⟩
 ·simp;split <;> omega
 ·intro i hi
  have h1:¬cap=1:=by omega
  rw[if_neg h1,leave_at]
  have hlt:o+1≤cur.toList.length:=by simp;omega
  simp only[List.getElem?_toArray,List.append_assoc]
  rw[List.getElem?_append_right (by simp;omega),List.length_take,Nat.min_eq_left hlt,show o+1+i-(o+1)=i by omega]
  by_cases hik:i<k
  ·rw[if_pos hik,List.getElem?_append_left (by omega)]
   simp[hik,List.getD,List.getElem?_eq_getElem (show i<xs.length by omega)]
  ·rw[if_neg hik,List.getElem?_append_right (by omega),hlk,List.getElem?_drop,Array.getElem?_toList,show o+1+k+(i-k)=o+(i+1) by omega]
   exact hx (i+1) (by omega)
theorem leave_at_k {w:World}{Q:Nat}{v:Value}{xs:List Int}{m:Int}(h:QAt 211 w Q v xs m)(k:Nat)(hk:k<xs.length)(hn:xs.length≤100000) :
  Calls prog 156 #[qp Q,.int .i64 k] w fun e w'=>e=.returned (.tuple #[])∧∃v',QAt 211 w' Q v' (xs.eraseIdx k) m∧blk v'=blk v∧Kept (fun b=>b=Q∨blk v=some b) w w':=by
 rcases h.row with ⟨rfl,rfl⟩ | ⟨g,o,cap,cur,rfl,hg,hcap,hfit,hx⟩
 ·simp at hk
 have H:Hid (QAt 211 w Q (.slice (some ⟨g,o,none⟩) xs.length cap) xs m):=h
 have HG:Hid (w.heap[g]?=some (.cells cur 52 (0,0))):=hg
 have HX:Hid (∀i,i<xs.length→cur[o+i]?=some (.int .u64 (xs.getD i 0))):=hx
 have HF:Hid (o+cap≤cur.size):=hfit
 have hqn:Hid (g≠Q):=h.ne (by decide) rfl
 have c0:=h.c0
 have hk1:IntKind.i64.wrap ((k:Int)+1)=(k:Int)+1:=by rw[IntKind.wrap_i64];omega
 have n1:(k:Int)+1≤(cap:Int):=by omega
 have n2:(1:Int)≤(k:Int)+1:=by omega
 have n3:(k:Int)≤(cap:Int):=by omega
 have n4:(1:Int)≤(xs.length:Int):=by omega
 have hks:=hk
 clear h hg hx hfit
 go_enter func156,ntmps156
 go_wp2_with fail
 refine wp_region_noPanic ?_
 refine wp_region_held_drew (S:=fun w'=>w'.cell? ⟨Q,0,none⟩=some (.slice (some ⟨g,o,none⟩) xs.length cap)) (by kernel_rfl) c0 (fun hHeld=>?_)
 have D2:Hid (Below w.heap.size w w.drew):=below_drawn 1
 generalize w.drew=wd at *
 refine tk 0 hHeld ?_
 refine tk 1 hHeld ?_
 refine tk 2 hHeld ?_
 refine tkl 3 hHeld (fun _ hSw=>hSw) ?_
 refine tk 4 hHeld ?_
 refine tk 5 hHeld ?_
 refine tk 6 hHeld ?_
 refine tk 7 hHeld ?_
 refine tk 8 hHeld ?_
 refine tk 9 hHeld ?_
 refine tkl 10 hHeld (fun _ hSw=>hSw) ?_
 refine tk 11 hHeld ?_
 refine tk 12 hHeld ?_
 refine wpAnyH_ready (rs:=[13]) (by kernel_rfl) (by simp) ?_
 refine AllReadyH.cons (by simp;rfl) (fun Kc hKc=>?_) AllReadyH.nil
 have hgd:wd.heap[g]?=some (.cells cur 52 (0,0)):=(D2.out.block g (H.out.row.lt rfl)).trans HG.out
 have hsrc:∀j u,(V64 (xs.take k))[j]?=some u→wd.cell? ((⟨g,o,none⟩:Addr).add j)=some u:=by
  intro j u hj
  have hjk:j<k:=by have:=(List.getElem?_eq_some_iff.1 hj).1;simp at this;omega
  rw[Addr.add_lit,cell_of_row _ g _ cur 52 (0,0) hgd,HX.out j (by omega),← hj]
  simp[hjk,List.getD,List.getElem?_eq_getElem (show j<xs.length by omega)]
 have hlk:(V64 (xs.take k)).length=k:=by simp;omega
 refine step_copy_kept rfl (.tmp 10) (.tmp 16) 209 209 rfl 52 underlying209 size26 _ _ k (cap-1) k cap rfl rfl g (o+1) cur 52 hgd (V64 (xs.take k)) (by rw[hlk];simp) (fun h0=>⟨if_neg (by omega),_,rfl,hsrc⟩) (by rw[hlk];have:=HF.out;omega) (ones_u64 _) ?_
 intro w3 hg3 hk3
 have K3:Hid (Kept (·=g) wd w3):=hk3
 have HR:Hid (Row w3 (.slice (some ⟨g,if cap=1 then o else o+1,none⟩) (xs.length-1) (cap-1)) (xs.eraseIdx k)):=leave_row hk hcap HF.out HX.out hg3.out
 have HQ:Hid (w3.heap[Q]?=some (.cells #[.slice (some ⟨g,o,none⟩) xs.length cap,.int .u64 m] 211 (0,0))):=(hk3.block Q (Nat.lt_of_lt_of_le H.out.lt D2.out.size) (fun e=>hqn.out e.symm)).trans ((D2.out.block Q H.out.lt).trans H.out.st)
 have c3:w3.cell? ⟨Q,0,none⟩=some (.slice (some ⟨g,o,none⟩) xs.length cap):=by rw[cell_of_row _ Q 0 _ 211 (0,0) HQ.out];rfl
 have f3:w3.frozen? ⟨Q,0,none⟩=false:=by simp[World.frozen?,HQ.out]
 clear hsrc hk3 hg3 hlk hgd
 refine hKc.out _ _ c3 (fun hHeld=>?_)
 clear hKc Kc hHeld c0
 refine wpAnyH_done (by kernel_rfl) (NoPanic.normal ?_) _
 have HK:Hid (∀u,Kept (fun b=>b=Q∨g=b) w (w3.setCell ⟨Q,0,none⟩ u)):=fun u=>((Kept.of_below (fun b=>b=Q∨g=b) D2.out).trans K3.out (fun x _ e=>.inr e.symm)).trans (Kept.setCell Q 0 u) (fun x _ e=>.inl e)
 by_cases hc1:cap=1
 ·have HR1:Hid (Row w3 (.slice (some ⟨g,o,none⟩) 0 0) (xs.eraseIdx k)):=by have:=HR.out;rw[if_pos hc1,hc1,show xs.length-1=0 by omega] at this;exact this
  subst hc1
  clear HR
  go_wp2_with fail
  go_end0
  exact⟨rfl,_,QAt.set0 HQ.out HR1.out (fun g' e=>by cases e;exact hqn.out),rfl,(HK.out _).wider fun x _ e=>or_id e fun e=>by rw[e];rfl⟩
 ·have HR1:Hid (Row w3 (.slice (some ⟨g,o+1,none⟩) (xs.length-1) (cap-1)) (xs.eraseIdx k)):=by have:=HR.out;rw[if_neg hc1] at this;exact this
  clear HR
  go_wp2_with fail
  go_end0
  exact⟨rfl,_,QAt.set0 HQ.out HR1.out (fun g' e=>by cases e;exact hqn.out),rfl,(HK.out _).wider fun x _ e=>or_id e fun e=>by rw[e];rfl⟩
theorem put_high {w:World}{Q:Nat}{v:Value}{xs:List Int}{m:Int}(h:QAt 211 w Q v xs m)(t:Int)(ht:¬t≤m)(hn:xs.length<100000) :
  Calls prog 86 #[qp Q,.int .u64 t] w fun e w'=>e=.returned (.int .i64 0)∧∃v',QAt 211 w' Q v' (xs++[t]) t∧Kept (fun b=>b=Q∨blk v=some b) w w'∧(blk v'=blk v∨∃g,blk v'=some g∧w.heap.size≤g):=by
 have H:Hid (QAt 211 w Q v xs m):=h
 have c0:=h.c0
 have c1:=h.c1
 have hd:=decide_eq_false ht
 clear h
 go_enter func86,ntmps86
 go_wp2_with (at_builtin;refine wpList_append_row _ rfl (.tmp 17) (.tmp 19) rfl v xs rfl (H.out.row.later (below_alloc w _)) (some ⟨w.heap.size,0,none⟩) 1 1 [t] rfl (one_in w t) (by omega) ?_;intro v2 w2 r2 k2 b2;obtain ⟨p2,n2,cc2,hv2⟩:=r2.shape;have R2:Hid (Row w2 v2 (xs++[t])):=r2;have K2:Hid (Kept (fun b=>blk v=some b) (w.alloc (.cells #[.int .u64 t] 52)) w2):=k2;have B2:Hid (blk v2=blk v∨∃g,blk v2=some g∧(w.alloc (.cells #[.int .u64 t] 52)).heap.size≤g):=b2;have HQ:Hid (w2.heap[Q]?=some (.cells #[v,.int .u64 m] 211 (0,0))):=(k2.block Q (by have:=H.out.lt;simp;omega) (fun e=>H.out.ne (by decide) e rfl)).trans (((below_alloc w (.cells #[.int .u64 t] 52)).block Q H.out.lt).trans H.out.st);have f2:w2.frozen? ⟨Q,0,none⟩=false:=(by simp[World.frozen?,HQ.out]);have c2:w2.cell? ⟨Q,0,none⟩=some v:=(by rw[cell_of_row _ Q 0 _ 211 (0,0) HQ.out];rfl);have f3:w2.frozen? ⟨Q,1,none⟩=false:=(by simp[World.frozen?,HQ.out]);have c3:w2.cell? ⟨Q,1,none⟩=some (.int .u64 m):=(by rw[cell_of_row _ Q 1 _ 211 (0,0) HQ.out];rfl);clear r2 k2 b2;subst hv2)
 go_ret
 have hne:∀g,blk (.slice p2 n2 cc2)=some g→g≠Q:=fun g hg=>by
  have hl:=H.out.lt
  rcases B2.out with e | ⟨g',e,hg'⟩
  ·rw[e] at hg;exact H.out.ne (by decide) hg
  ·rw[e] at hg;simp at hg hg';omega
 have h1:=QAt.set1 (QAt.set0 HQ.out R2.out hne) (by decide) t
 refine⟨rfl,_,h1,?_,?_⟩
 ·refine (((Kept.of_below (fun b=>b=Q∨blk v=some b) (below_alloc w (.cells #[.int .u64 t] 52))).trans K2.out (fun x _ e=>.inr e)).trans (Kept.setCell Q 0 _) (fun x _ e=>.inl e)).trans (Kept.setCell Q 1 _) (fun x _ e=>.inl e)
 ·rcases B2.out with e | ⟨g',e,hg'⟩
  ·exact .inl e
  ·exact .inr ⟨g',e,by simp at hg';omega⟩
open Go.Shelf
attribute [local go_sem] Oper.semAt_some
abbrev seqV (B:Nat):Value:=.func (.func 221) #[] #[.pointer (some ⟨B,0,none⟩)]
theorem all_is (p:Option Addr)(w:World) :
  Calls prog 199 #[.pointer p] w fun e w'=>e=.returned (seqV w.heap.size)∧w'=w.alloc (.cells #[.pointer p] 111):=by
 go_enter func199,ntmps199
 go_wp2
 go_ret
 exact⟨rfl,rfl⟩
theorem all1_in (F:Fence)(n:Nat)(h7:F.fn 221)(hro:F.round=none)(hn:1≤n)(l B Q n₀ b off len cap:Nat)(zs:List Int)(hzs:zs.length=len)(hreach:len≤17592186044416)(hb:b<n₀)(J Jx:List Int→World→Prop)
  (hY:∀pre x W,x∈zs→J pre W→pre.length<len→YieldAt F (n-1) prog l #[.int .u64 x] W fun e W' =>
   (e=.returned (.bool true)∧J (pre++[x]) W'∧Below n₀ W W')∨(e=.returned (.bool false)∧Jx (pre++[x]) W'))
  (W:World) (hB:W.cell? ⟨B,0,none⟩=some (.pointer (some ⟨Q,0,none⟩))) (hQ:W.cell? ⟨Q,0,none⟩=some (.slice (some ⟨b,off,none⟩) len cap)) (hc:∀j,j<len→W.cell? ⟨b,off+j,none⟩=some (.int .u64 (zs.getD j 0))) (h0:J [] W) :
  CallsIn F n prog 221 #[.func (.yield l) #[] #[],.pointer (some ⟨B,0,none⟩)] W fun e W'=>(∃v,e=.returned v) ∧
   ((∃ys,ys=zs∧J ys W')∨(∃pre,pre <+: zs∧Jx pre W')):=by
 refine callsIn_of_wp func221 rfl h7 ?_ hro
 simp only[ntmps221,List.size_toArray,List.length_cons,List.length_nil,Nat.reduceAdd,Nat.reduceSub,Array.replicate_succ,Array.replicate_zero,List.push_toArray,List.append_toArray,List.nil_append,List.cons_append]
 gi_wp2
 gi_loopw [12] (fun i wr=>∃k:Nat,k≤len∧i=.int .i64 k∧J (upto zs k) wr∧Below n₀ W wr)
  (fun i _=>len-(intOf i).toNat)
 case atStart=>exact⟨0,Nat.zero_le _,rfl,h0,Below.refl _ _⟩
 case round =>
  obtain ⟨k,hk,rfl,hJs,hnx⟩:=hrel
  have hcx:k<len→wr.cell? ⟨b,off+k,none⟩=some (.int .u64 (zs.getD k 0)):=fun h=>(hnx.cell (p:=⟨b,off+k,none⟩) hb).trans (hc k h)
  by_cases hlt:k<len
  ·obtain ⟨fn,tmps,assign,body,hy,hR⟩:=hY _ (zs.getD k 0) wr (by rw[List.getD,List.getElem?_eq_getElem (by omega)];exact List.getElem_mem _) hJs (by rw[upto_length];exact hlt)
   have hcx':=hcx hlt
   have HS:Hid (upto zs (k+1)=upto zs k++[zs.getD k 0]):=upto_succ zs k
   have HP:Hid (upto zs (k+1) <+: zs):=by show _ <+: _;rw[upto_take zs _ (by omega)];exact List.take_prefix _ _
   clear hcx hc
   generalize zs.getD k 0=x at *
   gi_wp2
   refine hR.mono ?_
   rintro e W3 (⟨rfl,hJ3,hk3⟩ | ⟨rfl,hJx3⟩)
   ·gi_wp2
    go_roundw
    case rel=>exact⟨k+1,by omega,by simp,by rw[HS.out];exact hJ3,hnx.trans hk3⟩
    case measure=>simp[intOf];omega
   ·gi_wp2
    refine bodyPost_ret (results_none rfl _ _ _) rfl ?_
    exact⟨⟨_,rfl⟩,.inr ⟨_,by rw[← HS.out];exact HP.out,hJx3⟩⟩
  ·obtain rfl:k=len:=by omega
   gi_wp2
   go_end0
   exact⟨⟨_,rfl⟩,.inl ⟨_,by rw[← hzs];exact upto_all zs,hJs⟩⟩
theorem all1_zero_in (F:Fence)(n:Nat)(h7:F.fn 221)(hro:F.round=none)(l B Q:Nat)(p:Option Addr)(cap:Nat)(J:List Int→World→Prop)(W:World)(hB:W.cell? ⟨B,0,none⟩=some (.pointer (some ⟨Q,0,none⟩)))(hQ:W.cell? ⟨Q,0,none⟩=some (.slice p 0 cap))(h0:J [] W) :
  CallsIn F n prog 221 #[.func (.yield l) #[] #[],.pointer (some ⟨B,0,none⟩)] W fun e W'=>(∃v,e=.returned v)∧J [] W':=by
 refine callsIn_of_wp func221 rfl h7 ?_ hro
 simp only[ntmps221,List.size_toArray,List.length_cons,List.length_nil,Nat.reduceAdd,Nat.reduceSub,Array.replicate_succ,Array.replicate_zero,List.push_toArray,List.append_toArray,List.nil_append,List.cons_append]
 gi_wp2
 gi_loopw [12] (fun i wr=>i=.int .i64 0∧J [] wr) (fun _ _=>0)
 case atStart=>exact⟨rfl,h0⟩
 case round =>
  obtain ⟨rfl,hJs⟩:=hrel
  gi_wp2
  go_end0
  exact⟨⟨_,rfl⟩,hJs⟩
theorem all1_nil_in (F:Fence)(n:Nat)(h7:F.fn 221)(hro:F.round=none)(l B:Nat)(J:List Int→World→Prop)(W:World)(hB:W.cell? ⟨B,0,none⟩=some (.pointer none))(h0:J [] W) :
  CallsIn F n prog 221 #[.func (.yield l) #[] #[],.pointer (some ⟨B,0,none⟩)] W fun e W'=>(∃v,e=.returned v)∧J [] W':=by
 refine callsIn_of_wp func221 rfl h7 ?_ hro
 simp only[ntmps221,List.size_toArray,List.length_cons,List.length_nil,Nat.reduceAdd,Nat.reduceSub,Array.replicate_succ,Array.replicate_zero,List.push_toArray,List.append_toArray,List.nil_append,List.cons_append]
 gi_wp2
 refine bodyPost_ret (results_none rfl _ _ _) rfl ?_
 exact⟨⟨_,rfl⟩,h0⟩
def Stands (w:World)(p:Option Addr)(zs:List Int):Prop:=(p=none∧zs=[])∨∃Q v m,p=some ⟨Q,0,none⟩∧QAt 211 w Q v zs m
theorem Stands.later {w w':World}{p:Option Addr}{zs:List Int}(h:Stands w p zs)(hb:Below w.heap.size w w'):Stands w' p zs:=by
 rcases h with h | ⟨Q,v,m,rfl,h⟩
 ·exact .inl h
 ·exact .inr ⟨Q,v,m,rfl,h.later hb⟩
theorem all_stops (F:Fence)(n:Nat)(h7:F.fn 221)(hro:F.round=none)(hn:1≤n)(B n₀:Nat)(p:Option Addr)(zs:List Int)(hreach:zs.length≤100000)(w w₀:World)(hB:B<w.heap.size)(hn₀:n₀≤w.heap.size)(hw₀:Below n₀ w₀ w)(hz₀:w₀.heap.size=n₀)
  (hc:w.cell? ⟨B,0,none⟩=some (.pointer p)) (hS:Stands w₀ p zs) :
  SeqStopsK F n prog 221 #[.pointer (some ⟨B,0,none⟩)] (fun x:Int=>#[Value.int .u64 x]) (Below n₀) (fun ys=>ys=zs) (fun pre=>pre <+: zs) zs.length w:=fun l J Jx W hW _ _ hY h0=>by
 have hc':=(hW.cell (p:=⟨B,0,none⟩) hB).trans hc
 subst hz₀
 have hb0:Below w₀.heap.size w₀ W:=hw₀.trans (hW.mono hn₀)
 rcases hS.later hb0 with ⟨rfl,rfl⟩ | ⟨Q,v,m,rfl,hQ⟩
 ·exact (all1_nil_in F n h7 hro l B J W hc' h0).mono fun e W' ⟨he,hj⟩=>⟨he,.inl ⟨_,rfl,hj⟩⟩
 have hlt:∀g,blk v=some g→g<w₀.heap.size:=by
  rcases hS with ⟨h,_⟩ | ⟨Q',v',m',e,hQ'⟩
  ·cases h
  ·simp only[Option.some.injEq,Addr.mk.injEq,and_true] at e
   subst e
   intro g hg
   have e2:=(hb0.block Q hQ'.lt).trans hQ'.st
   rw[hQ.st] at e2
   simp at e2
   rw[e2.1] at hg
   exact hQ'.row.lt hg
 obtain ⟨q,c,rfl,hI,_⟩:=hQ.row.form
 by_cases hp:0<zs.length
 ·obtain ⟨b,off,rfl,hcs⟩:=hI.cells hp
  exact all1_in F n h7 hro hn l B Q w₀.heap.size b off zs.length c zs rfl (by omega) (hlt b rfl) J Jx (fun pre x W _=>hY pre x W) W hc' hQ.c0 hcs h0
 ·obtain rfl:zs=[]:=List.eq_nil_of_length_eq_zero (by omega)
  exact (all1_zero_in F n h7 hro l B Q q c J W hc' hQ.c0 h0).mono fun e W' ⟨he,hj⟩=>⟨he,.inl ⟨_,rfl,hj⟩⟩
end Go.Proofs.YtcdjepkhdjpjcaaGreatDoor.E
namespace Go.Proofs.YtcdjepkhdjpjcaaGreatDoor.E
open Go.Proofs.Tryz
open Go.RowKit Go.Shelf
attribute [local go_sem] Oper.semAt_some
theorem results_one {fn:Func}{p:Tmp}{ty:TypeId}{d:TypeDesc}(h:fn.results=#[.cell p ty])(hu:prog.underlying ty=some d)(hd:d.isRow=false)(tmps:Array Value)(w:World)(g:Nat)(v:Value)
  (hp:tmps.getD p undef=.pointer (some ⟨g,0,none⟩)) (hc:w.cell? ⟨g,0,none⟩=some v):(results fn tmps).run prog w=.ok v w:=by
 have hp':tmps[p]?.getD undef=.pointer (some ⟨g,0,none⟩):=by simpa using hp
 have hagg:(isAgg ty).run prog w=.ok false w:=by
  unfold isAgg
  rw[Sem.run_bind,run_underlying hu w]
  cases d <;> simp_all
 simp[results,h,hp',asAddr,loadVar,Sem.run_bind,hagg,go_sem,hc]
theorem place_any (p:Option Addr)(t:Int)(zs:List Int)(w:World)(hS:Stands w p zs)(hn:zs.length≤100000) :
  Calls prog 205 #[.pointer p,.int .u64 t] w fun e' w'=>e'=.returned (.int .i64 (place zs t))∧Below w.heap.size w w':=by
 refine (callsIn_wide (n:=9)).1 ?_
 refine callsIn_of_wp_marks func205 rfl trivial ?_ rfl
 simp only[ntmps205,List.size_toArray,List.length_cons,List.length_nil,Nat.reduceAdd,Nat.reduceSub,Array.replicate_succ,Array.replicate_zero,List.push_toArray,List.append_toArray,List.nil_append,List.cons_append]
 gi_wp2_with (first | (refine⟨trivial,?_⟩;gi_at_call 199;refine (callsIn_wide.2 (all_is _ _)).mono ?_;rintro e w' ⟨rfl,rfl⟩))
 have bT:=(((Boxed.new w 52 (.int .u64 t)).alloc (.cells #[.int .i64 0] 3)).alloc (.cells #[.int .i64 0] 3)).alloc (.cells #[.pointer p] 111)
 have bR:=((Boxed.new (w.alloc (.cells #[.int .u64 t] 52)) 3 (.int .i64 0)).alloc (.cells #[.int .i64 0] 3)).alloc (.cells #[.pointer p] 111)
 have bA:=(Boxed.new ((w.alloc (.cells #[.int .u64 t] 52)).alloc (.cells #[.int .i64 0] 3)) 3 (.int .i64 0)).alloc (.cells #[.pointer p] 111)
 have bB:=Boxed.new (((w.alloc (.cells #[.int .u64 t] 52)).alloc (.cells #[.int .i64 0] 3)).alloc (.cells #[.int .i64 0] 3)) 111 (.pointer p)
 simp only[World.size_alloc] at bT bR bA bB
 have hB0:Below w.heap.size w ((((w.alloc (.cells #[.int .u64 t] 52)).alloc (.cells #[.int .i64 0] 3)).alloc (.cells #[.int .i64 0] 3)).alloc (.cells #[.pointer p] 111)):=((((Below.refl _ w).alloc (Nat.le_refl _) _).alloc (by simp) _).alloc (by simp;omega) _).alloc (by simp;omega) _
 have hsz:((((w.alloc (.cells #[.int .u64 t] 52)).alloc (.cells #[.int .i64 0] 3)).alloc (.cells #[.int .i64 0] 3)).alloc (.cells #[.pointer p] 111)).heap.size=w.heap.size+4:=by simp
 obtain ⟨W0,hW0⟩:∃W0,((((w.alloc (.cells #[.int .u64 t] 52)).alloc (.cells #[.int .i64 0] 3)).alloc (.cells #[.int .i64 0] 3)).alloc (.cells #[.pointer p] 111))=W0:=⟨_,rfl⟩
 rw[hW0] at bT bR bA bB hB0 hsz ⊢
 clear hW0
 refine wpIn_rangeFunc_ownG (F:=Fence.wide) (n:=9) (P:=prog) rfl (by decide) (gf:=221) (lb:=#[.pointer (some ⟨w.heap.size+1+1+1,0,none⟩)]) rfl trivial (enters_of func221 (by kernel_rfl) rfl)
  (all_stops Fence.wide (9-1) trivial rfl (by decide) (w.heap.size+1+1+1) w.heap.size p zs hn W0 w (by omega) (by omega) hB0 rfl bB.cell hS) belowK_t (belowK_b (by omega)) (Below.refl _ _) (fun _=>rfl)
  (fun pre W=>(((t ∉ pre)∧(∃y:Value,Boxed W (w.heap.size+1) 3 y))∧(Boxed W w.heap.size 52 (.int .u64 t)∧Boxed W (w.heap.size+1+1) 3 (.int .i64 pre.length)))∧Below w.heap.size w W)
  (fun c pre W=>((c=.ret)∧(∃(pre':List Int),(pre=pre' ++ [t]∧t ∉ pre')∧Boxed W (w.heap.size+1) 3 (.int .i64 pre'.length)))∧Below w.heap.size w W)
  (OwnFrom.and (OwnFrom.and (OwnFrom.and (ownFrom_pure _ _) (fun _ X Y row hs hg hr=>by obtain ⟨y,hy⟩:=hs;exact⟨y,boxed_own (w.heap.size+1) 3 (fun (_:Unit)=>y) () X Y row hy hg (fun r e=>(hr r e).2)⟩)) (OwnFrom.and (Own.from (boxed_own _ _ _) _) (Own.from (boxed_own (w.heap.size+1+1) 3 (fun pre:List Int=>Value.int .i64 pre.length)) _))) (ownFrom_below (Nat.le_refl _) (by omega)))
  (fun c=>OwnFrom.and (OwnFrom.and (ownFrom_pure _ _) (fun _ X Y row hs hg hr=>by obtain ⟨pre',hp,hy⟩:=hs;exact⟨pre',hp,boxed_own (w.heap.size+1) 3 (fun (_:Unit)=>Value.int .i64 pre'.length) () X Y row hy hg (fun r e=>(hr r e).2)⟩)) (ownFrom_below (Nat.le_refl _) (by omega)))
  ⟨⟨⟨by simp,_,bR⟩,bT,bA⟩,hB0⟩
  (fun x=>{ tmps:=#[.pointer p,.int .u64 t,undef,.pointer (some ⟨w.heap.size,0,none⟩),.pointer (some ⟨w.heap.size+1,0,none⟩),.pointer (some ⟨w.heap.size+1+1,0,none⟩),.int .u64 x,.pointer p,seqV (w.heap.size+1+1+1),.int .u64 x,undef,undef,undef,undef,undef,undef],defers:=[] }) ?assign ?body ?done ?stop
 case assign =>
  intro l x W K hK
  gi_wp2
  exact hK
 case body =>
  rintro l pre x W ⟨⟨⟨hp,y,hy⟩,bT1,bA1⟩,hB1⟩ hlt
  have cT:=bT1.cell
  have cA:=bA1.cell
  have fA:=bA1.frozen
  have cR:=hy.cell
  have fR:=hy.frozen
  have hlt':pre.length<100000:=by omega
  cases hz:(x == t)
  ·have HP:Hid (t ∉ pre++[x]):=fun h=>(List.mem_append.1 h).elim hp (fun e=>by simp at e;subst e;simp at hz)
   have hw:IntKind.i64.wrap ((pre.length:Int)+1)=(pre.length:Int)+1:=by rw[IntKind.wrap_i64];omega
   clear hp
   gi_wp2
   refine⟨(KeepsOthers.setCell _ _ _).from _,(Below.refl _ _).setCell (p:=⟨w.heap.size+1+1,0,none⟩) (by simp;omega) _,⟨⟨HP.out,_,hy.other (by omega) _⟩,bT1.other (by omega) _,?_⟩,hB1.setCell (p:=⟨w.heap.size+1+1,0,none⟩) (by simp;omega) _⟩
   have:=bA1.set (.int .i64 ((pre.length:Int)+1))
   simpa using this
  ·obtain rfl:x=t:=by simpa using hz
   have HP:Hid (x ∉ pre):=hp
   clear hp
   gi_wp2
   exact⟨(KeepsOthers.setCell _ _ _).from _,⟨rfl,pre,⟨rfl,HP.out⟩,hy.set _⟩,hB1.setCell (p:=⟨w.heap.size+1,0,none⟩) (by simp) _⟩
 case done =>
  rintro D ys W hD hSt ⟨⟨⟨hp,y,hy⟩,bT1,bA1⟩,hB1⟩ hK
  subst hSt
  have HP:Hid (t ∉ ys):=hp
  clear hp
  have cR:=hy.cell
  have fR:=hy.frozen
  gi_wp2
  have hK2:(W.setCell ⟨w.heap.size+1,0,none⟩ (.int .i64 (-1))).heap[D]?=some (.deferred (some [])):=(Below.heap_setCell _ _ _ _ (by show D≠w.heap.size+1;omega)).trans hK
  refine⟨by simp,.inl ⟨_,_,rfl,run_takeDeferred hK2,?_⟩⟩
  have b2:Boxed ((W.setCell ⟨w.heap.size+1,0,none⟩ (.int .i64 (-1))).putObj D (.deferred none)) (w.heap.size+1) 3 (.int .i64 (-1)):=(World.putObj_heap_other (by omega)).trans (hy.set _)
  refine⟨_,results_one rfl underlying3 rfl _ _ (w.heap.size+1) _ rfl b2.cell,by rw[place_out HP.out],(hB1.setCell (p:=⟨w.heap.size+1,0,none⟩) (by simp) _).trans (belowK_b (w:=w) (Nat.le_refl _) _ D _ _ (by omega) hK2 rfl rfl)⟩
 case stop =>
  rintro D c pre W hD hpre ⟨⟨rfl,pre',⟨rfl,hx⟩,bX⟩,hB1⟩ hK
  obtain ⟨hin,hix⟩:=idxOf_pre pre' t zs hx hpre
  have HX:Hid (place zs t=pre'.length):=by show _=_;rw[place_in hin,hix]
  gi_wp2
  refine⟨by simp,.inl ⟨_,_,rfl,run_takeDeferred hK,?_⟩⟩
  have b2:Boxed (W.putObj D (.deferred none)) (w.heap.size+1) 3 (.int .i64 pre'.length):=(World.putObj_heap_other (by omega)).trans bX
  exact⟨_,results_one rfl underlying3 rfl _ _ (w.heap.size+1) _ rfl b2.cell,by rw[HX.out],hB1.trans (belowK_b (w:=w) (Nat.le_refl _) W D _ _ (by omega) hK rfl rfl)⟩
end Go.Proofs.YtcdjepkhdjpjcaaGreatDoor.E
namespace Go.Proofs.YtcdjepkhdjpjcaaGreatDoor.E
open Go.Proofs.Tryz
open Go.RowKit
theorem take_some {w:World}{Q:Nat}{v:Value}{x:Int}{xs:List Int}{m:Int}(h:QAt 211 w Q v (x :: xs) m)(hn:(x :: xs).length≤100000) :
  Calls prog 91 #[qp Q] w fun e w'=>e=.returned (.tuple #[.int .u64 x,.bool true])∧∃v',QAt 211 w' Q v' xs m∧blk v'=blk v∧Kept (fun b=>b=Q∨blk v=some b) w w':=by
 have H:Hid (QAt 211 w Q v (x :: xs) m):=h
 have HN:Hid ((x :: xs).length≤100000):=hn
 clear h hn
 go_enter func91,ntmps91
 go_wp2_with (first | (go_at_call 155;refine (first_some H.out).mono ?_;rintro e w' ⟨rfl,rfl⟩) | (go_at_call 156;refine (leave_at_k H.out 0 (by simp) HN.out).mono ?_;rintro e w' ⟨rfl,v',h1,h2,h3⟩;have R1:Hid (QAt 211 w' Q v' xs m∧blk v'=blk v∧Kept (fun b=>b=Q∨blk v=some b) w w'):=⟨h1,h2,h3⟩;clear h1 h2 h3))
 go_ret2
 exact⟨rfl,v',R1.out⟩
theorem drop_in {w:World}{Q:Nat}{v:Value}{xs:List Int}{m:Int}(h:QAt 211 w Q v xs m)(t:Int)(ht:t∈xs)(hn:xs.length≤100000) :
  Calls prog 162 #[qp Q,.int .u64 t] w fun e w'=>e=.returned (.int .i64 0)∧∃v',QAt 211 w' Q v' (xs.erase t) m∧blk v'=blk v∧Kept (fun b=>b=Q∨blk v=some b) w w':=by
 have HP:Hid (place xs t=(xs.idxOf t:Int)):=place_in ht
 have hk:=List.idxOf_lt_length_of_mem ht
 have H:Hid (QAt 211 w Q v xs m):=h
 have HE:Hid (xs.eraseIdx (xs.idxOf t)=xs.erase t):=erase_idx xs t
 clear h ht
 generalize xs.idxOf t=k at *
 have hk1:((k:Int) == -1)=false:=by rw[beq_eq_false_iff_ne];omega
 go_enter func162,ntmps162
 go_wp2_with (first | (go_at_call 205;refine (place_any _ t xs w (.inr ⟨Q,v,m,rfl,H.out⟩) hn).mono ?_;rw[HP.out];rintro e w1 ⟨rfl,hb⟩;have HB:Hid (Below w.heap.size w w1):=hb;clear hb) | (go_at_call 156;refine (leave_at_k (H.out.later HB.out) k hk hn).mono ?_;rintro e w' ⟨rfl,v',h1,h2,h3⟩;have R1:Hid (QAt 211 w' Q v' (xs.eraseIdx k) m∧blk v'=blk v∧Kept (fun b=>b=Q∨blk v=some b) w1 w'):=⟨h1,h2,h3⟩;clear h1 h2 h3))
 go_ret
 exact⟨rfl,v',by rw[← HE.out];exact R1.out.1,R1.out.2.1,(Kept.of_below _ HB.out).trans R1.out.2.2 fun _ _ e=>e⟩
end Go.Proofs.YtcdjepkhdjpjcaaGreatDoor.E
