import Derived.Test.YtdadpepfpiimgaaGreatDoorK02
set_option maxHeartbeats 20000000
set_option maxRecDepth 100000
namespace Go.Proofs.YtdadpepfpiimgaaGreatDoor
open Go.RowKit
structure Kept (S:Nat→Prop) (w w':World):Prop where
 os:w'.os=w.os
 tape:w'.tape=w.tape
 output:w'.output=w.output
 size:w.heap.size≤w'.heap.size
 block:∀k,k<w.heap.size→¬S k→w'.heap[k]?=w.heap[k]?
abbrev More (S:Nat→Prop)(w:World):Nat→Prop:=fun k=>S k∨w.heap.size≤k
theorem Kept.refl (S:Nat→Prop)(w:World):Kept S w w:=⟨rfl,rfl,rfl,Nat.le_refl _,fun _ _ _=>rfl⟩
theorem Kept.of_below {S:Nat→Prop}{w w':World}(h:Below w.heap.size w w'):Kept S w w':=⟨h.os,h.tape,h.output,h.size,fun k hk _=>h.block k hk⟩
theorem Kept.trans {S T:Nat→Prop}{a b c:World}(h:Kept S a b)(k:Kept T b c)(hs:∀i,i<a.heap.size→T i→S i):Kept S a c :=
 ⟨k.os.trans h.os,k.tape.trans h.tape,k.output.trans h.output,Nat.le_trans h.size k.size,fun i hi hn=>(k.block i (Nat.lt_of_lt_of_le hi h.size) (fun t=>hn (hs i hi t))).trans (h.block i hi hn)⟩
theorem Kept.mono {S T:Nat→Prop}{a b:World}(h:Kept S a b)(hs:∀i,i<a.heap.size→S i→T i):Kept T a b :=
 ⟨h.os,h.tape,h.output,h.size,fun i hi hn=>h.block i hi (fun t=>hn (hs i hi t))⟩
theorem Kept.below {S:Nat→Prop}{w w':World}(h:Kept S w w'){B:Nat}(hB:B≤w.heap.size)(hs:∀k,S k→B≤k):Below B w w' :=
 ⟨h.os,h.tape,h.output,h.size,fun k hk=>h.block k (by omega) (fun s=>by have:=hs k s;omega)⟩
theorem Kept.alloc {S:Nat→Prop}{a w:World}(h:Kept S a w)(o:Obj):Kept S a (w.alloc o) :=
 h.trans (T:=fun _=>False) (Kept.of_below (below_alloc w o)) (fun _ _ f=>f.elim)
theorem Kept.drew {S:Nat→Prop}{a w:World}(h:Kept S a w):Kept S a w.drew:=⟨h.os,h.tape,h.output,h.size,h.block⟩
theorem Kept.setCell {S:Nat→Prop}{a w:World}(h:Kept S a w){p:Addr}(hp:p.block<a.heap.size→S p.block)(u:Value):Kept S a (w.setCell p u) :=
 h.trans (T:=fun k=>k=p.block) ⟨rfl,rfl,rfl,by simp[World.setCell],fun k _ hk=>Below.heap_setCell _ _ _ _ hk⟩ (fun i hi e=>by subst e;exact hp hi)
theorem Kept.setCells {S:Nat→Prop}{a:World}{g:Nat}(hg:g<a.heap.size→S g):∀(vs:List Value) (o:Nat) (w:World),Kept S a w→Kept S a (w.setCells g o vs)
 | [],_,_,h=>h
 | v :: r,o,_,h=>Kept.setCells hg r (o+1) _ (h.setCell (p:=⟨g,o,none⟩) hg v)
theorem Kept.grown {S:Nat→Prop}{a w w':World}{row:Option Nat}(h:Kept S a w)(hg:w.grownBy w' row)(hr:∀k,row=some k→k<a.heap.size→S k):Kept S a w' :=
 h.trans (T:=fun k=>some k=row) ⟨hg.os,hg.tape,hg.output,hg.size,fun k hk hn=>hg.block k hk hn⟩ (fun i hi e=>hr i e.symm hi)
def Blk (w:World)(g:Nat)(t:TypeId)(sz:Nat):Prop:=∃cur,w.heap[g]?=some (.cells cur t (0,0))∧cur.size=sz
theorem Blk.lt {w:World}{g t sz:Nat}(h:Blk w g t sz):g<w.heap.size:=by
 obtain ⟨cur,h,_⟩:=h;exact (Array.getElem?_eq_some_iff.1 h).1
theorem Blk.same {w w':World}{g t sz:Nat}(h:Blk w g t sz)(e:w'.heap[g]?=w.heap[g]?):Blk w' g t sz:=by
 obtain ⟨cur,h,hs⟩:=h;exact⟨cur,e.trans h,hs⟩
theorem Blk.there {w:World}{g t sz:Nat}(h:Blk w g t sz)(o n:Nat)(hn:o+n≤sz):w.there g o n:=fun j hj=>by
 obtain ⟨cur,h,hs⟩:=h
 refine⟨?_,frozen_of_row w g (o+j) _ t h⟩
 rw[cell_of_row w g (o+j) cur t (0,0) h,Array.getElem?_eq_getElem (by omega)]
 rfl
theorem Blk.setCell {w:World}{g g' o t sz:Nat}(h:Blk w g t sz)(v:Value):Blk (w.setCell ⟨g',o,none⟩ v) g t sz:=by
 by_cases e:g=g'
 ·subst e
  obtain ⟨cur,h,hs⟩:=h
  exact⟨_,heap_setCell_same w g o cur t v h,by simpa using hs⟩
 ·exact h.same (heap_setCell_other w ⟨g',o,none⟩ g v e)
theorem Blk.setCells {g g' t sz:Nat}:∀(vs:List Value) (o:Nat) (w:World),Blk w g t sz→Blk (w.setCells g' o vs) g t sz
 | [],_,_,h=>h
 | v :: r,o,_,h=>Blk.setCells r (o+1) _ (h.setCell v)
theorem setCells_other {g k:Nat}(hk:k≠g):∀(vs:List Value) (o:Nat) (w:World),(w.setCells g o vs).heap[k]?=w.heap[k]?
 | [],_,_=>rfl
 | v :: r,o,w=>(setCells_other hk r (o+1) (w.setCell ⟨g,o,none⟩ v)).trans (heap_setCell_other w ⟨g,o,none⟩ k v hk)
theorem setCells_drew (g:Nat):∀(vs:List Value) (o:Nat) (w:World),w.drew.setCells g o vs=(w.setCells g o vs).drew
 | [],_,_=>rfl
 | v :: r,o,w=>setCells_drew g r (o+1) (w.setCell ⟨g,o,none⟩ v)
theorem Blk.ne {w:World}{g g' t t' sz sz':Nat}(h:Blk w g t sz)(h':Blk w g' t' sz')(ht:t≠t'):g≠g':=by
 rintro rfl
 obtain ⟨cur,h,_⟩:=h
 obtain ⟨cur',h',_⟩:=h'
 rw[h] at h'
 simp only[Option.some.injEq,Obj.cells.injEq] at h'
 exact ht h'.2.1
theorem rangeAt_same {w w':World}{g o:Nat}{cs:List Value}(h:w.rangeAt g o cs)(e:w'.heap[g]?=w.heap[g]?):w'.rangeAt g o cs:=fun j v hv=>by
 rw[World.cell?_of_block (w:=w) (a:=⟨g,o+j,none⟩) e];exact h j v hv
structure Pl (w:World) (q n cap:Nat) (D N:Nat→List Int):Prop where
 blk:Blk w q 109 (cap*128)
 ncap:n≤cap
 cm:cap≤maxLen
 dl:∀i,i<n→(D i).length=64
 nl:∀i,i<n→(N i).length=64
 dur:∀i,i<n→w.rangeAt q (i*128) (U8 (D i))
 new:∀i,i<n→w.rangeAt q (i*128+64) (U8 (N i))
theorem Pl.same {w w':World}{q n cap:Nat}{D N:Nat→List Int}(h:Pl w q n cap D N)(e:w'.heap[q]?=w.heap[q]?):Pl w' q n cap D N :=
 ⟨h.blk.same e,h.ncap,h.cm,h.dl,h.nl,fun i hi=>rangeAt_same (h.dur i hi) e,fun i hi=>rangeAt_same (h.new i hi) e⟩
theorem Pl.congr {w:World}{q n cap:Nat}{D N D' N':Nat→List Int}(h:Pl w q n cap D N)(hd:∀i,i<n→D i=D' i)(hn:∀i,i<n→N i=N' i):Pl w q n cap D' N' :=
 ⟨h.blk,h.ncap,h.cm,fun i hi=>by rw[← hd i hi];exact h.dl i hi,fun i hi=>by rw[← hn i hi];exact h.nl i hi,fun i hi=>by rw[← hd i hi];exact h.dur i hi,fun i hi=>by rw[← hn i hi];exact h.new i hi⟩
theorem Pl.setD {w:World}{q n cap s:Nat}{D N:Nat→List Int}(h:Pl w q n cap D N)(b:List Int)(hb:b.length=64)(hs:s<n):Pl (w.setCells q (s*128) (U8 b)) q n cap (fun i=>if i=s then b else D i) N:=by
 refine⟨Blk.setCells _ _ _ h.blk,h.ncap,h.cm,fun i hi=>?_,h.nl,fun i hi=>?_,fun i hi=>?_⟩
 ·show (if i=s then b else D i).length=64
  split
  ·exact hb
  ·exact h.dl i hi
 ·show (w.setCells q (s*128) (U8 b)).rangeAt q (i*128) (U8 (if i=s then b else D i))
  split
  ·rename_i e;subst e
   exact World.rangeAt_setCells_same _ _ _ _ (h.blk.there _ _ (by rw[U8_length];have:=h.ncap;omega))
  ·exact World.rangeAt_setCells_apart (h.dur i hi) _ _ _ (by rw[U8_length,U8_length,hb,h.dl i hi];omega)
 ·exact World.rangeAt_setCells_apart (h.new i hi) _ _ _ (by rw[U8_length,U8_length,hb,h.nl i hi];omega)
theorem Pl.setN {w:World}{q n cap s:Nat}{D N:Nat→List Int}(h:Pl w q n cap D N)(b:List Int)(hb:b.length=64)(hs:s<n):Pl (w.setCells q (s*128+64) (U8 b)) q n cap D (fun i=>if i=s then b else N i):=by
 refine⟨Blk.setCells _ _ _ h.blk,h.ncap,h.cm,h.dl,fun i hi=>?_,fun i hi=>?_,fun i hi=>?_⟩
 ·show (if i=s then b else N i).length=64
  split
  ·exact hb
  ·exact h.nl i hi
 ·exact World.rangeAt_setCells_apart (h.dur i hi) _ _ _ (by rw[U8_length,U8_length,hb,h.dl i hi];omega)
 ·show (w.setCells q (s*128+64) (U8 b)).rangeAt q (i*128+64) (U8 (if i=s then b else N i))
  split
  ·rename_i e;subst e
   exact World.rangeAt_setCells_same _ _ _ _ (h.blk.there _ _ (by rw[U8_length];have:=h.ncap;omega))
  ·exact World.rangeAt_setCells_apart (h.new i hi) _ _ _ (by rw[U8_length,U8_length,hb,h.nl i hi];omega)
def wcell (x:Wr):List Value:=.int .i64 (x.s:Int) :: U8 x.b
def WC (ws:List Wr):List Value:=(ws.map wcell).flatten
theorem wcell_length {n:Nat}{ws:List Wr}(h:Fit n ws):∀l∈ws.map wcell,l.length=65:=fun l hl=>by
 obtain ⟨x,hx,rfl⟩:=List.mem_map.1 hl
 simp[wcell,(h x hx).2.1]
theorem WC_length {n:Nat}{ws:List Wr}(h:Fit n ws):(WC ws).length=ws.length*65:=by
 unfold WC;rw[flat_length _ (wcell_length h)];simp
theorem WC_snoc (ws:List Wr)(x:Wr):WC (ws++[x])=WC ws++wcell x:=by simp[WC]
theorem wcell_ones (x:Wr):∀u∈wcell x,u.oneCell'=true:=fun u hu=>by
 rcases List.mem_cons.1 hu with rfl | hu
 ·rfl
 ·exact ones_u8 _ u hu
theorem WC_ones (ws:List Wr):∀u∈WC ws,u.oneCell'=true:=fun u hu=>by
 obtain ⟨l,hl,hu⟩:=List.mem_flatten.1 hu
 obtain ⟨x,_,rfl⟩:=List.mem_map.1 hl
 exact wcell_ones x u hu
theorem own_range {w:World}{base e size:Nat}{g n cap:Nat}{xs:List Value}(h:w.ownsRow base e size (.slice (some ⟨g,0,none⟩) n cap) n xs):w.rangeAt g 0 xs:=fun j v hv=>by
 have:=h.cells (g:=g) rfl j v hv
 rwa [Addr.add_mid] at this
theorem own_range_part {w:World}{base e size:Nat}{g n cap:Nat}{xs ys:List Value}{o:Nat}(h:w.ownsRow base e size (.slice (some ⟨g,0,none⟩) n cap) n xs)(hp:∀j v,ys[j]?=some v→xs[o+j]?=some v):w.rangeAt g o ys:=fun j v hv=>by
 have:=own_range h (o+j) v (hp j v hv)
 rwa [Nat.zero_add] at this
theorem own_blk {w:World}{base e size:Nat}{g n cap:Nat}{xs:List Value}(h:w.ownsRow base e size (.slice (some ⟨g,0,none⟩) n cap) n xs):Blk w g e (cap*size)∧n≤cap∧cap≤maxLen∧base≤g:=by
 rcases h.2 with ⟨h',_⟩ | ⟨g',cap',cur,h',h1,hg,h2,h3,hsz,_⟩
 ·simp at h'
 ·simp only[Value.slice.injEq,Option.some.injEq,Addr.mk.injEq,and_true,true_and] at h'
  obtain ⟨rfl,rfl⟩:=h'
  exact⟨⟨cur,hg,hsz⟩,h2,h3,h1⟩
theorem own_slice {w:World}{base e size:Nat}{v:Value}{n:Nat}{xs:List Value}(h:w.ownsRow base e size v n xs):∃p cap,v=.slice p n cap∧(p=none→n=0∧cap=0)∧(∀a,p=some a→∃g,a=⟨g,0,none⟩):=by
 rcases h.2 with ⟨rfl,rfl⟩ | ⟨g,cap,cur,rfl,_⟩
 ·exact⟨none,0,rfl,fun _=>⟨rfl,rfl⟩,fun a e=>(by cases e)⟩
 ·exact⟨_,cap,rfl,fun e=>(by cases e),fun a e=>(by cases e;exact⟨g,rfl⟩)⟩
theorem own_same {w w':World}{base e size:Nat}{v:Value}{n:Nat}{xs:List Value}(h:w.ownsRow base e size v n xs)(hb:∀k,v.ownBlock=some k→w'.heap[k]?=w.heap[k]?):w'.ownsRow base e size v n xs:=by
 refine⟨h.1,?_⟩
 rcases h.2 with hn | ⟨g,cap,cur,rfl,h1,hg,rest⟩
 ·exact .inl hn
 ·exact .inr ⟨g,cap,cur,rfl,h1,(hb g rfl).trans hg,rest⟩
theorem own_ownBlk {w:World}{base e size:Nat}{v:Value}{n:Nat}{xs:List Value}(h:w.ownsRow base e size v n xs){k:Nat}(hk:v.ownBlock=some k):∃sz,Blk w k e sz:=by
 rcases h.2 with ⟨rfl,_⟩ | ⟨g,cap,cur,rfl,h1,hg,_,_,hsz,_⟩
 ·simp[Value.ownBlock] at hk
 ·simp only[Value.ownBlock,Option.some.injEq] at hk
  subst hk
  exact⟨_,cur,hg,hsz⟩
structure PD (w:World) (S:Nat→Prop) (p n:Nat) (d:List Int) (ws:List Wr) (q cap:Nat) (v:Value):Prop where
 str:w.heap[p]?=some (.cells #[.slice (some ⟨q,0,none⟩) n cap,v] 105 (0,0))
 pl:Pl w q n cap (sec d) (newest ws d)
 wt:w.ownsRow 0 114 65 v ws.length (WC ws)
 sp:S p
 sq:S q
 sv:∀k,v.ownBlock=some k→S k
 n1:1≤n
 n2:n≤4096
 dl:d.length=64*n
 db:Bytes d
 fit:Fit n ws
def Dsk (w:World)(S:Nat→Prop)(p n:Nat)(d:List Int)(ws:List Wr):Prop:=∃q cap v,PD w S p n d ws q cap v
theorem PD.blk {w:World}{S:Nat→Prop}{p n:Nat}{d:List Int}{ws:List Wr}{q cap:Nat}{v:Value}(h:PD w S p n d ws q cap v):Blk w p 105 2:=⟨_,h.str,rfl⟩
theorem PD.pq {w:World}{S:Nat→Prop}{p n:Nat}{d:List Int}{ws:List Wr}{q cap:Nat}{v:Value}(h:PD w S p n d ws q cap v):p≠q:=h.blk.ne h.pl.blk (by decide)
theorem PD.pv {w:World}{S:Nat→Prop}{p n:Nat}{d:List Int}{ws:List Wr}{q cap:Nat}{v:Value}(h:PD w S p n d ws q cap v):∀k,v.ownBlock=some k→k≠p∧k≠q:=fun k hk=>by
 obtain ⟨sz,hb⟩:=own_ownBlk h.wt hk
 exact⟨hb.ne h.blk (by decide),hb.ne h.pl.blk (by decide)⟩
theorem PD.cell0 {w:World}{S:Nat→Prop}{p n:Nat}{d:List Int}{ws:List Wr}{q cap:Nat}{v:Value}(h:PD w S p n d ws q cap v):w.cell? ⟨p,0,none⟩=some (.slice (some ⟨q,0,none⟩) n cap):=by
 rw[cell_of_row w p 0 _ 105 (0,0) h.str];rfl
theorem PD.cell1 {w:World}{S:Nat→Prop}{p n:Nat}{d:List Int}{ws:List Wr}{q cap:Nat}{v:Value}(h:PD w S p n d ws q cap v):w.cell? ⟨p,1,none⟩=some v:=by
 rw[cell_of_row w p 1 _ 105 (0,0) h.str];rfl
theorem PD.free {w:World}{S:Nat→Prop}{p n:Nat}{d:List Int}{ws:List Wr}{q cap:Nat}{v:Value}(h:PD w S p n d ws q cap v)(j:Nat):w.frozen? ⟨p,j,none⟩=false:=frozen_of_row w p j _ 105 h.str
theorem PD.same {w w':World}{S T:Nat→Prop}{p n:Nat}{d:List Int}{ws:List Wr}{q cap:Nat}{v:Value}(h:PD w S p n d ws q cap v)(hs:∀k,k<w.heap.size→S k→T k)(e:∀k,k<w.heap.size→S k→w'.heap[k]?=w.heap[k]?):PD w' T p n d ws q cap v :=
 have hp:=h.blk.lt
 have hq:=h.pl.blk.lt
 have hv:∀k,v.ownBlock=some k→k<w.heap.size:=fun _ hk=>(own_ownBlk h.wt hk).elim fun _ hb=>hb.lt
 ⟨(e p hp h.sp).trans h.str,h.pl.same (e q hq h.sq),own_same h.wt (fun k hk=>e k (hv k hk) (h.sv k hk)),hs p hp h.sp,hs q hq h.sq,fun k hk=>hs k (hv k hk) (h.sv k hk),h.n1,h.n2,h.dl,h.db,h.fit⟩
theorem PD.later {w w':World}{S:Nat→Prop}{p n:Nat}{d:List Int}{ws:List Wr}{q cap:Nat}{v:Value}(h:PD w S p n d ws q cap v)(hb:Below w.heap.size w w'):PD w' S p n d ws q cap v :=
 h.same (fun _ _=>id) (fun k' hk' _=>hb.block k' hk')
theorem PD.kept {w w':World}{S T:Nat→Prop}{p n:Nat}{d:List Int}{ws:List Wr}{q cap:Nat}{v:Value}(h:PD w S p n d ws q cap v)(hk:Kept T w w')(hd:∀k,S k→T k→False):PD w' S p n d ws q cap v :=
 h.same (fun _ _=>id) (fun k hk' hs=>hk.block k hk' (fun t=>hd k hs t))
theorem Dsk.later {w w':World}{S:Nat→Prop}{p n:Nat}{d:List Int}{ws:List Wr}(h:Dsk w S p n d ws)(hb:Below w.heap.size w w'):Dsk w' S p n d ws:=by
 obtain ⟨q,cap,v,h⟩:=h;exact⟨q,cap,v,h.later hb⟩
theorem Dsk.kept {w w':World}{S T:Nat→Prop}{p n:Nat}{d:List Int}{ws:List Wr}(h:Dsk w S p n d ws)(hk:Kept T w w')(hd:∀k,S k→T k→False):Dsk w' S p n d ws:=by
 obtain ⟨q,cap,v,h⟩:=h;exact⟨q,cap,v,h.kept hk hd⟩
theorem Dsk.mono {w:World}{S T:Nat→Prop}{p n:Nat}{d:List Int}{ws:List Wr}(h:Dsk w S p n d ws)(hs:∀k,k<w.heap.size→S k→T k):Dsk w T p n d ws:=by
 obtain ⟨q,cap,v,h⟩:=h;exact⟨q,cap,v,h.same hs (fun _ _ _=>rfl)⟩
open Go.Proofs.Tryz
theorem info71:(prog.info? 109).map (fun i=>(i.zero,i.size,i.bytes))=some (some (.agg (List.replicate 128 (Value.int .u8 0)).toArray),128,128):=by kernel_rfl
theorem info80:(prog.info? 114).map (fun i=>(i.zero,i.size,i.bytes))=some (some (.agg (.int .i64 0 :: List.replicate 64 (Value.int .u8 0)).toArray),65,72):=by kernel_rfl
theorem size69:(prog.info? 107).map (·.size)=some 64:=by kernel_rfl
theorem size80:(prog.info? 114).map (·.size)=some 65:=by kernel_rfl
def refS (n:Nat)(i:Int):Int:=if 0≤i∧i<n then 0 else 40
theorem refuses_nil (i:Int)(w:World):Calls prog 91 #[.pointer none,.int .i64 i] w fun e w'=>e=.returned (.int .i64 1)∧w=w':=by
 go_enter func91,ntmps91
 go_wp2
 go_ret
 exact⟨rfl,rfl⟩
theorem refuses_any (i:Int)(w:World)(p n:Nat)(q cap:Nat)(h0:w.cell? ⟨p,0,none⟩=some (.slice (some ⟨q,0,none⟩) n cap)) :
  Calls prog 91 #[.pointer (some ⟨p,0,none⟩),.int .i64 i] w fun e w'=>e=.returned (.int .i64 (refS n i))∧w=w':=by
 obtain ⟨r,hr⟩:∃r,Hid (refS n i=r):=⟨_,rfl⟩
 rw[hr.out]
 by_cases c1:i<0
 ·have e:r=40:=by rw[← hr.out,refS,if_neg (by omega)]
  subst e
  go_enter func91,ntmps91
  go_wp2
  go_ret
  exact⟨rfl,rfl⟩
 ·by_cases c2:(n:Int)≤i
  ·have e:r=40:=by rw[← hr.out,refS,if_neg (by omega)]
   subst e
   go_enter func91,ntmps91
   go_wp2
   go_ret
   exact⟨rfl,rfl⟩
  ·have e:r=0:=by rw[← hr.out,refS,if_pos (by omega)]
   subst e
   go_enter func91,ntmps91
   go_wp2
   go_ret
   exact⟨rfl,rfl⟩
theorem len_any {w:World}{S:Nat→Prop}{p n:Nat}{d:List Int}{ws:List Wr}(h:Dsk w S p n d ws):Calls prog 36 #[.pointer (some ⟨p,0,none⟩)] w fun e w'=>e=.returned (.int .i64 n)∧w=w':=by
 obtain ⟨q,cap,v,h⟩:=h
 have h0:=h.cell0
 clear h
 go_enter func36,ntmps36
 go_wp2
 go_ret
 exact⟨rfl,rfl⟩
theorem clone_range (g o n c:Nat)(xs:List Int)(w:World)(hx:xs.length=n)(hbig:n≤140737488355328)(hr:w.rangeAt g o (U8 xs)) :
  Calls prog 42 #[.slice (some ⟨g,o,none⟩) n c] w fun e w'=>∃v',e=.returned v'∧w'.ownsRow w.heap.size 5 1 v' n (U8 xs)∧Below w.heap.size w w' :=
 clone_at _ n c xs w hx hbig (fun i hi=>by
  rw[Addr.add_mid]
  refine hr i _ ?_
  simp[U8,List.getD,List.getElem?_eq_getElem (show i<xs.length by omega)])
theorem made_rep (m:Nat)(v:Value)(hm:0<m)(n:Nat):madeCells (List.replicate m v).toArray n=(List.replicate n v).toArray:=by
 apply Array.ext
 ·simp[size_madeCells]
 ·intro i h1 h2
  have h3:i % m<m:=Nat.mod_lt _ hm
  simp[madeCells,h3]
theorem zeros_range (n:Nat):madeCells (List.replicate 128 (Value.int .u8 0)).toArray n=(List.replicate n (Value.int .u8 0)).toArray:=made_rep 128 _ (by omega) n
theorem sec_zeros (n i:Nat)(hi:i<n):sec (List.replicate (64*n) 0) i=List.replicate 64 0:=by
 simp only[sec,List.drop_replicate,List.take_replicate]
 congr 1;omega
theorem new_pl (w:World)(n:Nat)(hn:n≤4096):Pl (w.alloc (.cells (List.replicate (n*128) (Value.int .u8 0)).toArray 109)) w.heap.size n n (sec (List.replicate (64*n) 0)) (newest [] (List.replicate (64*n) 0)):=by
 have hb:=heap_alloc_new w (.cells (List.replicate (n*128) (Value.int .u8 0)).toArray 109)
 have hr:∀o,o+64≤n*128→(w.alloc (.cells (List.replicate (n*128) (Value.int .u8 0)).toArray 109)).rangeAt w.heap.size o (U8 (List.replicate 64 0)):=fun o ho j v hv=>by
  rw[U8,List.map_replicate,List.getElem?_replicate] at hv
  rw[cell_of_row _ _ _ _ 109 (0,0) hb,List.getElem?_toArray,List.getElem?_replicate]
  split at hv
  ·rw[if_pos (by omega)];exact hv
  ·cases hv
 refine⟨⟨_,hb,by simp⟩,Nat.le_refl _,by unfold maxLen;omega,fun i hi=>?_,fun i hi=>?_,fun i hi=>?_,fun i hi=>?_⟩
 ·rw[sec_zeros n i hi];simp
 ·rw[newest_nil,sec_zeros n i hi];simp
 ·rw[sec_zeros n i hi];exact hr _ (by omega)
 ·rw[newest_nil,sec_zeros n i hi];exact hr _ (by omega)
theorem new_good (n:Nat)(w:World)(h1:1≤n)(h2:n≤4096):Calls prog 34 #[.int .i64 n] w fun e w'=>∃p,e=.returned (.tuple #[.pointer (some ⟨p,0,none⟩),.int .i64 0])∧Dsk w' (fun k=>w.heap.size≤k) p n (List.replicate (64*n) 0) []∧Below w.heap.size w w':=by
 obtain ⟨i0,hi,hz0,hz1,hz2⟩:=info_parts info71
 have hmk:=run_make (P:=prog) w 102 109 i0 _ underlying102 hi hz0 .i64 .i64 (n:Int) (n:Int) (by omega) (Int.le_refl _) (by rw[hz2];omega) (by omega)
 rw[hz1] at hmk
 simp only[Int.toNat_natCast,Value.cells] at hmk
 rw[zeros_range] at hmk
 have c1:¬(n:Int)<1:=by omega
 have c2:¬(4096:Int)<(n:Int):=by omega
 have HP:Hid (Pl (w.alloc (.cells (List.replicate (n*128) (Value.int .u8 0)).toArray 109)) w.heap.size n n (sec (List.replicate (64*n) 0)) (newest [] (List.replicate (64*n) 0))):=new_pl w n h2
 obtain ⟨o,ho⟩:∃o,Obj.cells (List.replicate (n*128) (Value.int .u8 0)).toArray 109=o:=⟨_,rfl⟩
 rw[ho] at HP hmk
 clear ho
 go_enter func34,ntmps34
 go_wp2
 go_ret2
 have hb2:=below_alloc (w.alloc o) (Obj.cells #[Value.slice (some ⟨w.heap.size,0,none⟩) n n,Value.slice none 0 0] 105)
 refine⟨w.heap.size+1,rfl,⟨w.heap.size,n,.slice none 0 0,?_⟩,below_of_alloc hb2⟩
 refine⟨heap_alloc2_new w o _,HP.out.same (hb2.block _ (by simp)),World.ownsRow_nil _ _ _ _,Nat.le_succ _,Nat.le_refl _,fun k hk=>(by simp[Value.ownBlock] at hk),h1,h2,by simp,Bytes.rep _ _ (by omega),Fit.nil _⟩
theorem read_good {w:World}{S:Nat→Prop}{p n:Nat}{d:List Int}{ws:List Wr}(h:Dsk w S p n d ws)(i:Nat)(hi:i<n):Calls prog 53 #[.pointer (some ⟨p,0,none⟩),.int .i64 i] w fun e w'=>∃v,e=.returned (.tuple #[v,.int .i64 0])∧w'.ownsRow w.heap.size 5 1 v 64 (U8 (newest ws d i))∧Below w.heap.size w w':=by
 obtain ⟨q,cap,v,h⟩:=h
 have h0:=h.cell0
 have HN:Hid (w.rangeAt q (i*128+64) (U8 (newest ws d i))∧(newest ws d i).length=64):=⟨h.pl.new i hi,h.pl.nl i hi⟩
 clear h
 go_enter func53,ntmps53
 go_wp2_with fail
 refine (refuses_any i w p n q cap h0).mono ?_
 rintro e w1 ⟨rfl,rfl⟩
 rw[refS,if_pos (by omega)]
 go_wp2_with fail
 refine (clone_range q (i*128+64) 64 64 (newest ws d i) w HN.out.2 (by omega) HN.out.1).mono ?_
 rintro e w1 ⟨v1,rfl,hown,hb⟩
 go_wp2
 go_ret2
 exact⟨v1,rfl,hown,hb⟩
theorem part_fill4 (off:Nat)(vs:List Value)(cs:List Value)(h:off+vs.length≤cs.length) :
  vs.toArray.zipIdx.foldl (fun cs (x:Value × Nat)=>cs.setIfInBounds (off+x.2) x.1) cs.toArray=(cs.take off++vs++cs.drop (off+vs.length)).toArray:=by
 rw[← Array.foldl_toList,Array.toList_zipIdx]
 obtain ⟨h1,h2⟩:=Great.foldl_set off vs 0 cs.toArray
 apply Array.ext_getElem?
 intro k
 have e:=h2 k
 simp only[Nat.add_zero,List.size_toArray] at e
 refine Eq.trans e ?_
 rw[List.getElem?_toArray,List.getElem?_toArray]
 by_cases c1:k<off
 ·rw[if_neg (by omega),List.append_assoc,List.getElem?_append_left (by simp;omega),List.getElem?_take,if_pos c1]
 ·by_cases c2:k<off+vs.length
  ·rw[if_pos ⟨by omega,c2,by omega⟩,List.append_assoc,List.getElem?_append_right (by simp;omega),List.getElem?_append_left (by simp;omega)]
   congr 1;simp;omega
  ·rw[if_neg (by omega),List.getElem?_append_right (by simp;omega),List.getElem?_drop]
   congr 1;simp;omega
theorem places80:placesOf prog 114=some [(0,1),(1,64)]:=by kernel_rfl
theorem zero804:(prog.info? 114).bind (·.zero)=some (.agg (.int .i64 0 :: List.replicate 64 (Value.int .u8 0)).toArray):=by kernel_rfl
theorem fill_two4 (ps:List (Nat × Nat))(cs:List Value)(o0 n0 o1 n1:Nat)(hp:ps=[(o0,n0),(o1,n1)])(v0 v1:Value)(c0 c1:List Value)(h0:v0.cells=c0.toArray)(h1:v1.cells=c1.toArray)(e0:c0.length=n0)(e1:c1.length=n1)(ho0:o0=0)(ho1:n0=o1)(hl:cs.length=n0+n1) :
  Instr.fill (ps.toArray[·]?) cs.toArray [(0,v0),(1,v1)]=some (c0++c1).toArray:=by
 subst hp ho0 ho1
 have a0:=part_fill4 0 c0 cs (by omega)
 have a1:=part_fill4 n0 c1 (cs.take 0++c0++cs.drop (0+c0.length)) (by simp;omega)
 simp only[Instr.fill]
 rw[h0,h1]
 simp only[List.size_toArray,List.getElem?_toArray,List.getElem?_cons_zero,List.getElem?_cons_succ]
 rw[if_neg (by simp[e0];omega)]
 have a0':c0.toArray.zipIdx.foldl (fun cs x=>match x with | (c,j)=>cs.setIfInBounds (0+j) c) cs.toArray=(cs.take 0++c0++cs.drop (0+c0.length)).toArray:=a0
 rw[a0']
 simp only[List.size_toArray]
 rw[if_neg (by simp[e0,e1];omega)]
 have a1':c1.toArray.zipIdx.foldl (fun cs x=>match x with | (c,j)=>cs.setIfInBounds (n0+j) c) (cs.take 0++c0++cs.drop (0+c0.length)).toArray=_:=a1
 rw[a1']
 congr 2
 apply List.ext_getElem?
 intro k
 simp only[List.take_zero,List.nil_append,Nat.zero_add]
 rw[List.take_append_of_le_length (by omega),List.take_of_length_le (by omega),List.drop_eq_nil_of_le (by simp;omega),List.append_nil]
theorem built80 (s:Int)(b:List Int)(hb:b.length=64):prog.built 114 [(0,.int .i64 s),(1,.agg (U8 b).toArray)]=some (.int .i64 s :: U8 b).toArray:=by
 rw[built_of 114 _ _ _ places80 zero804]
 exact fill_two4 _ _ 0 1 1 64 rfl _ _ [.int .i64 s] (U8 b) rfl rfl rfl (by rw[U8_length,hb]) rfl rfl (by simp)
theorem run_build80 (w:World)(s:Nat)(b:List Int)(hb:b.length=64):(Instr.build 114 #[(0,.int .i64 s),(1,.agg (U8 b).toArray)]).run prog w=.ok (.agg (wcell ⟨s,b⟩).toArray) w :=
 run_build w 114 _ _ (built80 s b hb)
def Z80:Array Value:=(.int .i64 0 :: List.replicate 64 (Value.int .u8 0)).toArray
theorem Z80_size:Z80.size=65:=by simp[Z80]
theorem zv4 (t:TypeId)(z:Value)(hz:(prog.info? t).bind (·.zero)=some z)(w:World):(zeroValue t).run prog w=.ok z w:=by
 cases hi:prog.info? t with
 | none=>simp[hi] at hz
 | some it =>
  simp only[hi,Option.bind_some] at hz
  simp[zeroValue,typeInfo,hi,hz]
theorem run_alloc80 (w:World):(Instr.alloc 114 true (.tuple #[])).run prog w=.ok (.pointer (some ⟨w.heap.size,0,none⟩)) (w.alloc (.cells Z80 114)):=by
 simp only[Instr.alloc,Sem.run_bind,zv4 114 _ zero804,Result.andThen_ok]
 simp[newVar,newRow,Value.cells,Z80]
theorem world_ext4:∀(u v:World),u.heap=v.heap→u.tape=v.tape→u.drawn=v.drawn→u.os=v.os→u.output=v.output→u=v
 | ⟨_,_,_,_,_⟩,⟨_,_,_,_,_⟩,h1,h2,h3,h4,h5=>by
  simp only at h1 h2 h3 h4 h5
  subst h1 h2 h3 h4 h5
  rfl
theorem setRow_alloc4 (w:World)(a b:Array Value)(t:TypeId):(w.alloc (.cells a t)).setRow w.heap.size b=w.alloc (.cells b t):=by
 refine world_ext4 _ _ ?_ rfl rfl rfl rfl
 apply Array.ext_getElem?
 intro k
 by_cases c:k=w.heap.size
 ·subst c
  rw[setRow_heap _ _ a b t (0,0) (heap_alloc_new w _),heap_alloc_new]
 ·have e1:((w.alloc (.cells a t)).setRow w.heap.size b).heap[k]?=(w.alloc (.cells a t)).heap[k]?:=by
   simp only[World.setRow,Array.getElem?_modify]
   rw[if_neg (fun h=>c h.symm)]
  rw[e1]
  show (w.heap.push _)[k]?=(w.heap.push _)[k]?
  rw[Array.getElem?_push,Array.getElem?_push,if_neg c,if_neg c]
theorem run_store_new (w:World)(t:TypeId)(Z cs:Array Value)(hz:Z.size=cs.size)(hi:(prog.info? t).map (·.size)=some cs.size)(h1:cs.all (·.oneCell')=true) :
  (Instr.storeAt t (.pointer (some ⟨w.heap.size,0,none⟩)) (.agg cs)).run prog (w.alloc (.cells Z t))=.ok () (w.alloc (.cells cs t)):=by
 simp only[Instr.storeAt,Instr.sureAddr,Sem.run_bind,Sem.run_pure,Result.andThen_ok,run_storeVar_row (w.alloc (.cells Z t)) w.heap.size t t Z cs (heap_alloc_new w _) hi hz h1,setRow_alloc4]
theorem wc_ones (x:Wr):(wcell x).toArray.all (·.oneCell')=true:=all_oneCell_toArray (wcell_ones x)
theorem u8_ones (b:List Int):(U8 b).toArray.all (·.oneCell')=true:=all_oneCell_toArray (ones_u8 b)
theorem run_store80 (w:World)(x:Wr)(hx:x.b.length=64):(Instr.storeAt 114 (.pointer (some ⟨w.heap.size,0,none⟩)) (.agg (wcell x).toArray)).run prog (w.alloc (.cells Z80 114))=.ok () (w.alloc (.cells (wcell x).toArray 114)) :=
 run_store_new w 114 Z80 _ (by simp[Z80_size,wcell,hx]) (by rw[size80];simp[wcell,hx]) (wc_ones x)
theorem run_buildSlice73 (w:World)(x:Wr)(hx:x.b.length=64):(Instr.buildSlice 103 1 #[(0,.agg (wcell x).toArray)]).run prog w=.ok (.slice (some ⟨w.heap.size,0,none⟩) 1 1) (w.alloc (.cells (wcell x).toArray 114)):=by
 obtain ⟨i0,hi,hz0,hz1,hz2⟩:=info_parts info80
 refine run_buildSlice w 103 114 1 _ _ i0 _ underlying103 hi hz0 (by rw[hz1];decide) (by rw[hz1];decide) ?_
 rw[hz1]
 have hl:(wcell x).length=65:=by simp[wcell,hx]
 have hA:∀A:Array Value,A.size=65→Instr.fill (fun i=>some (i*65,65)) A [(0,.agg (wcell x).toArray)]=some (wcell x).toArray:=by
  intro A hA
  have a0:=part_fill4 0 (wcell x) A.toList (by simp;omega)
  simp only[Instr.fill,Value.cells,List.size_toArray,Nat.zero_mul]
  rw[if_neg (by simp[hl,hA])]
  have a0':(wcell x).toArray.zipIdx.foldl (fun cs x=>match x with | (c,j)=>cs.setIfInBounds (0+j) c) A=((A.toList.take 0++wcell x++A.toList.drop (0+(wcell x).length))).toArray:=a0
  rw[a0',List.drop_eq_nil_of_le (by simp[hl,hA])]
  simp
 exact hA _ (by simp)
theorem wp_val {o:Oper}{a:Act}{w w':World}{v:Value}{K:Act→World→Prop}{Q:Exit→Act→World→Prop}(heq:(execOp a.eval o).run prog w=.ok (.value v) w')(h:K (a.put o.dst v) w'):o.wp prog a w K Q:=by
 unfold Oper.wp;rw[heq];exact h
theorem wp_skip' {o:Oper}{a:Act}{w w':World}{K:Act→World→Prop}{Q:Exit→Act→World→Prop}(heq:(execOp a.eval o).run prog w=.ok .skip w')(h:K (a.put o.dst undef) w'):o.wp prog a w K Q:=by
 unfold Oper.wp;rw[heq];exact h
theorem wpList_alloc80 {ops:Array Oper}{rest:List Oper}{o:Oper}{a:Act}{w:World}{Q:Exit→Act→World→Prop}(hgd:o.guard=none)(ho:o.op=.alloc 114)
  (h:wpList prog ops Q rest (a.put o.dst (.pointer (some ⟨w.heap.size,0,none⟩))) (w.alloc (.cells Z80 114))):wpList prog ops Q (o :: rest) a w :=
 wpList_plain hgd fun _ hK=>wp_val (by unfold execOp;simp only[ho,Sem.run_bind,run_alloc80,Result.andThen_ok,Sem.run_pure]) (hK _ _ h)
theorem wpList_build80 {ops:Array Oper}{rest:List Oper}{o:Oper}{a:Act}{w:World}{Q:Exit→Act→World→Prop}(hgd:o.guard=none)(x y:Operand)(ho:o.op=.build 114 #[(0,x),(1,y)])(s:Nat)(b:List Int)(hx:a.eval x=.int .i64 s)(hy:a.eval y=.agg (U8 b).toArray)(hb:b.length=64)
  (h:wpList prog ops Q rest (a.put o.dst (.agg (wcell ⟨s,b⟩).toArray)) w):wpList prog ops Q (o :: rest) a w :=
 wpList_plain hgd fun _ hK=>wp_val (by
  have e:(#[(0,x),(1,y)]:Array (Nat × Operand)).map (fun (i,x)=>(i,a.eval x))=#[(0,a.eval x),(1,a.eval y)]:=by simp
  unfold execOp;simp only[ho];rw[e,hx,hy];simp only[Sem.run_bind,run_build80 w s b hb,Result.andThen_ok,Sem.run_pure]) (hK _ _ h)
theorem wpList_store80 {ops:Array Oper}{rest:List Oper}{o:Oper}{a:Act}{w:World}{Q:Exit→Act→World→Prop}(hgd:o.guard=none)(x y:Operand)(ho:o.op=.store 114 x y)(z:Wr)(hx:a.eval x=.pointer (some ⟨w.heap.size,0,none⟩))(hy:a.eval y=.agg (wcell z).toArray)(hz:z.b.length=64)
  (h:wpList prog ops Q rest (a.put o.dst undef) (w.alloc (.cells (wcell z).toArray 114))):wpList prog ops Q (o :: rest) a (w.alloc (.cells Z80 114)) :=
 wpList_plain hgd fun _ hK=>wp_skip' (by unfold execOp;simp only[ho,hx,hy,Sem.run_bind,run_store80 w z hz,Result.andThen_ok,Sem.run_pure]) (hK _ _ h)
theorem wp_buildSlice73 {o:Oper}{a:Act}{w:World}{K:Act→World→Prop}{Q:Exit→Act→World→Prop}(x:Operand)(ho:o.op=.buildSlice 103 1 #[(0,x)])(z:Wr)(hx:a.eval x=.agg (wcell z).toArray)(hz:z.b.length=64)
  (h:K (a.put o.dst (.slice (some ⟨w.heap.size,0,none⟩) 1 1)) (w.alloc (.cells (wcell z).toArray 114))):o.wp prog a w K Q :=
 wp_val (by
  have e:(#[(0,x)]:Array (Nat × Operand)).map (fun (i,x)=>(i,a.eval x))=#[(0,a.eval x)]:=by simp
  unfold execOp;simp only[ho];rw[e,hx];simp only[Sem.run_bind,run_buildSlice73 w z hz,Result.andThen_ok,Sem.run_pure]) h
theorem new_range (w:World)(cs:List Value)(t:TypeId):(w.alloc (.cells cs.toArray t)).rangeAt w.heap.size 0 cs:=fun j v hv=>by
 rw[cell_of_row _ _ _ _ t (0,0) (heap_alloc_new w _),Nat.zero_add,List.getElem?_toArray];exact hv
theorem new_range_at (w:World)(cs ds:List Value)(o:Nat)(t:TypeId)(h:∀j v,ds[j]?=some v→cs[o+j]?=some v):(w.alloc (.cells cs.toArray t)).rangeAt w.heap.size o ds:=fun j v hv=>by
 rw[cell_of_row _ _ _ _ t (0,0) (heap_alloc_new w _),List.getElem?_toArray];exact h j v hv
theorem wcell_data (x:Wr):∀j v,(U8 x.b)[j]?=some v→(wcell x)[1+j]?=some v:=fun j v hv=>by
 rw[Nat.add_comm];simpa [wcell] using hv
theorem BIn.range {w:World}{g o n:Nat}{b:List Int}(h:BIn w (some ⟨g,o,none⟩) n b):w.rangeAt g o (U8 b):=fun j v hv=>by
 have:=h.news j v hv
 rwa [Addr.add_mid] at this
theorem write_nil (i:Int)(v:Value)(w:World):Calls prog 64 #[.pointer none,.int .i64 i,v] w fun e w'=>e=.returned (.int .i64 1)∧w=w':=by
 go_enter func64,ntmps64
 go_wp2_with fail
 refine (refuses_nil i w).mono ?_
 rintro e w1 ⟨rfl,rfl⟩
 go_wp2
 go_ret
 exact⟨rfl,rfl⟩
theorem setCell_row {w:World}{g t:Nat}{cs:List Value}(h:w.heap[g]?=some (.cells cs.toArray t (0,0)))(j:Nat)(v:Value):(w.setCell ⟨g,j,none⟩ v).heap[g]?=some (.cells (cs.set j v).toArray t (0,0)):=by
 rw[heap_setCell_same w g j cs.toArray t v h];simp
structure HalfW (w w3:World) (S:Nat→Prop) (p n:Nat) (d:List Int) (ws:List Wr) (X:Wr) (q cap:Nat) (v:Value):Prop where
 str:w3.heap[p]?=some (.cells #[.slice (some ⟨q,0,none⟩) n cap,v] 105 (0,0))
 pl:Pl w3 q n cap (sec d) (newest ws d)
 wt:w3.ownsRow 0 114 65 v (ws.length+1) (WC (ws++[X]))
 sv:∀k,v.ownBlock=some k→More S w k
 rg:w3.rangeAt w.heap.size 1 (U8 X.b)
 kp:Kept S w w3
theorem half_of {w w2:World}{S:Nat→Prop}{p n:Nat}{d:List Int}{ws:List Wr}{X:Wr}{q cap:Nat}{v:Value}{g cap':Nat}{ob:Obj}
  (hp:PD w S p n d ws q cap v) (hown:w2.ownsRow 0 114 65 (.slice (some ⟨g,0,none⟩) (ws.length+1) cap') (ws.length+1) (WC ws++wcell X))
  (hgrow:((w.alloc (.cells (wcell X).toArray 114)).alloc ob).grownBy w2 v.ownBlock) (hat:v.ownBlock=some g∨g=w.heap.size+2) :
  w2.rangeAt w.heap.size 0 (wcell X)∧w2.cell? ⟨p,1,none⟩=some v∧w2.frozen? ⟨p,1,none⟩=false∧(w2.setCell ⟨p,1,none⟩ (.slice (some ⟨g,0,none⟩) (ws.length+1) cap')).rangeAt w.heap.size 0 (wcell X) ∧
  HalfW w (w2.setCell ⟨p,1,none⟩ (.slice (some ⟨g,0,none⟩) (ws.length+1) cap')) S p n d ws X q cap (.slice (some ⟨g,0,none⟩) (ws.length+1) cap'):=by
 have h1:=(hp.later (below_alloc w (.cells (wcell X).toArray 114)))
 have h2:=h1.later (below_alloc _ ob)
 have hlp:=hp.blk.lt
 have hlq:=hp.pl.blk.lt
 have hsz:((w.alloc (.cells (wcell X).toArray 114)).alloc ob).heap.size=w.heap.size+2:=by simp
 have hv:∀k,v.ownBlock=some k→k<w.heap.size:=fun k hk=>(own_ownBlk hp.wt hk).elim fun _ hb=>hb.lt
 have bp:w2.heap[p]?=some (.cells #[.slice (some ⟨q,0,none⟩) n cap,v] 105 (0,0)):=(hgrow.block p (by omega) (fun e=>(h2.pv p e.symm).1 rfl)).trans h2.str
 have bq:w2.heap[q]?=((w.alloc (.cells (wcell X).toArray 114)).alloc ob).heap[q]?:=hgrow.block q (by omega) (fun e=>(h2.pv q e.symm).2 rfl)
 have bx:w2.heap[w.heap.size]?=(w.alloc (.cells (wcell X).toArray 114)).heap[w.heap.size]? :=
  (hgrow.block w.heap.size (by omega) (fun e=>by have:=hv _ e.symm;omega)).trans (Below.heap_alloc _ ob _ (by simp))
 have r2:w2.rangeAt w.heap.size 0 (wcell X):=rangeAt_same (new_range w _ 114) bx
 have hgp:g≠p:=(own_blk hown).1.ne ⟨_,bp,rfl⟩ (by decide)
 have bx3:(w2.setCell ⟨p,1,none⟩ (.slice (some ⟨g,0,none⟩) (ws.length+1) cap')).heap[w.heap.size]?=w2.heap[w.heap.size]?:=heap_setCell_other _ _ _ _ (by show w.heap.size≠p;omega)
 refine⟨r2,?_,frozen_of_row _ _ _ _ 105 bp,rangeAt_same r2 bx3,?_⟩
 ·rw[cell_of_row _ _ _ _ 105 (0,0) bp];rfl
 refine⟨setCell_row (cs:=[_,_]) bp 1 _,?_,?_,?_,?_,?_⟩
 ·exact (h2.pl.same bq).same (heap_setCell_other _ _ _ _ (fun e=>hp.pq e.symm))
 ·rw[WC_snoc]
  exact own_same hown (fun k hk=>heap_setCell_other _ _ _ _ (fun e=>hgp (by simp only[Value.ownBlock,Option.some.injEq] at hk;rw[hk];exact e)))
 ·intro k hk
  simp only[Value.ownBlock,Option.some.injEq] at hk
  subst hk
  rcases hat with hat | hat
  ·exact .inl (hp.sv _ hat)
  ·right;omega
 ·refine rangeAt_same (w:=w2) ?_ bx3
  exact rangeAt_same (new_range_at w _ _ 1 114 (wcell_data X)) bx
 ·refine Kept.setCell ?_ (fun _=>hp.sp) _
  exact (((Kept.refl S w).alloc _).alloc _).grown hgrow (fun k hk _=>hp.sv k hk)
theorem HalfW.done {w w3:World}{S:Nat→Prop}{p n:Nat}{d:List Int}{ws:List Wr}{X:Wr}{q cap:Nat}{v v0:Value}(h:HalfW w w3 S p n d ws X q cap v)(hp:PD w S p n d ws q cap v0)(hs:X.s<n)(hb:X.b.length=64)(hy:Bytes X.b) :
  Dsk (w3.setCells q (X.s*128+64) (U8 X.b)) (More S w) p n d (ws++[X])∧Kept S w (w3.setCells q (X.s*128+64) (U8 X.b)):=by
 have hb3:Blk w3 p 105 2:=⟨_,h.str,rfl⟩
 have hpq:p≠q:=hb3.ne h.pl.blk (by decide)
 have ho:∀k,k≠q→(w3.setCells q (X.s*128+64) (U8 X.b)).heap[k]?=w3.heap[k]?:=fun k hk=>setCells_other hk _ _ _
 refine⟨⟨q,cap,v,?_⟩,Kept.setCells (fun _=>hp.sq) _ _ _ h.kp⟩
 refine⟨(ho p hpq).trans h.str,?_,own_same (by rw[List.length_append,List.length_singleton];exact h.wt) (fun k hk=>?_),.inl hp.sp,.inl hp.sq,h.sv,hp.n1,hp.n2,hp.dl,hp.db,hp.fit.snoc hs hb hy⟩
 ·refine (h.pl.setN X.b hb hs).congr (fun i _=>rfl) (fun i _=>?_)
  rw[newest_snoc ws d i X.s X.b]
 ·obtain ⟨sz,hk'⟩:=own_ownBlk h.wt hk
  exact ho k (hk'.ne h.pl.blk (by decide))
theorem write_good {w:World}{S:Nat→Prop}{p n:Nat}{d:List Int}{ws:List Wr}(h:Dsk w S p n d ws)(i:Nat)(hi:i<n)(a:Option Addr)(c:Nat)(b:List Int)(hb:BIn w a 64 b)(hk:ws.length≤100000):Calls prog 64 #[.pointer (some ⟨p,0,none⟩),.int .i64 i,.slice a 64 c] w fun e w'=>e=.returned (.int .i64 0)∧Dsk w' (More S w) p n d (ws++[⟨i,b⟩])∧Kept S w w':=by
 obtain ⟨q,cap,v,h⟩:=h
 have h0:=h.cell0
 obtain ⟨g,o,rfl,_⟩:=hb.cells (by omega)
 have HR:Hid (w.rangeAt g o (U8 b)):=hb.range
 have HH:Hid (PD w S p n d ws q cap v):=h
 have hat:∀w,(Instr.arrayAt 107 (.slice (some ⟨g,o,none⟩) 64 c)).run prog w=.ok (.pointer (some ⟨g,o,none⟩)) w:=fun w=>run_arrayAt w 107 _ 64 _ 64 c underlying107 (by omega)
 have HL:Hid (b.length=64):=hb.len
 have HI:Hid ((prog.info? 107).map (·.size)=some (U8 b).length):=by show _=_;rw[U8_length,HL.out];exact size69
 have HY:Hid (Bytes b):=hb.byte
 clear h hb
 go_enter func64,ntmps64
 go_wp2_with fail
 refine (refuses_any i w p n q cap h0).mono ?_
 rintro e w1 ⟨rfl,rfl⟩
 rw[refS,if_pos (by omega)]
 go_wp2_with (first | (refine wpList_load_mid (by rfl) 107 (.tmp 20) (by rfl) g o (by rfl) (U8 b) _ HR.out underlying107 rfl HI.out ?_) | (refine wpList_build80 (by rfl) (.tmp 18) (.tmp 21) (by rfl) i b (by rfl) (by rfl) HL.out ?_) | (refine wpList_alloc80 (by rfl) (by rfl) ?_) | (refine wpList_store80 (by rfl) (.tmp 8) (.tmp 22) (by rfl) ⟨i,b⟩ (by rfl) (by rfl) HL.out ?_))
 simp only[Act.put,zA,zB,zC]
 obtain ⟨X,hX⟩:∃X,Wr.mk i b=X:=⟨_,rfl⟩
 have HXl:Hid (X.b.length=64):=by rw[← hX];exact HL.out
 have HXb:Hid (X.s=i∧X.b=b):=by rw[← hX];exact⟨rfl,rfl⟩
 rw[hX]
 have r0:(w.alloc (.cells (wcell X).toArray 114)).rangeAt w.heap.size 0 (wcell X):=new_range w _ 114
 have hsz:(w.alloc (.cells (wcell X).toArray 114)).heap.size=w.heap.size+1:=by simp
 have hp1:PD (w.alloc (.cells (wcell X).toArray 114)) S p n d ws q cap v:=HH.out.later (below_alloc w _)
 have hK0:Kept S w (w.alloc (.cells (wcell X).toArray 114)):=Kept.of_below (below_alloc w _)
 obtain ⟨W,hW⟩:∃W,w.alloc (.cells (wcell X).toArray 114)=W:=⟨_,rfl⟩
 rw[hW] at r0 hsz hp1 hK0 ⊢
 have HW:Hid (w.alloc (.cells (wcell X).toArray 114)=W):=hW
 clear hW
 obtain ⟨i0,hi0,hz0,hz1,hz2⟩:=info_parts info80
 have c1:=hp1.cell1
 have c2:∀ob,(W.alloc ob).cell? ⟨p,1,none⟩=some v:=fun ob=>(hp1.later (below_alloc W ob)).cell1
 refine wp_region_noPanic ?_
 refine wp_region_held_drew (S:=(fun w'=>w'.rangeAt w.heap.size 0 (wcell X))) (by kernel_rfl) r0 (fun hHeld=>?_)
 refine wpAnyH_take (i:=0) (v:=?v0) (by simp;rfl) (by kernel_rfl) (by kernel_rfl) (by kernel_rfl) (fun _ _ _ h=>h) (Or.inl ⟨by rfl,?y0⟩) hHeld ?r0
 case y0=>intro w hSw;go_simp;with_reducible rfl
 simp only[Act.put,zA,zB,zC]
 refine wpAnyH_take (i:=1) (v:=?v1) (by simp;rfl) (by kernel_rfl) (by kernel_rfl) (by kernel_rfl) (fun _ _ _ h=>h) (Or.inl ⟨by rfl,?y1⟩) hHeld ?r1
 case y1=>intro w hSw;go_simp;with_reducible rfl
 simp only[Act.put,zA,zB,zC]
 refine wpAnyH_take (i:=2) (v:=?v2) (by simp;rfl) (by kernel_rfl) (by kernel_rfl) (by kernel_rfl) (fun _ _ _ h=>h) (Or.inl ⟨by rfl,?y2⟩) hHeld ?r2
 case y2=>intro w hSw;go_simp;with_reducible rfl
 simp only[Act.put,zA,zB,zC]
 refine wpAnyH_take (i:=3) (v:=?v3) (by simp;rfl) (by kernel_rfl) (by kernel_rfl) (by kernel_rfl) (fun _ _ _ h=>h) (Or.inl ⟨by rfl,?y3⟩) hHeld ?r3
 case y3=>intro w hSw;go_simp;with_reducible rfl
 simp only[Act.put,zA,zB,zC]
 refine wpAnyH_take (i:=5) (v:=_) (by simp;rfl) (by kernel_rfl) (by kernel_rfl) (by kernel_rfl) (fun _ _ _ h=>h) (yieldsIf_load_mid (by rfl) 114 (.tmp 8) rfl w.heap.size 0 rfl (wcell X) _ (fun _ h=>h) underlying114 rfl (by rw[size80];simp[wcell,HXl.out])) hHeld ?_
 simp only[Act.put,zA,zB,zC]
 refine wpAnyH_ready (rs:=[4,6]) (by kernel_rfl) (by simp) ?_
 refine AllReadyH.cons (by simp;rfl) (fun K hK=>?_) (AllReadyH.cons (by simp;rfl) (fun K hK=>?_) AllReadyH.nil)
 ·go_simp
  refine hK.out _ _ hHeld (fun hHeld=>?_)
  clear hK K
  refine wpAnyH_ready (rs:=[6]) (by kernel_rfl) (by simp) ?_
  refine AllReadyH.cons (by simp;rfl) (fun K hK=>?_) AllReadyH.nil
  rw[if_pos (by rfl)]
  refine wp_buildSlice73 (.tmp 28) rfl X rfl HXl.out ?_
  refine hK.out _ _ (World.rangeAt_alloc hHeld _) (fun hHeld=>?_)
  clear hK K
  simp only[Act.put,zA,zB,zC]
  have e0:W.drew.heap.size=w.heap.size+1:=hsz
  simp only[e0,World.alloc_drew]
  refine wpAnyH_ready (rs:=[7]) (by kernel_rfl) (by simp) ?_
  refine AllReadyH.cons (by simp;rfl) (fun K hK=>?_) AllReadyH.nil
  refine step_append_lies _ rfl (.tmp 27) (.tmp 29) 103 rfl 0 114 i0 _ 65 72 underlying103 hi0 hz0 hz1 hz2 (by simp[Value.cells]) (by omega) v ws.length (WC ws) rfl (own_same (hp1.later (below_alloc W (.cells (wcell X).toArray 114))).wt (fun _ _=>rfl)) ⟨w.heap.size+1,0,none⟩ 1 1 (wcell X) rfl (by simp[wcell,HXl.out]) ?_ (wcell_ones X) (by omega) (by unfold maxLen;omega) (by omega) (Nat.zero_le _) (w.heap.size+2) (by simp[hsz]) ?_
  ·intro j u hu
   have e:=new_range W (wcell X) 114 j u hu
   rw[hsz] at e
   rw[Addr.add_mid]
   exact e
  intro g2 cap2 w2 hown hgrow hat2 hlt
  rw[← HW.out] at hgrow
  obtain ⟨s1,s2,s3,s4,s5⟩:=half_of (ob:=.cells (wcell X).toArray 114) HH.out hown ⟨hgrow.os,hgrow.tape,hgrow.output,hgrow.size,hgrow.block⟩ (or_map hat2 id id)
  refine hK.out _ _ s1 (fun hHeld=>?_)
  clear hK K
  simp only[Act.put,zA,zB,zC]
  refine wpAnyH_take (i:=8) (v:=?v8) (by simp;rfl) (by kernel_rfl) (by kernel_rfl) (by kernel_rfl) (fun _ _ _ h=>h) (Or.inl ⟨by rfl,?y8⟩) hHeld ?r8
  case y8=>intro w hSw;go_simp;with_reducible rfl
  simp only[Act.put,zA,zB,zC]
  refine wpAnyH_take (i:=9) (v:=?v9) (by simp;rfl) (by kernel_rfl) (by kernel_rfl) (by kernel_rfl) (fun _ _ _ h=>h) (Or.inl ⟨by rfl,?y9⟩) hHeld ?r9
  case y9=>intro w hSw;go_simp;with_reducible rfl
  simp only[Act.put,zA,zB,zC]
  refine wpAnyH_ready (rs:=[10]) (by kernel_rfl) (by simp) ?_
  refine AllReadyH.cons (by simp;rfl) (fun K hK=>?_) AllReadyH.nil
  go_simp
  refine hK.out _ _ s4 (fun hHeld=>?_)
  clear hK K
  refine wpAnyH_done (by kernel_rfl) (NoPanic.normal ?_) _
  have t0:(w2.setCell ⟨p,1,none⟩ (.slice (some ⟨g2,0,none⟩) (ws.length+1) cap2)).cell? ⟨p,0,none⟩=some (.slice (some ⟨q,0,none⟩) n cap):=by
   rw[cell_of_row _ _ _ _ 105 (0,0) s5.str];rfl
  have t1:=s5.rg
  rw[HXb.out.2] at t1
  have t2:(w2.setCell ⟨p,1,none⟩ (.slice (some ⟨g2,0,none⟩) (ws.length+1) cap2)).there q (i*128+64) 64:=s5.pl.blk.there _ _ (by have:=s5.pl.ncap;omega)
  have HD:Hid (Dsk ((w2.setCell ⟨p,1,none⟩ (.slice (some ⟨g2,0,none⟩) (ws.length+1) cap2)).setCells q (i*128+64) (U8 b)) (More S w) p n d (ws++[X])∧Kept S w ((w2.setCell ⟨p,1,none⟩ (.slice (some ⟨g2,0,none⟩) (ws.length+1) cap2)).setCells q (i*128+64) (U8 b))):=by
   have:=s5.done HH.out (by rw[HXb.out.1];exact hi) HXl.out (by rw[HXb.out.2];exact HY.out)
   rw[HXb.out.1,HXb.out.2] at this
   exact this
  have hqs:w.heap.size≠q:=by have:=HH.out.pl.blk.lt;omega
  have hpq:p≠q:=HH.out.pq
  obtain ⟨w3,hw3⟩:∃w3,w2.setCell ⟨p,1,none⟩ (.slice (some ⟨g2,0,none⟩) (ws.length+1) cap2)=w3:=⟨_,rfl⟩
  rw[hw3] at t0 t1 t2 HD ⊢
  clear hw3 s1 s2 s3 s4 s5 hown hgrow hat2 hlt hHeld
  go_wp2
  have hu:=underlying107
  have hi69:=HI.out
  have hl69:(U8 b).length=64:=by rw[U8_length];exact HL.out
  have hu1:=ones_u8 b
  have k0:(w3.drew.setCells q (i*128+64) (U8 b)).cell? ⟨p,0,none⟩=some (.slice (some ⟨q,0,none⟩) n cap):=by
   rw[World.cell?_setCells_out _ _ _ _ _ (fun e=>absurd e hpq)];exact t0
  have k1:(w3.drew.setCells q (i*128+64) (U8 b)).rangeAt w.heap.size 1 (U8 b):=World.rangeAt_setCells_apart (w:=w3.drew) t1 _ _ _ (Or.inl hqs)
  have k2:(w3.drew.setCells q (i*128+64) (U8 b)).there q (i*128+64) 64:=World.there_setCells (w:=w3.drew) t2 _ _ _
  have i0':(0:Int)≤(i:Int):=by omega
  have i1':(i:Int)<(n:Int):=by omega
  go_region_held3 (fun w'=>w'.cell? ⟨p,0,none⟩=some (.slice (some ⟨q,0,none⟩) n cap)∧w'.rangeAt w.heap.size 1 (U8 b)∧w'.there q (i*128+64) 64) (first | exact⟨t0,t1,t2⟩ | exact⟨k0,k1,k2⟩) (fail)
  clear hu hi69 hl69 hu1 k0 k1 k2
  rw[setCells_drew]
  go_wp2
  go_ret
  rw[hX]
  exact⟨rfl,HD.out.1.later ⟨rfl,rfl,rfl,Nat.le_refl _,fun _ _=>rfl⟩,HD.out.2.drew⟩
 ·rw[if_pos (by rfl)]
  refine wp_buildSlice73 (.tmp 28) rfl X rfl HXl.out ?_
  refine hK.out _ _ (World.rangeAt_alloc hHeld _) (fun hHeld=>?_)
  clear hK K
  simp only[Act.put,zA,zB,zC]
  refine wpAnyH_ready (rs:=[4]) (by kernel_rfl) (by simp) ?_
  refine AllReadyH.cons (by simp;rfl) (fun K hK=>?_) AllReadyH.nil
  have c3:=c2 (.cells (wcell X).toArray 114)
  go_simp
  refine hK.out _ _ hHeld (fun hHeld=>?_)
  clear hK K
  refine wpAnyH_ready (rs:=[7]) (by kernel_rfl) (by simp) ?_
  refine AllReadyH.cons (by simp;rfl) (fun K hK=>?_) AllReadyH.nil
  refine step_append_lies _ rfl (.tmp 27) (.tmp 29) 103 rfl 0 114 i0 _ 65 72 underlying103 hi0 hz0 hz1 hz2 (by simp[Value.cells]) (by omega) v ws.length (WC ws) rfl (own_same (hp1.later (below_alloc W (.cells (wcell X).toArray 114))).wt (fun _ _=>rfl)) ⟨w.heap.size+1,0,none⟩ 1 1 (wcell X) rfl (by simp[wcell,HXl.out]) ?_ (wcell_ones X) (by omega) (by unfold maxLen;omega) (by omega) (Nat.zero_le _) (w.heap.size+2) (by simp[hsz]) ?_
  ·intro j u hu
   have e:=new_range W (wcell X) 114 j u hu
   rw[hsz] at e
   rw[Addr.add_mid]
   exact e
  intro g2 cap2 w2 hown hgrow hat2 hlt
  rw[← HW.out] at hgrow
  obtain ⟨s1,s2,s3,s4,s5⟩:=half_of (ob:=.cells (wcell X).toArray 114) HH.out hown ⟨hgrow.os,hgrow.tape,hgrow.output,hgrow.size,hgrow.block⟩ (or_map hat2 id id)
  refine hK.out _ _ s1 (fun hHeld=>?_)
  clear hK K
  simp only[Act.put,zA,zB,zC]
  refine wpAnyH_take (i:=8) (v:=?v8b) (by simp;rfl) (by kernel_rfl) (by kernel_rfl) (by kernel_rfl) (fun _ _ _ h=>h) (Or.inl ⟨by rfl,?y8b⟩) hHeld ?r8b
  case y8b=>intro w hSw;go_simp;with_reducible rfl
  simp only[Act.put,zA,zB,zC]
  refine wpAnyH_take (i:=9) (v:=?v9b) (by simp;rfl) (by kernel_rfl) (by kernel_rfl) (by kernel_rfl) (fun _ _ _ h=>h) (Or.inl ⟨by rfl,?y9b⟩) hHeld ?r9b
  case y9b=>intro w hSw;go_simp;with_reducible rfl
  simp only[Act.put,zA,zB,zC]
  refine wpAnyH_ready (rs:=[10]) (by kernel_rfl) (by simp) ?_
  refine AllReadyH.cons (by simp;rfl) (fun K hK=>?_) AllReadyH.nil
  go_simp
  refine hK.out _ _ s4 (fun hHeld=>?_)
  clear hK K
  refine wpAnyH_done (by kernel_rfl) (NoPanic.normal ?_) _
  have t0:(w2.setCell ⟨p,1,none⟩ (.slice (some ⟨g2,0,none⟩) (ws.length+1) cap2)).cell? ⟨p,0,none⟩=some (.slice (some ⟨q,0,none⟩) n cap):=by
   rw[cell_of_row _ _ _ _ 105 (0,0) s5.str];rfl
  have t1:=s5.rg
  rw[HXb.out.2] at t1
  have t2:(w2.setCell ⟨p,1,none⟩ (.slice (some ⟨g2,0,none⟩) (ws.length+1) cap2)).there q (i*128+64) 64:=s5.pl.blk.there _ _ (by have:=s5.pl.ncap;omega)
  have HD:Hid (Dsk ((w2.setCell ⟨p,1,none⟩ (.slice (some ⟨g2,0,none⟩) (ws.length+1) cap2)).setCells q (i*128+64) (U8 b)) (More S w) p n d (ws++[X])∧Kept S w ((w2.setCell ⟨p,1,none⟩ (.slice (some ⟨g2,0,none⟩) (ws.length+1) cap2)).setCells q (i*128+64) (U8 b))):=by
   have:=s5.done HH.out (by rw[HXb.out.1];exact hi) HXl.out (by rw[HXb.out.2];exact HY.out)
   rw[HXb.out.1,HXb.out.2] at this
   exact this
  have hqs:w.heap.size≠q:=by have:=HH.out.pl.blk.lt;omega
  have hpq:p≠q:=HH.out.pq
  obtain ⟨w3,hw3⟩:∃w3,w2.setCell ⟨p,1,none⟩ (.slice (some ⟨g2,0,none⟩) (ws.length+1) cap2)=w3:=⟨_,rfl⟩
  rw[hw3] at t0 t1 t2 HD ⊢
  clear hw3 s1 s2 s3 s4 s5 hown hgrow hat2 hlt hHeld
  go_wp2
  have hu:=underlying107
  have hi69:=HI.out
  have hl69:(U8 b).length=64:=by rw[U8_length];exact HL.out
  have hu1:=ones_u8 b
  have k0:(w3.drew.setCells q (i*128+64) (U8 b)).cell? ⟨p,0,none⟩=some (.slice (some ⟨q,0,none⟩) n cap):=by
   rw[World.cell?_setCells_out _ _ _ _ _ (fun e=>absurd e hpq)];exact t0
  have k1:(w3.drew.setCells q (i*128+64) (U8 b)).rangeAt w.heap.size 1 (U8 b):=World.rangeAt_setCells_apart (w:=w3.drew) t1 _ _ _ (Or.inl hqs)
  have k2:(w3.drew.setCells q (i*128+64) (U8 b)).there q (i*128+64) 64:=World.there_setCells (w:=w3.drew) t2 _ _ _
  have i0':(0:Int)≤(i:Int):=by omega
  have i1':(i:Int)<(n:Int):=by omega
  go_region_held3 (fun w'=>w'.cell? ⟨p,0,none⟩=some (.slice (some ⟨q,0,none⟩) n cap)∧w'.rangeAt w.heap.size 1 (U8 b)∧w'.there q (i*128+64) 64) (first | exact⟨t0,t1,t2⟩ | exact⟨k0,k1,k2⟩) (fail)
  clear hu hi69 hl69 hu1 k0 k1 k2
  rw[setCells_drew]
  go_wp2
  go_ret
  rw[hX]
  exact⟨rfl,HD.out.1.later ⟨rfl,rfl,rfl,Nat.le_refl _,fun _ _=>rfl⟩,HD.out.2.drew⟩
end Go.Proofs.YtdadpepfpiimgaaGreatDoor
