import Derived.Test.YtcdjepkhdjpjcaaGreatDoorV12
import Derived.Test.YtcdjepkhdjpjcaaGreatDoorV21
import Derived.Test.YtcdjepkhdjpjcaaGreatDoorV22
import Derived.Test.YtcdjepkhdjpjcaaGreatDoorV28
set_option maxHeartbeats 20000000
set_option maxRecDepth 100000
namespace Go.Proofs.YtcdjepkhdjpjcaaGreatDoor.Q
open Go.RowKit
def put {α:Type}(f:Nat→α)(i:Nat)(a:α):Nat→α:=fun j=>if j=i then a else f j
theorem put_same {α:Type}(f:Nat→α)(i:Nat)(a:α):put f i a i=a:=if_pos rfl
theorem put_other {α:Type}(f:Nat→α){i j:Nat}(a:α)(h:j≠i):put f i a j=f j:=if_neg h
theorem or_id {a b c:Prop}(h:a∨b)(f:b→c):a∨c:=h.elim .inl fun x=>.inr (f x)
structure Th where
 at':World→(Nat→Prop)→Prop
 foot:Nat→Prop
 lt':∀w G b,at' w G→foot b→b<w.heap.size
 kept':∀w w' G G' S,at' w G→C.Kept S w w'→(∀b,foot b→¬S b)→(∀g,G g→¬S g)→(∀g,G g→G' g)→at' w' G'
def Th.at (w:World)(G:Nat→Prop)(t:Th):Prop:=t.at' w G
def Th.no:Th:=⟨fun _ _=>True,fun _=>False,fun _ _ _ _ h=>h.elim,fun _ _ _ _ _ _ _ _ _ _=>trivial⟩
variable {w0 w w':World} {G G':Nat→Prop}
theorem Th.lt {t:Th}(h:t.at w G){b:Nat}(hb:t.foot b):b<w.heap.size:=t.lt' w G b h hb
theorem Th.kept {t:Th}{S:Nat→Prop}(h:t.at w G)(hk:C.Kept S w w')(hf:∀b,t.foot b→¬S b)(hS:∀g,G g→¬S g)(hGG:∀g,G g→G' g):t.at w' G':=t.kept' w w' G G' S h hk hf hS hGG
structure Fam (w0 w:World) (T:Nat→Th) (G:Nat→Prop):Prop where
 at':∀i,i<40→(T i).at w G
 lo:∀i,i<40→∀b,(T i).foot b→w0.heap.size≤b
 apart:∀i j,i<40→j<40→i≠j→∀b,(T i).foot b→¬(T j).foot b
 im:∀i,i<40→∀b,(T i).foot b→¬G b
 glt:∀g,G g→g<w.heap.size
variable {P:Nat} {cs:Array Value} {T:Nat→Th}
theorem Fam.far {S:Nat→Prop}(h:Fam w0 w T G)(hk:C.Kept S w w')(hf:∀i,i<40→∀b,(T i).foot b→¬S b)(hS:∀g,G g→¬S g):Fam w0 w' T G :=
 ⟨fun i hi=>Th.kept (h.at' i hi) hk (hf i hi) hS (fun _ hg=>hg),h.lo,h.apart,h.im,fun g hg=>Nat.lt_of_lt_of_le (h.glt g hg) hk.size⟩
theorem Fam.later (h:Fam w0 w T G)(hb:Below w.heap.size w w'):Fam w0 w' T G:=h.far (C.Kept.of_below (fun _=>False) hb) (fun _ _ _ _ e=>e) (fun _ _ e=>e)
theorem Fam.move (h:Fam w0 w T G){i k:Nat}(hi:i<40)(hik:i≠k){t:Th}{S:Nat→Prop}(ht:t.at w' G')(hk:C.Kept S w w')(hS:∀b,S b→(T i).foot b)(hf:∀b,t.foot b→(T i).foot b∨w.heap.size≤b∨(k<40∧(T k).foot b))(hw:w0.heap.size≤w.heap.size)(hG:∀g,G g→G' g)(hG2:∀g,G' g→G g∨(w.heap.size≤g∧g<w'.heap.size∧¬t.foot g)):Fam w0 w' (put (put T i t) k .no) G':=by
 have hGS:∀g,G g→¬S g:=fun g hg hs=>h.im i hi g (hS g hs) hg
 have hnew:∀j,j<40→∀b,(T j).foot b→b<w.heap.size:=fun j hj b hb=>Th.lt (h.at' j hj) hb
 have hap:∀j,j<40→j≠i→j≠k→∀b,t.foot b→¬(T j).foot b:=fun j hj hji hjk b hb e=>by
  rcases hf b hb with h1 | h1 | ⟨h1,h2⟩
  ·exact h.apart j i hj hi hji b e h1
  ·have:=hnew j hj b e;omega
  ·exact h.apart j k hj h1 hjk b e h2
 refine⟨fun j hj=>?_,fun j hj b hb=>?_,fun x y hx hy hne b hb=>?_,fun j hj b hb hg=>?_,fun g hg=>?_⟩
 ·by_cases e:j=k
  ·subst e;rw[put_same];trivial
  ·rw[put_other _ _ e]
   by_cases e2:j=i
   ·subst e2;rw[put_same];exact ht
   ·rw[put_other _ _ e2]
    exact Th.kept (h.at' j hj) hk (fun b hb hs=>h.apart j i hj hi e2 b hb (hS b hs)) hGS hG
 ·by_cases e:j=k
  ·subst e;rw[put_same] at hb;exact hb.elim
  ·rw[put_other _ _ e] at hb
   by_cases e2:j=i
   ·subst e2
    rw[put_same] at hb
    rcases hf b hb with h1 | h1 | ⟨h1,h2⟩
    ·exact h.lo j hj b h1
    ·omega
    ·exact h.lo k h1 b h2
   ·rw[put_other _ _ e2] at hb;exact h.lo j hj b hb
 ·by_cases e:x=k
  ·subst e;rw[put_same] at hb;exact hb.elim
  ·by_cases e':y=k
   ·subst e';rw[put_same];exact fun h=>h
   ·rw[put_other _ _ e] at hb
    rw[put_other _ _ e']
    by_cases e2:x=i
    ·subst e2
     rw[put_same] at hb
     rw[put_other _ _ (Ne.symm hne)]
     exact hap y hy (Ne.symm hne) e' b hb
    ·rw[put_other _ _ e2] at hb
     by_cases e3:y=i
     ·subst e3
      rw[put_same]
      exact fun h2=>hap x hx e2 e b h2 hb
     ·rw[put_other _ _ e3]
      exact h.apart x y hx hy hne b hb
 ·by_cases e:j=k
  ·subst e;rw[put_same] at hb;exact hb.elim
  ·rw[put_other _ _ e] at hb
   by_cases e2:j=i
   ·subst e2
    rw[put_same] at hb
    rcases hG2 b hg with h1 | ⟨_,_,h1⟩
    ·rcases hf b hb with h2 | h2 | ⟨h2,h3⟩
     ·exact h.im j hj b h2 h1
     ·have:=h.glt b h1;omega
     ·exact h.im k h2 b h3 h1
    ·exact h1 hb
   ·rw[put_other _ _ e2] at hb
    rcases hG2 b hg with h1 | ⟨h1,_⟩
    ·exact h.im j hj b hb h1
    ·have:=hnew j hj b hb;omega
 ·rcases hG2 g hg with h1 | ⟨_,h1,_⟩
  ·exact Nat.lt_of_lt_of_le (h.glt g h1) hk.size
  ·exact h1
theorem Fam.congr {T':Nat→Th}(h:Fam w0 w T G)(he:∀i,i<40→T' i=T i):Fam w0 w T' G :=
 ⟨fun i hi=>by rw[he i hi];exact h.at' i hi,fun i hi=>by rw[he i hi];exact h.lo i hi,fun i j hi hj=>by rw[he i hi,he j hj];exact h.apart i j hi hj,fun i hi=>by rw[he i hi];exact h.im i hi,h.glt⟩
theorem Fam.turn (h:Fam w0 w T G){i:Nat}(hi:i<40){t:Th}{S:Nat→Prop}(ht:t.at w' G')(hk:C.Kept S w w')(hS:∀b,S b→(T i).foot b)(hf:∀b,t.foot b→(T i).foot b∨w.heap.size≤b)(hw:w0.heap.size≤w.heap.size)(hG:∀g,G g→G' g)(hG2:∀g,G' g→G g∨(w.heap.size≤g∧g<w'.heap.size∧¬t.foot g)):Fam w0 w' (put T i t) G' :=
 (h.move (k:=40) hi (by omega) ht hk hS (fun b hb=>or_id (hf b hb) fun e=>.inl e) hw hG hG2).congr fun j hj=>by rw[put_other (put T i t) _ (by omega)]
theorem Fam.add (h:Fam w0 w T G){k:Nat}{u:Th}(hu:u.at w G)(hf:∀b,u.foot b→w0.heap.size≤b∧¬G b∧∀j,j<40→j≠k→¬(T j).foot b):Fam w0 w (put T k u) G:=by
 refine⟨fun j hj=>?_,fun j hj b hb=>?_,fun x y hx hy hne b hb=>?_,fun j hj b hb=>?_,h.glt⟩
 ·by_cases e:j=k
  ·subst e;rw[put_same];exact hu
  ·rw[put_other _ _ e];exact h.at' j hj
 ·by_cases e:j=k
  ·subst e;rw[put_same] at hb;exact (hf b hb).1
  ·rw[put_other _ _ e] at hb;exact h.lo j hj b hb
 ·by_cases e:x=k
  ·subst e
   rw[put_same] at hb
   rw[put_other _ _ (Ne.symm hne)]
   exact (hf b hb).2.2 y hy (Ne.symm hne)
  ·rw[put_other _ _ e] at hb
   by_cases e2:y=k
   ·subst e2
    rw[put_same]
    exact fun h2=>(hf b h2).2.2 x hx e hb
   ·rw[put_other _ _ e2];exact h.apart x y hx hy hne b hb
 ·by_cases e:j=k
  ·subst e;rw[put_same] at hb;exact (hf b hb).2.1
  ·rw[put_other _ _ e] at hb;exact h.im j hj b hb
theorem Fam.drop (h:Fam w0 w T G)(k:Nat):Fam w0 w (put T k .no) G:=h.add trivial fun _ hb=>hb.elim
theorem Fam.still {G2:Nat→Prop}(h:Fam w0 w T G)(hG:∀g,G g→G2 g)(hl:∀g,G2 g→g<w.heap.size)(hn:∀g,G2 g→¬G g→∀j,j<40→¬(T j).foot g):Fam w0 w T G2:=by
 refine⟨fun i hi=>Th.kept (h.at' i hi) (C.Kept.refl (fun _=>False) w) (fun _ _ e=>e) (fun _ _ e=>e) hG,h.lo,h.apart,fun i hi b hb hg=>?_,hl⟩
 by_cases e:G b
 ·exact h.im i hi b hb e
 ·exact hn b hg e i hi hb
theorem Fam.lt (h:Fam w0 w T G){i b:Nat}(hi:i<40)(hb:(T i).foot b):b<w.heap.size:=Th.lt (h.at' i hi) hb
theorem Fam.fresh {we:World}(h:Fam w0 we T G)(hw:w0.heap.size≤we.heap.size)(hb:Below we.heap.size we w)(k:Nat){u:Th}(hu:u.at w G)(hf:∀b,u.foot b→we.heap.size≤b):Fam w0 w (put T k u) G :=
 (h.later hb).add hu fun b hb2=>by
  have hb2:=hf b hb2
  refine⟨Nat.le_trans hw hb2,fun hg=>?_,fun j hj _ hx=>?_⟩
  ·have:=h.glt b hg;omega
  ·have:=h.lt hj hx;omega
theorem put_idem {α:Type}(f:Nat→α)(i:Nat){x:α}(h:f i=x):put f i x=f:=funext fun j=>by
 by_cases e:j=i
 ·subst e;rw[put_same,h]
 ·rw[put_other _ _ e]
theorem put_put {α:Type}(f:Nat→α)(i:Nat)(x y:α):put (put f i x) i y=put f i y:=funext fun j=>by
 by_cases e:j=i
 ·subst e;rw[put_same,put_same]
 ·rw[put_other _ _ e,put_other _ _ e,put_other _ _ e]
theorem put_comm {α:Type}(f:Nat→α){i k:Nat}(x y:α)(h:i≠k):put (put f i x) k y=put (put f k y) i x:=funext fun j=>by
 by_cases e:j=k
 ·subst e;rw[put_same,put_other _ _ (Ne.symm h),put_same]
 ·rw[put_other _ _ e]
  by_cases e2:j=i
  ·subst e2;rw[put_same,put_same]
  ·rw[put_other _ _ e2,put_other _ _ e2,put_other _ _ e]
theorem kH {S:Nat→Prop}(h:Kept S w w'):C.Kept S w w':=⟨h.os,h.tape,h.output,h.size,h.block⟩
theorem kE {S:Nat→Prop}(h:E.Kept S w w'):C.Kept S w w':=⟨h.os,h.tape,h.output,h.size,h.block⟩
theorem toH {S:Nat→Prop}(h:C.Kept S w w'):Kept S w w':=⟨h.os,h.tape,h.output,h.size,h.block⟩
theorem toE {S:Nat→Prop}(h:C.Kept S w w'):E.Kept S w w':=⟨h.os,h.tape,h.output,h.size,h.block⟩
end Go.Proofs.YtcdjepkhdjpjcaaGreatDoor.Q
namespace Go.Proofs.YtcdjepkhdjpjcaaGreatDoor.Q
open Go.RowKit
structure Sx where
 g:Lg
 d:List Int
 ws:List Wr
 a:E.Ad
 n:Int
 L:List C.En
 s:Bool
 p:Int
 c:Nat
structure Sx.Ok (x:Sx):Prop where
 g:x.g.Ok
 a:x.a.Ok
 k:C.Okc x.n x.L (C.nxR x.s x.p)
 p0:0≤x.p∧x.p≤4611686018427387904
 pf:x.s=false→x.p=0
def Sx.beg (x:Sx)(xs:List Int):Sx:={ x with a:=x.a.begS xs,c:=x.c+1 }
def Sx.ent (x:Sx):Sx:={ x with a:=x.a.entS,c:=x.c+1 }
def Sx.app (x:Sx)(t:Int):Sx:={ x with a:=x.a.appS t,c:=x.c+1 }
def Sx.don (x:Sx)(t:Int):Sx:={ x with a:=x.a.donS t,c:=x.c+1 }
def Sx.frd (x:Sx)(k:Int):Sx:={ x with a:=x.a.freS k,c:=x.c+1 }
def Sx.imgP (x:Sx)(b:Int):Int:=if imgS x.g b=0 then x.g.fin else 0
def Sx.img (x:Sx)(b:Int)(v:List Int):Sx:=if imgS x.g b=0 then { x with g:=imgG x.g b,ws:=x.ws++[⟨(secN x.g x.g.fin).toNat,R.encS (imgR x.g b v)⟩] } else x
def Sx.comP (x:Sx):Int:=if moreS x.g=0 then x.g.fin else 0
def Sx.com (x:Sx):Sx:=if moreS x.g=0 then { x with g:=comG x.g,ws:=x.ws++[⟨(secN x.g x.g.fin).toNat,R.encS (comR x.g)⟩] } else x
def Sx.fls (x:Sx):Sx:={ x with d:=settle (fun _=>true) x.ws x.d,ws:=[] }
def Sx.mrk (x:Sx)(t:Int):Sx:=if Out x.g t then x else { x with g:=mkG x.g t,ws:=x.ws++[⟨0,encS (supL x.g t)⟩] }
def Sx.fre (x:Sx):Sx:={ x with g:=frG x.g,d:=settle (fun _=>true) x.ws x.d,ws:=[] }
def Sx.put (x:Sx)(l:List C.Im)(q:Int):Sx:={ x with L:=C.putL x.n x.L (C.nxR x.s x.p) l q,s:=C.putS x.n x.s x.p l q,p:=C.putP x.n x.s x.p l q }
def Sx.putE (x:Sx)(l:List C.Im)(q:Int):Int:=C.putE x.n (C.nxR x.s x.p) l q
def Sx.drp (x:Sx)(l:List C.En):Sx:={ x with L:=C.drps x.L l }
def Sx.savE (x:Sx)(b:Int):Int:=rbS x.g.c (x.g.sz:Nat) b
def Sx.sav (x:Sx)(b:Int)(v:List Int):Sx:={ x with ws:=svW x.g.c (x.g.sz:Nat) x.ws b v }
theorem Sx.Ok.beg {x:Sx}(h:x.Ok)(xs:List Int):(x.beg xs).Ok:=⟨h.g,h.a.beg xs,h.k,h.p0,h.pf⟩
theorem Sx.Ok.ent {x:Sx}(h:x.Ok):x.ent.Ok:=⟨h.g,h.a.ent,h.k,h.p0,h.pf⟩
theorem Sx.Ok.app {x:Sx}(h:x.Ok)(t:Int):(x.app t).Ok:=⟨h.g,h.a.app t,h.k,h.p0,h.pf⟩
theorem Sx.Ok.img {x:Sx}(h:x.Ok)(b:Int)(v:List Int):(x.img b v).Ok:=by
 unfold Sx.img
 by_cases e:imgS x.g b=0
 ·rw[if_pos e];exact⟨imgG_ok h.g e,h.a,h.k,h.p0,h.pf⟩
 ·rw[if_neg e];exact h
theorem nxR_put {n:Int}{s:Bool}{p:Int}{l:List C.Im}{q:Int}:C.nxR (C.putS n s p l q) (C.putP n s p l q)=C.putX n (C.nxR s p) l q:=by
 unfold C.putS C.putP C.putX
 by_cases e:C.putE n (C.nxR s p) l q=0
 ·rw[if_pos e,if_pos e,if_pos e];rfl
 ·rw[if_neg e,if_neg e,if_neg e]
theorem putE_zero {n nx:Int}{l:List C.Im}{q:Int}(e:C.putE n nx l q=0):l.any (C.outI n)=false∧C.upI l=true∧nx≤q∧q≤4611686018427387904:=by
 unfold C.putE at e
 by_cases h1:l.any (C.outI n)=true
 ·rw[if_pos h1] at e;exact absurd e (by decide)
 ·rw[if_neg h1] at e
  by_cases h2:C.upI l=false
  ·rw[if_pos h2] at e;exact absurd e (by decide)
  ·rw[if_neg h2] at e
   by_cases h3:q<nx∨4611686018427387904<q
   ·rw[if_pos h3] at e;exact absurd e (by decide)
   ·refine⟨?_,?_,?_,?_⟩
    ·cases h:l.any (C.outI n)
     ·rfl
     ·exact absurd h h1
    ·cases h:C.upI l
     ·exact absurd h h2
     ·rfl
    ·omega
    ·omega
theorem Sx.Ok.put {x:Sx}(h:x.Ok){l:List C.Im}(hw:C.ImsWf l){q:Int}(hq:0≤q∧q<18446744073709551616):(x.put l q).Ok:=by
 refine⟨h.g,h.a,?_,?_,?_⟩
 ·show C.Okc x.n (C.putL x.n x.L (C.nxR x.s x.p) l q) (C.nxR (C.putS x.n x.s x.p l q) (C.putP x.n x.s x.p l q))
  rw[nxR_put];exact h.k.put hw hq
 ·show 0≤C.putP x.n x.s x.p l q∧C.putP x.n x.s x.p l q≤_
  unfold C.putP
  by_cases e:C.putE x.n (C.nxR x.s x.p) l q=0
  ·rw[if_pos e];exact⟨hq.1,(putE_zero e).2.2.2⟩
  ·rw[if_neg e];exact h.p0
 ·show C.putS x.n x.s x.p l q=false→C.putP x.n x.s x.p l q=0
  unfold C.putS C.putP
  by_cases e:C.putE x.n (C.nxR x.s x.p) l q=0
  ·rw[if_pos e];intro h;cases h
  ·rw[if_neg e,if_neg e];exact h.pf
theorem Sx.Ok.drp {x:Sx}(h:x.Ok)(l:List C.En):(x.drp l).Ok:=⟨h.g,h.a,h.k.drops l,h.p0,h.pf⟩
def Th.plog (S:Nat→Prop)(L p:Nat)(d:List Int)(ws:List Wr)(g:Lg):Th:=⟨fun w _=>LD w S L p d ws g∧∀k,S k→k<w.heap.size,S,fun _ _ _ h hb=>h.2 _ hb,fun _ _ _ _ _ h hk hf _ _=>⟨h.1.kept (toH hk) (fun k a b=>hf k a b),fun k a=>Nat.lt_of_lt_of_le (h.2 k a) hk.size⟩⟩
def Th.rlog (S:Nat→Prop)(L p:Nat)(d:List Int)(ws:List Wr)(g:Lg)(b:Int):Th:=⟨fun w _=>RL w S L p d ws g b∧∀k,S k→k<w.heap.size,S,fun _ _ _ h hb=>h.2 _ hb,fun _ _ _ _ _ h hk hf _ _=>⟨h.1.kept (toH hk) (fun k a b=>hf k a b),fun k a=>Nat.lt_of_lt_of_le (h.2 k a) hk.size⟩⟩
def Th.pline (F:E.Ft)(n:Nat)(a:E.Ad):Th:=⟨fun w G=>E.PL w F n a∧∀g,F.G g→G g,F.has,fun _ _ _ h hb=>h.1.lt hb,fun _ _ _ _ _ h hk hf hS hGG=>⟨h.1.far (toE hk) hf (fun g hg _=>hS g (h.2 g hg)),fun g hg=>hGG g (h.2 g hg)⟩⟩
def Th.rline (R:Nat)(a:E.Ad):Th:=⟨fun w G=>(∃vW vI ws is,E.RL w G R vW vI a ws is),fun b=>b=R,fun _ _ b h hb=>by obtain ⟨vW,vI,ws,is,h⟩:=h;rw[hb];exact h.lt,fun w _ _ _ _ h hk hf hS hGG=>by
 obtain ⟨vW,vI,ws,is,h⟩:=h
 exact⟨vW,vI,ws,is,h.kept (hk.block R h.lt (hf R rfl)) (fun g hg hl=>hk.block g hl (hS g hg)) hGG⟩⟩
def Th.pcac (Q:Nat)(n:Int)(v:Value)(L:List C.En)(nx:Int):Th:=⟨fun w _=>C.CAt w Q n v L nx,fun b=>b=Q∨v.ownBlock=some b,
 fun _ _ b h hb=>hb.elim (fun e=>e ▸ h.lt) (fun e=>(h.row.lt b e).2),fun _ _ _ _ _ h hk hf _ _=>h.far hk (hf _ (.inl rfl)) (fun g hg=>hf g (.inr hg))⟩
def Th.rcac (Q:Nat)(n:Int)(v:Value)(L:List C.En)(s:Bool)(p:Int):Th:=⟨fun w _=>C.RAt w Q n v L s p,fun b=>b=Q∨v.ownBlock=some b,
 fun _ _ b h hb=>hb.elim (fun e=>e ▸ h.lt) (fun e=>(h.row.lt b e).2),fun _ _ _ _ _ h hk hf _ _=>h.far hk (hf _ (.inl rfl)) (fun g hg=>hf g (.inr hg))⟩
def Th.blk (B:Nat)(t:TypeId)(cs:Array Value):Th:=⟨fun w _=>w.heap[B]?=some (.cells cs t (0,0)),fun b=>b=B,fun _ _ b h hb=>by rw[hb];exact (Array.getElem?_eq_some_iff.1 h).1,fun _ _ _ _ _ h hk hf _ _=>(hk.block B (Array.getElem?_eq_some_iff.1 h).1 (hf B rfl)).trans h⟩
def Th.row (t:TypeId)(s:Nat)(v:Value)(n:Nat)(xs:List Value):Th:=⟨fun w _=>w.ownsRow 0 t s v n xs,fun b=>v.ownBlock=some b,fun _ _ b h hb=>(World.ownsRow.lt h b hb).2,fun _ _ _ _ _ h hk hf _ _=>C.O.own_far h hk hf⟩
def Th.gfrm (v:Value)(f:List Int):Th:=⟨fun w G=>E.Frm w v f∧∀g,v.ownBlock=some g→G g,fun _=>False,fun _ _ _ _ h=>h.elim,fun _ _ _ _ _ h hk _ hS hGG=>⟨C.O.own_far h.1 hk fun g hg=>hS g (h.2 g hg),fun g hg=>hGG g (h.2 g hg)⟩⟩
abbrev Cm:Type:=List C.Im × Int
def comC (u:Option Addr × Nat)(q:Cm):List Value:=[.slice u.1 q.1.length u.2,.int .u64 q.2]
def comCs:List (Option Addr × Nat)→List Cm→List Value
 | u :: us,q :: qs=>comC u q++comCs us qs
 | _,_=>[]
structure Com1 (w:World) (G:Nat→Prop) (u:Option Addr × Nat) (q:Cm):Prop where
 im:C.MIn w u.1 q.1.length q.1
 few:q.1.length≤16
 g:∀a,u.1=some a→G a.block
 at':0≤q.2∧q.2<18446744073709551616
def Coms (w:World)(G:Nat→Prop):List (Option Addr × Nat)→List Cm→Prop
 | [],[]=>True
 | u :: us,q :: qs=>Com1 w G u q∧Coms w G us qs
 | _,_=>False
theorem Com1.kept {w w':World}{G G' S:Nat→Prop}{u:Option Addr × Nat}{q:Cm}(h:Com1 w G u q)(hk:C.Kept S w w')(hS:∀g,G g→¬S g)(hGG:∀g,G g→G' g):Com1 w' G' u q:=⟨h.im.far hk fun a ha _=>hS _ (h.g a ha),h.few,fun a ha=>hGG _ (h.g a ha),h.at'⟩
theorem Coms.kept {w w':World}{G G' S:Nat→Prop}(hk:C.Kept S w w')(hS:∀g,G g→¬S g)(hGG:∀g,G g→G' g):∀{us:List (Option Addr × Nat)} {qs:List Cm},Coms w G us qs→Coms w' G' us qs
 | [],[],_=>trivial
 | [],_ :: _,h=>h.elim
 | _ :: _,[],h=>h.elim
 | _ :: _,_ :: _,h=>⟨h.1.kept hk hS hGG,h.2.kept hk hS hGG⟩
theorem Coms.len {w:World}{G:Nat→Prop}:∀{us:List (Option Addr × Nat)} {qs:List Cm},Coms w G us qs→us.length=qs.length
 | [],[],_=>rfl
 | [],_ :: _,h=>h.elim
 | _ :: _,[],h=>h.elim
 | _ :: us,_ :: qs,h=>by rw[List.length_cons,List.length_cons,h.2.len]
structure PdAt (w:World) (G:Nat→Prop) (v:Value) (pd:List Cm):Prop where
 ex:∃us,w.ownsRow 0 153 2 v pd.length (comCs us pd)∧Coms w G us pd
def Th.pend (v:Value)(pd:List Cm):Th:=⟨fun w G=>PdAt w G v pd,fun b=>v.ownBlock=some b,fun _ _ b h hb=>by obtain ⟨us,h,_⟩:=h.ex;exact (World.ownsRow.lt h b hb).2,fun _ _ _ _ _ h hk hf hS hGG=>by
 obtain ⟨us,h,hc⟩:=h.ex
 exact⟨us,C.O.own_far h hk hf,hc.kept hk hS hGG⟩⟩
structure Ks where
 P:Nat
 dp:Nat
 lp:Nat
 ap:Nat
 kp:Nat
 dr:Nat
 lr:Nat
 ar:Nat
 kr:Nat
 c:Sup
abbrev qp (Q:Nat):Value:=.pointer (some ⟨Q,0,none⟩)
abbrev pdk (K:Ks):List Value:=ccells K.c++[qp K.dp,qp K.lp,qp K.ap,qp K.kp]
abbrev rdk (K:Ks):List Value:=ccells K.c++[qp K.dr,qp K.lr,qp K.ar,qp K.kr]
def dcells (K:Ks)(v:Value):Array Value:=(ccells K.c++(pdk K++(rdk K++[v]))).toArray
structure DF (w0 w:World) (K:Ks) (x y:Sx) (pd:List Cm) (T:Nat→Th) (G:Nat→Prop):Prop where
 fam:Fam w0 w T G
 below:Below w0.heap.size w0 w
 t0:∃S,T 0=.plog S K.lp K.dp x.d x.ws x.g
 t1:∃F n,T 1=.pline F n x.a∧F.Q=K.ap∧n≤2*x.c
 t2:∃v,T 2=.pcac K.kp x.n v x.L (C.nxR x.s x.p)
 t3:∃S b,T 3=.rlog S K.lr K.dr y.d y.ws y.g b
 t4:T 4=.rline K.ar y.a
 t5:∃v,T 5=.rcac K.kr y.n v y.L y.s y.p
 t6:∃v,T 6=.blk K.P 46 (dcells K v)∧T 7=.pend v pd
 okx:x.Ok
 oky:y.Ok
 cx:x.g.c=K.c
 cy:y.g.c=K.c
def DS (w0 w:World)(K:Ks)(x y:Sx)(pd:List Cm)(X:Nat→Th):Prop:=∃T G,DF w0 w K x y pd T G∧∀i,8≤i→i<40→T i=X i
section
variable {w0 w w':World} {K:Ks} {x y:Sx} {pd:List Cm} {X:Nat→Th} {T:Nat→Th} {G:Nat→Prop}
theorem DF.later (h:DF w0 w K x y pd T G)(hb:Below w.heap.size w w'):DF w0 w' K x y pd T G:=⟨h.fam.later hb,C.below_then h.below hb,h.t0,h.t1,h.t2,h.t3,h.t4,h.t5,h.t6,h.okx,h.oky,h.cx,h.cy⟩
theorem DS.later (h:DS w0 w K x y pd X)(hb:Below w.heap.size w w'):DS w0 w' K x y pd X:=by
 obtain ⟨T,G,h,hX⟩:=h
 exact⟨T,G,h.later hb,hX⟩
theorem DS.below (h:DS w0 w K x y pd X):Below w0.heap.size w0 w:=by
 obtain ⟨T,G,h,hX⟩:=h
 exact h.below
theorem DS.okx (h:DS w0 w K x y pd X):x.Ok:=by
 obtain ⟨T,G,h,hX⟩:=h
 exact h.okx
theorem DS.oky (h:DS w0 w K x y pd X):y.Ok:=by
 obtain ⟨T,G,h,hX⟩:=h
 exact h.oky
theorem DS.cx (h:DS w0 w K x y pd X):x.g.c=K.c:=by
 obtain ⟨T,G,h,hX⟩:=h
 exact h.cx
theorem DS.drop (h:DS w0 w K x y pd X){k:Nat}(hk:8≤k):DS w0 w K x y pd (put X k .no):=by
 obtain ⟨T,G,h,hX⟩:=h
 refine⟨put T k .no,G,⟨h.fam.drop k,h.below,?_,?_,?_,?_,?_,?_,?_,h.okx,h.oky,h.cx,h.cy⟩,fun i h8 h40=>?_⟩
 ·rw[put_other _ _ (by omega)];exact h.t0
 ·rw[put_other _ _ (by omega)];exact h.t1
 ·rw[put_other _ _ (by omega)];exact h.t2
 ·rw[put_other _ _ (by omega)];exact h.t3
 ·rw[put_other _ _ (by omega)];exact h.t4
 ·rw[put_other _ _ (by omega)];exact h.t5
 ·rw[put_other _ _ (by omega),put_other _ _ (by omega)];exact h.t6
 ·by_cases e:i=k
  ·subst e;rw[put_same,put_same]
  ·rw[put_other _ _ e,put_other _ _ e,hX i h8 h40]
theorem DS.congr {X':Nat→Th}(h:DS w0 w K x y pd X)(he:∀i,8≤i→i<40→X' i=X i):DS w0 w K x y pd X':=by
 obtain ⟨T,G,h,hX⟩:=h
 exact⟨T,G,h,fun i h8 h40=>(hX i h8 h40).trans (he i h8 h40).symm⟩
theorem DS.fresh {we:World}(h:DS w0 we K x y pd X)(hb:Below we.heap.size we w){k:Nat}(hk:8≤k){u:Th}(hu:∀G,u.at w G)(hf:∀b,u.foot b→we.heap.size≤b):DS w0 w K x y pd (put X k u):=by
 obtain ⟨T,G,h,hX⟩:=h
 refine⟨put T k u,G,⟨h.fam.fresh h.below.size hb k (hu G) hf,C.below_then h.below hb,?_,?_,?_,?_,?_,?_,?_,h.okx,h.oky,h.cx,h.cy⟩,fun i h8 h40=>?_⟩
 ·rw[put_other _ _ (by omega)];exact h.t0
 ·rw[put_other _ _ (by omega)];exact h.t1
 ·rw[put_other _ _ (by omega)];exact h.t2
 ·rw[put_other _ _ (by omega)];exact h.t3
 ·rw[put_other _ _ (by omega)];exact h.t4
 ·rw[put_other _ _ (by omega)];exact h.t5
 ·rw[put_other _ _ (by omega),put_other _ _ (by omega)];exact h.t6
 ·by_cases e:i=k
  ·subst e;rw[put_same,put_same]
  ·rw[put_other _ _ e,put_other _ _ e,hX i h8 h40]
theorem DS.desk (h:DS w0 w K x y pd X):∃v,w.heap[K.P]?=some (.cells (dcells K v) 46 (0,0))∧∃G,PdAt w G v pd:=by
 obtain ⟨T,G,h,hX⟩:=h
 obtain ⟨v,e1,e2⟩:=h.t6
 have a:=h.fam.at' 6 (by omega)
 have b:=h.fam.at' 7 (by omega)
 rw[e1] at a
 rw[e2] at b
 exact⟨v,a,G,b⟩
end
section
variable {w0 w:World} {K:Ks} {x y:Sx} {pd:List Cm} {X:Nat→Th}
theorem DS.plog (h:DS w0 w K x y pd X):∃S,LD w S K.lp K.dp x.d x.ws x.g∧(∀k,S k→k<w.heap.size)∧∀w' S' d' ws' g',LD w' S' K.lp K.dp d' ws' g'→Kept S w w'→(∀k,S' k→S k∨w.heap.size≤k)→g'.c=x.g.c→DS w0 w' K { x with d:=d',ws:=ws',g:=g' } y pd X:=by
 obtain ⟨T,G,h,hX⟩:=h
 obtain ⟨S,e⟩:=h.t0
 have a:=h.fam.at' 0 (by omega)
 have lo:=h.fam.lo 0 (by omega)
 rw[e] at a lo
 refine⟨S,a.1,a.2,fun w' S' d' ws' g' hl hk hs hc=>⟨put T 0 (.plog (fun k=>S' k∧k<w'.heap.size) K.lp K.dp d' ws' g'),G,⟨h.fam.turn (S:=S) (by omega) ⟨hl.mono fun k h1 h2=>⟨h2,h1⟩,fun k h1=>h1.2⟩ (kH hk) (fun b hb=>by rw[e];exact hb) (fun b hb=>by rw[e];exact hs b hb.1) h.below.size (fun _ a=>a) (fun _ a=>.inl a),(kH hk).into h.below (fun b h1 h2=>by have:=lo b h2;omega) (Nat.le_refl _),⟨_,put_same _ _ _⟩,by rw[put_other _ _ (by decide)];exact h.t1,by rw[put_other _ _ (by decide)];exact h.t2,by rw[put_other _ _ (by decide)];exact h.t3,by rw[put_other _ _ (by decide)];exact h.t4,by rw[put_other _ _ (by decide)];exact h.t5,by rw[put_other _ _ (by decide),put_other _ _ (by decide)];exact h.t6,⟨hl.ok,h.okx.a,h.okx.k,h.okx.p0,h.okx.pf⟩,h.oky,hc.trans h.cx,h.cy⟩,fun j h8 h40=>by rw[put_other _ _ (by omega)];exact hX j h8 h40⟩⟩
theorem DS.rlog (h:DS w0 w K x y pd X):∃S b,RL w S K.lr K.dr y.d y.ws y.g b∧(∀k,S k→k<w.heap.size)∧∀w' S' d' ws' g' b',RL w' S' K.lr K.dr d' ws' g' b'→Kept S w w'→(∀k,S' k→S k∨w.heap.size≤k)→g'.c=y.g.c→DS w0 w' K x { y with d:=d',ws:=ws',g:=g' } pd X:=by
 obtain ⟨T,G,h,hX⟩:=h
 obtain ⟨S,b,e⟩:=h.t3
 have a:=h.fam.at' 3 (by omega)
 have lo:=h.fam.lo 3 (by omega)
 rw[e] at a lo
 refine⟨S,b,a.1,a.2,fun w' S' d' ws' g' b' hl hk hs hc=>⟨put T 3 (.rlog (fun k=>S' k∧k<w'.heap.size) K.lr K.dr d' ws' g' b'),G,⟨h.fam.turn (S:=S) (by omega) ⟨hl.mono fun k h1 h2=>⟨h2,h1⟩,fun k h1=>h1.2⟩ (kH hk) (fun b hb=>by rw[e];exact hb) (fun b hb=>by rw[e];exact hs b hb.1) h.below.size (fun _ a=>a) (fun _ a=>.inl a),(kH hk).into h.below (fun b h1 h2=>by have:=lo b h2;omega) (Nat.le_refl _),by rw[put_other _ _ (by decide)];exact h.t0,by rw[put_other _ _ (by decide)];exact h.t1,by rw[put_other _ _ (by decide)];exact h.t2,⟨_,_,put_same _ _ _⟩,by rw[put_other _ _ (by decide)];exact h.t4,by rw[put_other _ _ (by decide)];exact h.t5,by rw[put_other _ _ (by decide),put_other _ _ (by decide)];exact h.t6,h.okx,⟨hl.ok,h.oky.a,h.oky.k,h.oky.p0,h.oky.pf⟩,h.cx,hc.trans h.cy⟩,fun j h8 h40=>by rw[put_other _ _ (by omega)];exact hX j h8 h40⟩⟩
theorem DS.pcac (h:DS w0 w K x y pd X):∃v G,C.CAt w K.kp x.n v x.L (C.nxR x.s x.p)∧(∀i,8≤i→i<40→(X i).at w G)∧(∀b,b=K.kp∨v.ownBlock=some b→¬G b)∧(∀i,8≤i→i<40→∀b,(X i).foot b→¬(b=K.kp∨v.ownBlock=some b))∧∀w' v' L' s' p',C.Wrt w w' K.kp x.n v v' L' (C.nxR s' p')→({ x with L:=L',s:=s',p:=p' }:Sx).Ok→DS w0 w' K { x with L:=L',s:=s',p:=p' } y pd X:=by
 obtain ⟨T,G,h,hX⟩:=h
 obtain ⟨v,e⟩:=h.t2
 have a:=h.fam.at' 2 (by omega)
 have lo:=h.fam.lo 2 (by omega)
 have im:=h.fam.im 2 (by omega)
 have ap:∀i,8≤i→i<40→∀b,(T i).foot b→¬(T 2).foot b:=fun i h8 h40=>h.fam.apart i 2 h40 (by omega) (by omega)
 rw[e] at a lo im
 refine⟨v,G,a,fun i h8 h40=>by rw[← hX i h8 h40];exact h.fam.at' i h40,im,fun i h8 h40 b hb=>by have:=ap i h8 h40 b (by rw[hX i h8 h40];exact hb);rw[e] at this;exact this,fun w' v' L' s' p' hw ok=>⟨put T 2 (.pcac K.kp x.n v' L' (C.nxR s' p')),G,⟨h.fam.turn (S:=fun k=>k=K.kp∨v.ownBlock=some k) (by omega) hw.at' hw.kept (fun b hb=>by rw[e];exact hb) (fun b hb=>by rw[e];exact hb.elim (fun c=>.inl (.inl c)) fun c=>(hw.new b c).elim (fun d=>.inl (.inr d)) .inr) h.below.size (fun _ a=>a) (fun _ a=>.inl a),hw.kept.into h.below (fun b h1 h2=>by have:=lo b h2;omega) (Nat.le_refl _),by rw[put_other _ _ (by decide)];exact h.t0,by rw[put_other _ _ (by decide)];exact h.t1,⟨_,put_same _ _ _⟩,by rw[put_other _ _ (by decide)];exact h.t3,by rw[put_other _ _ (by decide)];exact h.t4,by rw[put_other _ _ (by decide)];exact h.t5,by rw[put_other _ _ (by decide),put_other _ _ (by decide)];exact h.t6,ok,h.oky,h.cx,h.cy⟩,fun j h8 h40=>by rw[put_other _ _ (by omega)];exact hX j h8 h40⟩⟩
theorem DS.rcac (h:DS w0 w K x y pd X):∃v G,C.RAt w K.kr y.n v y.L y.s y.p∧(∀i,8≤i→i<40→(X i).at w G)∧(∀b,b=K.kr∨v.ownBlock=some b→¬G b)∧(∀i,8≤i→i<40→∀b,(X i).foot b→¬(b=K.kr∨v.ownBlock=some b))∧∀w' v' L' s' p',C.RWrt w w' K.kr y.n v v' L' s' p'→({ y with L:=L',s:=s',p:=p' }:Sx).Ok→DS w0 w' K x { y with L:=L',s:=s',p:=p' } pd X:=by
 obtain ⟨T,G,h,hX⟩:=h
 obtain ⟨v,e⟩:=h.t5
 have a:=h.fam.at' 5 (by omega)
 have lo:=h.fam.lo 5 (by omega)
 have im:=h.fam.im 5 (by omega)
 have ap:∀i,8≤i→i<40→∀b,(T i).foot b→¬(T 5).foot b:=fun i h8 h40=>h.fam.apart i 5 h40 (by omega) (by omega)
 rw[e] at a lo im
 refine⟨v,G,a,fun i h8 h40=>by rw[← hX i h8 h40];exact h.fam.at' i h40,im,fun i h8 h40 b hb=>by have:=ap i h8 h40 b (by rw[hX i h8 h40];exact hb);rw[e] at this;exact this,fun w' v' L' s' p' hw ok=>⟨put T 5 (.rcac K.kr y.n v' L' s' p'),G,⟨h.fam.turn (S:=fun k=>k=K.kr∨v.ownBlock=some k) (by omega) hw.at' hw.kept (fun b hb=>by rw[e];exact hb) (fun b hb=>by rw[e];exact hb.elim (fun c=>.inl (.inl c)) fun c=>(hw.new b c).elim (fun d=>.inl (.inr d)) .inr) h.below.size (fun _ a=>a) (fun _ a=>.inl a),hw.kept.into h.below (fun b h1 h2=>by have:=lo b h2;omega) (Nat.le_refl _),by rw[put_other _ _ (by decide)];exact h.t0,by rw[put_other _ _ (by decide)];exact h.t1,by rw[put_other _ _ (by decide)];exact h.t2,by rw[put_other _ _ (by decide)];exact h.t3,by rw[put_other _ _ (by decide)];exact h.t4,⟨_,put_same _ _ _⟩,by rw[put_other _ _ (by decide),put_other _ _ (by decide)];exact h.t6,h.okx,ok,h.cx,h.cy⟩,fun j h8 h40=>by rw[put_other _ _ (by omega)];exact hX j h8 h40⟩⟩
theorem DS.pline (h:DS w0 w K x y pd X):∃F n,E.PL w F n x.a∧F.Q=K.ap∧n≤2*x.c∧∀w' F' n' a',E.PL w' F' n' a'→F'.Q=K.ap→n'≤2*(x.c+1)→E.Kept F.has w w'→(∀b,F'.has b→F.has b∨w.heap.size≤b)→(∀g,F'.G g→F.G g∨(w.heap.size≤g∧g<w'.heap.size∧¬F'.has g))→DS w0 w' K { x with a:=a',c:=x.c+1 } y pd X:=by
 obtain ⟨T,G,h,hX⟩:=h
 obtain ⟨F,n,e,hQ,hn⟩:=h.t1
 have a:=h.fam.at' 1 (by omega)
 have lo:=h.fam.lo 1 (by omega)
 rw[e] at a lo
 refine⟨F,n,a.1,hQ,hn,fun w' F' n' a' hl hQ' hn' hk hs hg=>⟨put T 1 (.pline F' n' a'),fun g=>G g∨F'.G g,⟨h.fam.turn (S:=F.has) (by omega) ⟨hl,fun g hg=>.inr hg⟩ (kE hk) (fun b hb=>by rw[e];exact hb) (fun b hb=>by rw[e];exact hs b hb) h.below.size (fun _ a=>.inl a) (fun g b=>b.elim .inl fun c=>(hg g c).elim (fun d=>.inl (a.2 g d)) .inr),(kE hk).into h.below (fun b h1 h2=>by have:=lo b h2;omega) (Nat.le_refl _),by rw[put_other _ _ (by decide)];exact h.t0,⟨_,_,put_same _ _ _,hQ',hn'⟩,by rw[put_other _ _ (by decide)];exact h.t2,by rw[put_other _ _ (by decide)];exact h.t3,by rw[put_other _ _ (by decide)];exact h.t4,by rw[put_other _ _ (by decide)];exact h.t5,by rw[put_other _ _ (by decide),put_other _ _ (by decide)];exact h.t6,⟨h.okx.g,hl.ok,h.okx.k,h.okx.p0,h.okx.pf⟩,h.oky,h.cx,h.cy⟩,fun j h8 h40=>by rw[put_other _ _ (by omega)];exact hX j h8 h40⟩⟩
theorem DS.rline (h:DS w0 w K x y pd X):∃G vW vI ws is,E.RL w G K.ar vW vI y.a ws is∧¬G K.ar∧(∀w' a',E.RAf w w' G K.ar a'→a'.Ok→DS w0 w' K x { y with a:=a',c:=y.c+1 } pd X)∧∀w' a' v f j,E.RAf w w' G K.ar a'→a'.Ok→E.Frm w' v f→(∀g,v.ownBlock=some g→E.Gp w w' G g)→8≤j→DS w0 w' K x { y with a:=a',c:=y.c+1 } pd (put X j (.gfrm v f)):=by
 obtain ⟨T,G,h,hX⟩:=h
 have e:=h.t4
 have a:=h.fam.at' 4 (by omega)
 have lo:=h.fam.lo 4 (by omega)
 have im:=h.fam.im 4 (by omega) K.ar
 rw[e] at a lo im
 obtain ⟨vW,vI,ws,is,a⟩:=a
 have main:∀w' a',E.RAf w w' G K.ar a'→a'.Ok→DF w0 w' K x { y with a:=a',c:=y.c+1 } pd (put T 4 (.rline K.ar a')) (E.Gp w w' G):=fun w' a' hr ok=>⟨h.fam.turn (S:=(·=K.ar)) (by omega) hr.rl (kE hr.kept) (fun b hb=>by rw[e];exact hb) (fun b hb=>by rw[e];exact .inl hb) h.below.size (fun _ a=>.inl a) (fun g a'=>a'.elim .inl fun c=>.inr ⟨c.1,c.2,fun d=>by have:=a.lt;have:g=K.ar:=d;have:=c.1;omega⟩),(kE hr.kept).into h.below (fun b h1 h2=>by have:=lo b h2;omega) (Nat.le_refl _),by rw[put_other _ _ (by decide)];exact h.t0,by rw[put_other _ _ (by decide)];exact h.t1,by rw[put_other _ _ (by decide)];exact h.t2,by rw[put_other _ _ (by decide)];exact h.t3,put_same _ _ _,by rw[put_other _ _ (by decide)];exact h.t5,by rw[put_other _ _ (by decide),put_other _ _ (by decide)];exact h.t6,h.okx,⟨h.oky.g,ok,h.oky.k,h.oky.p0,h.oky.pf⟩,h.cx,h.cy⟩
 refine⟨G,vW,vI,ws,is,a,im rfl,fun w' a' hr ok=>⟨_,_,main w' a' hr ok,fun j h8 h40=>by rw[put_other _ _ (by omega)];exact hX j h8 h40⟩,fun w' a' v f j hr ok hf hg hj=>?_⟩
 have m:=main w' a' hr ok
 refine⟨put (put T 4 (.rline K.ar a')) j (.gfrm v f),_,⟨m.fam.add ⟨hf,hg⟩ (fun _ e=>e.elim),m.below,?_,?_,?_,?_,?_,?_,?_,m.okx,m.oky,m.cx,m.cy⟩,fun i h8 h40=>?_⟩
 ·rw[put_other _ _ (by omega)];exact m.t0
 ·rw[put_other _ _ (by omega)];exact m.t1
 ·rw[put_other _ _ (by omega)];exact m.t2
 ·rw[put_other _ _ (by omega)];exact m.t3
 ·rw[put_other _ _ (by omega)];exact m.t4
 ·rw[put_other _ _ (by omega)];exact m.t5
 ·rw[put_other _ _ (show 6≠j by omega),put_other _ _ (show 7≠j by omega)];exact m.t6
 ·by_cases e:i=j
  ·subst e;rw[put_same,put_same]
  ·rw[put_other _ _ e,put_other _ _ e,put_other _ _ (by omega)];exact hX i h8 h40
end
open Go.Proofs.Tryz
section
variable {w0 w:World} {K:Ks} {x y:Sx} {pd:List Cm} {X:Nat→Th}
theorem DS.tab (h:DS w0 w K x y pd X)(ht:Tab w0):Tab w:=ht.later h.below
theorem p_image (ht:Tab w0)(h:DS w0 w K x y pd X)(hk:x.ws.length≤100000)(b:Int)(v:List Int)(hv:v.length=32)(hvb:Bytes v):Calls prog 39 #[qp K.lp,.int .i64 b,.agg (U8 v).toArray] w fun e w'=>e=.returned (.tuple #[.int .u64 (x.imgP b),.int .i64 (imgS x.g b)])∧DS w0 w' K (x.img b v) y pd X:=by
 obtain ⟨S,hl,-,back⟩:=h.plog
 by_cases e:imgS x.g b=0
 ·refine (image_ok hl hk (h.tab ht) b v hv hvb e).mono ?_
  rintro e' w' ⟨rfl,hl',hk'⟩
  rw[Sx.imgP,Sx.img,if_pos e,if_pos e,e]
  exact⟨rfl,back w' _ _ _ _ hl' hk' (fun _ a=>a) rfl⟩
 ·refine (image_no hl.log hl.ok b v e).mono ?_
  rintro e' w' ⟨rfl,hb⟩
  rw[Sx.imgP,Sx.img,if_neg e,if_neg e]
  exact⟨rfl,h.later hb⟩
theorem p_commit (ht:Tab w0)(h:DS w0 w K x y pd X)(hk:x.ws.length≤100000):Calls prog 41 #[qp K.lp] w fun e w'=>e=.returned (.tuple #[.int .u64 x.comP,.int .i64 (moreS x.g)])∧DS w0 w' K x.com y pd X:=by
 obtain ⟨S,hl,-,back⟩:=h.plog
 by_cases e:moreS x.g=0
 ·refine (commit_ok hl hk (h.tab ht) e).mono ?_
  rintro e' w' ⟨rfl,hl',hk'⟩
  rw[Sx.comP,Sx.com,if_pos e,if_pos e,e]
  exact⟨rfl,back w' _ _ _ _ hl' hk' (fun _ a=>a) rfl⟩
 ·refine (commit_no hl.log hl.ok e).mono ?_
  rintro e' w' ⟨rfl,hb⟩
  rw[Sx.comP,Sx.com,if_neg e,if_neg e]
  exact⟨rfl,h.later hb⟩
theorem p_flush (h:DS w0 w K x y pd X)(hk:x.ws.length≤100000):Calls prog 43 #[qp K.lp] w fun e w'=>e=.returned (.tuple #[.int .i64 x.ws.length,.int .i64 0])∧DS w0 w' K x.fls y pd X:=by
 obtain ⟨S,hl,-,back⟩:=h.plog
 refine (wflush_at hl hk).mono ?_
 rintro e' w' ⟨rfl,hl',hk'⟩
 exact⟨rfl,back w' _ _ _ _ hl' hk' (fun _ a=>.inl a) rfl⟩
theorem p_mark (ht:Tab w0)(h:DS w0 w K x y pd X)(hk:x.ws.length≤100000)(t:Int):Calls prog 102 #[qp K.lp,.int .u64 t] w fun e w'=>e=.returned (.int .i64 (if Out x.g t then 2 else 0))∧DS w0 w' K (x.mrk t) y pd X:=by
 obtain ⟨S,hl,-,back⟩:=h.plog
 by_cases e:Out x.g t
 ·refine (mark_no hl.log t e).mono ?_
  rintro e' w' ⟨rfl,rfl⟩
  rw[Sx.mrk,if_pos e,if_pos e]
  exact⟨rfl,h⟩
 ·refine (mark_ok hl hk (h.tab ht) t e).mono ?_
  rintro e' w' ⟨rfl,hl',hk'⟩
  rw[Sx.mrk,if_neg e,if_neg e]
  exact⟨rfl,back w' _ _ _ _ hl' hk' (fun _ a=>a) rfl⟩
theorem p_free (h:DS w0 w K x y pd X)(hk:x.ws.length≤100000):Calls prog 104 #[qp K.lp] w fun e w'=>e=.returned (.tuple #[.int .i64 (x.g.mark-x.g.tail),.int .i64 0])∧DS w0 w' K x.fre y pd X:=by
 obtain ⟨S,hl,-,back⟩:=h.plog
 refine (free_at hl hk).mono ?_
 rintro e' w' ⟨rfl,hl',hk'⟩
 exact⟨rfl,back w' _ _ _ _ hl' hk' (fun _ a=>.inl a) rfl⟩
theorem p_tail (h:DS w0 w K x y pd X):Calls prog 22 #[qp K.lp] w fun e w'=>e=.returned (.int .u64 x.g.tail)∧w=w':=by
 obtain ⟨S,hl,-,-⟩:=h.plog
 exact ltail_at hl.log
theorem p_end (h:DS w0 w K x y pd X):Calls prog 14 #[qp K.lp] w fun e w'=>e=.returned (.int .u64 x.g.fin)∧w=w':=by
 obtain ⟨S,hl,-,-⟩:=h.plog
 exact lend_at hl.log
theorem p_marked (h:DS w0 w K x y pd X):Calls prog 103 #[qp K.lp] w fun e w'=>e=.returned (.int .u64 x.g.mark)∧w=w':=by
 obtain ⟨S,hl,-,-⟩:=h.plog
 exact lmarked_at hl.log
theorem p_save (ht:Tab w0)(h:DS w0 w K x y pd X)(hk:x.ws.length≤100000)(b:Int)(v:List Int)(hv:v.length=32)(hvb:Bytes v):Calls prog 100 #[qp K.dp,.agg (ccells K.c).toArray,.int .i64 b,.agg (U8 v).toArray] w fun e w'=>e=.returned (.int .i64 (x.savE b))∧DS w0 w' K (x.sav b v) y pd X:=by
 obtain ⟨S,hl,-,back⟩:=h.plog
 have hc:=h.cx
 refine (hsave_any K.c b v hv hvb hl.dsk hk (h.tab ht)).mono ?_
 rintro e' w' ⟨rfl,hd,hk'⟩
 obtain ⟨hl',hk2⟩:=hl.wrote hd hk'
 rw[Sx.savE,Sx.sav,hc]
 exact⟨rfl,back w' _ _ _ _ hl' hk2 (fun _ a=>a) rfl⟩
theorem p_load (ht:Tab w0)(h:DS w0 w K x y pd X)(b:Int):Calls prog 18 #[qp K.dp,.agg (ccells K.c).toArray,.int .i64 b] w fun e w'=>e=.returned (.tuple #[.agg (U8 (ldS K.c (x.g.sz:Nat) x.ws x.d b).1).toArray,.int .i64 (ldS K.c (x.g.sz:Nat) x.ws x.d b).2])∧Below w.heap.size w w':=by
 obtain ⟨S,hl,-,-⟩:=h.plog
 exact hload_any K.c b hl.dsk (h.tab ht)
theorem r_image (h:DS w0 w K x y pd X)(hk:y.ws.length≤100000)(b:Int)(v:List Int)(hv:v.length=32)(hvb:Bytes v):Calls prog 68 #[qp K.lr,.int .i64 b,.agg (U8 v).toArray] w fun e w'=>e=.returned (.tuple #[.int .u64 (y.imgP b),.int .i64 (imgS y.g b)])∧DS w0 w' K x (y.img b v) pd X:=by
 obtain ⟨S,bo,hl,-,back⟩:=h.rlog
 by_cases e:imgS y.g b=0
 ·refine (rimage_ok hl hk b v hv hvb e).mono ?_
  rintro e' w' ⟨rfl,hl',hk'⟩
  rw[Sx.imgP,Sx.img,if_pos e,if_pos e,e]
  exact⟨rfl,back w' _ _ _ _ _ hl' hk' (fun _ a=>a) rfl⟩
 ·refine (rimage_no hl.log hl.ok hl.bk b v e).mono ?_
  rintro e' w' ⟨rfl,hb⟩
  rw[Sx.imgP,Sx.img,if_neg e,if_neg e]
  exact⟨rfl,h.later hb⟩
theorem r_commit (h:DS w0 w K x y pd X)(hk:y.ws.length≤100000):Calls prog 70 #[qp K.lr] w fun e w'=>e=.returned (.tuple #[.int .u64 y.comP,.int .i64 (moreS y.g)])∧DS w0 w' K x y.com pd X:=by
 obtain ⟨S,bo,hl,-,back⟩:=h.rlog
 by_cases e:moreS y.g=0
 ·refine (rcommit_ok hl hk e).mono ?_
  rintro e' w' ⟨rfl,hl',hk'⟩
  rw[Sx.comP,Sx.com,if_pos e,if_pos e,e]
  exact⟨rfl,back w' _ _ _ _ _ hl' hk' (fun _ a=>a) rfl⟩
 ·refine (rcommit_no hl.log hl.ok e).mono ?_
  rintro e' w' ⟨rfl,hb⟩
  rw[Sx.comP,Sx.com,if_neg e,if_neg e]
  exact⟨rfl,h.later hb⟩
theorem r_flush (h:DS w0 w K x y pd X)(hk:y.ws.length≤100000):Calls prog 132 #[qp K.lr] w fun e w'=>e=.returned (.tuple #[.int .i64 y.ws.length,.int .i64 0])∧DS w0 w' K x y.fls pd X:=by
 obtain ⟨S,bo,hl,-,back⟩:=h.rlog
 refine (rlflush_at hl hk).mono ?_
 rintro e' w' ⟨rfl,hl',hk'⟩
 exact⟨rfl,back w' _ _ _ _ _ hl' hk' (fun _ a=>.inl a) rfl⟩
theorem p_begin (h:DS w0 w K x y pd X)(hc:x.c<4000)(hN:x.a.next≤1000){p:Option Addr}{m c:Nat}{xs:List Int}(hI:E.B.IIn w p m xs)(hm:m+80≤17592186044416):Calls prog 37 #[qp K.ap,.slice p m c] w fun e w'=>∃q d,e=.returned (.tuple #[.int .u64 (x.a.begT xs),.slice q (x.a.begF xs).length d,.int .i64 (x.a.begE xs)])∧w'.ownsRow w.heap.size 3 1 (.slice q (x.a.begF xs).length d) (x.a.begF xs).length (E.B.I64 (x.a.begF xs))∧DS w0 w' K (x.beg xs) y pd X:=by
 obtain ⟨F,n,hl,hQ,hn,back⟩:=h.pline
 rw[← hQ]
 refine (E.begin2_at hl (by omega) hN hI hm).mono ?_
 rintro e' w' ⟨q,d,v',fv,rfl,⟨s,ho,hs,hf,hg⟩,hl',hv,hk⟩
 refine⟨q,d,rfl,E.B.own_mono ho hs,back w' _ _ _ hl' hQ (by omega) hk (fun b hb=>?_) (fun g hb=>?_)⟩
 ·rcases hb with e | e | e | e | e | e | e | e
  ·exact .inl (.inl e)
  ·exact .inl (.inr (.inl e))
  ·exact .inl (.inr (.inr (.inl e)))
  ·rcases hv with hv | ⟨g,hv,hg⟩
   ·exact .inl (.inr (.inr (.inr (.inl (hv ▸ e)))))
   ·have e2:E.blk v'=some b:=e
    rw[hv] at e2;cases e2;exact .inr hg
  ·exact .inl (.inr (.inr (.inr (.inr (.inl e)))))
  ·exact .inl (.inr (.inr (.inr (.inr (.inr (.inl e))))))
  ·exact .inl (.inr (.inr (.inr (.inr (.inr (.inr (.inl e)))))))
  ·exact .inl (.inr (.inr (.inr (.inr (.inr (.inr (.inr e)))))))
 ·rcases hb with hb | hb
  ·exact .inl hb
  ·have hb':=hb
   rw[E.blk_own] at hb'
   obtain ⟨cur,hty⟩:=C.O.own_typ hf hb'
   exact .inr ⟨(hg g hb).1,(Array.getElem?_eq_some_iff.1 hty).1,hl'.noInts (E.kd_cells hty)⟩
theorem has_v2 {F:E.Ft}{v:Value}(hv:E.blk v=E.blk F.v2){b:Nat}(hb:({ F with v2:=v }:E.Ft).has b):F.has b:=by
 rcases hb with e | e | e | e | e | e | e | e
 ·exact .inl e
 ·exact .inr (.inl e)
 ·exact .inr (.inr (.inl e))
 ·exact .inr (.inr (.inr (.inl e)))
 ·exact .inr (.inr (.inr (.inr (.inl (hv ▸ e)))))
 ·exact .inr (.inr (.inr (.inr (.inr (.inl e)))))
 ·exact .inr (.inr (.inr (.inr (.inr (.inr (.inl e))))))
 ·exact .inr (.inr (.inr (.inr (.inr (.inr (.inr e))))))
theorem p_enter (h:DS w0 w K x y pd X)(hc:x.c<4000)(hN:x.a.next≤1000):Calls prog 38 #[qp K.ap] w fun e w'=>∃q d,e=.returned (.tuple #[.int .u64 x.a.entT,.slice q x.a.entF.length d,.int .i64 x.a.entE])∧DS w0 w' K x.ent y pd X:=by
 obtain ⟨F,n,hl,hQ,hn,back⟩:=h.pline
 rw[← hQ]
 refine (E.enter_at hl (by omega) hN).mono ?_
 rintro e' w' ⟨q,d,v1,v2,rfl,-,hl',hv1,hv2,hk⟩
 refine⟨q,d,rfl,back w' _ _ _ hl' hQ (by omega) hk (fun b hb=>?_) (fun g hb=>.inl hb)⟩
 rcases hb with e | e | e | e | e | e | e | e
 ·exact .inl (.inl e)
 ·exact .inl (.inr (.inl e))
 ·exact .inl (.inr (.inr (.inl e)))
 ·exact .inl (.inr (.inr (.inr (.inl (hv1 ▸ e)))))
 ·rcases hv2 with hv | ⟨g,hv,hg⟩
  ·exact .inl (.inr (.inr (.inr (.inr (.inl (hv ▸ e))))))
  ·have e2:E.blk v2=some b:=e
   rw[hv] at e2;cases e2;exact .inr hg
 ·exact .inl (.inr (.inr (.inr (.inr (.inr (.inl e))))))
 ·exact .inl (.inr (.inr (.inr (.inr (.inr (.inr (.inl e)))))))
 ·exact .inl (.inr (.inr (.inr (.inr (.inr (.inr (.inr e)))))))
theorem p_append (h:DS w0 w K x y pd X)(hc:x.c<4000){t:Int}(h0:0≤t)(h1:t≤1000):Calls prog 40 #[qp K.ap,.int .u64 t] w fun e w'=>e=.returned (.int .i64 (x.a.appE t))∧DS w0 w' K (x.app t) y pd X:=by
 obtain ⟨F,n,hl,hQ,hn,back⟩:=h.pline
 rw[← hQ]
 refine (E.append_at hl (by omega) (E.u64_small h0 h1)).mono ?_
 rintro e' w' ⟨rfl,hl',hk⟩
 exact⟨rfl,back w' _ _ _ hl' hQ (by omega) hk (fun b hb=>.inl hb) (fun g hb=>.inl hb)⟩
theorem p_done (h:DS w0 w K x y pd X)(hc:x.c<4000)(hN:x.a.next≤1000){t:Int}(h0:0≤t)(h1:t≤1000):Calls prog 42 #[qp K.ap,.int .u64 t] w fun e w'=>e=.returned (.int .i64 (x.a.donE t))∧DS w0 w' K (x.don t) y pd X:=by
 obtain ⟨F,n,hl,hQ,hn,back⟩:=h.pline
 rw[← hQ]
 refine (E.done_at hl (by omega) hN (E.u64_small h0 h1)).mono ?_
 rintro e' w' ⟨rfl,v',hl',hv,hk⟩
 exact⟨rfl,back w' _ _ _ hl' hQ (by omega) hk (fun b hb=>.inl (has_v2 hv hb)) (fun g hb=>.inl hb)⟩
theorem p_freed (h:DS w0 w K x y pd X)(k:Int):Calls prog 105 #[qp K.ap,.int .i64 k] w fun e w'=>e=.returned (.int .i64 (x.a.freE k))∧DS w0 w' K (x.frd k) y pd X:=by
 obtain ⟨F,n,hl,hQ,hn,back⟩:=h.pline
 rw[← hQ]
 refine (E.freed_at hl k).mono ?_
 rintro e' w' ⟨rfl,hl',hk⟩
 exact⟨rfl,back w' _ _ _ hl' hQ (by omega) hk (fun b hb=>.inl hb) (fun g hb=>.inl hb)⟩
theorem p_used (h:DS w0 w K x y pd X):Calls prog 23 #[qp K.ap] w fun e w'=>e=.returned (.int .i64 x.a.used)∧w'=w:=by
 obtain ⟨F,n,hl,hQ,-,-⟩:=h.pline
 rw[← hQ];exact E.used_at hl
theorem p_fits (h:DS w0 w K x y pd X)(hN:x.a.next≤1000):Calls prog 149 #[qp K.ap] w fun e w'=>e=.returned (.bool x.a.fits)∧Below w.heap.size w w':=by
 obtain ⟨F,n,hl,hQ,-,-⟩:=h.pline
 rw[← hQ];exact E.fits_at hl hN
theorem p_first (h:DS w0 w K x y pd X)(hN:x.a.next≤1000):Calls prog 148 #[qp K.ap] w fun e w'=>∃q d,e=.returned (.tuple #[.int .u64 x.a.fT,.slice q x.a.fF.length d,.bool x.a.isW])∧Below w.heap.size w w':=by
 obtain ⟨F,n,hl,hQ,-,-⟩:=h.pline
 rw[← hQ]
 refine (E.First_at hl hN).mono ?_
 rintro e' w' ⟨q,d,rfl,hm⟩
 exact⟨q,d,rfl,hm.below⟩
theorem r_begin (h:DS w0 w K x y pd X)(hN:y.a.next≤1000){p:Option Addr}{m c:Nat}{xs:List Int}(hI:E.B.IIn w p m xs)(hm:m+80≤17592186044416){j:Nat}(hj:8≤j):Calls prog 65 #[qp K.ar,.slice p m c] w fun e w'=>∃q d,e=.returned (.tuple #[.int .u64 (y.a.begT xs),.slice q (y.a.begF xs).length d,.int .i64 (y.a.begE xs)])∧C.Kept (·=K.ar) w w'∧K.ar<w.heap.size∧DS w0 w' K x (y.beg xs) pd (put X j (.gfrm (.slice q (y.a.begF xs).length d) (y.a.begF xs))):=by
 obtain ⟨G,vW,vI,ws,is,hl,hR,-,back⟩:=h.rline
 have ok:=h.oky.a
 refine (E.rbegin_at hl hR ok hN hI hm).mono ?_
 rintro e' w' ⟨q,d,rfl,hf,hg,hr⟩
 refine⟨q,d,rfl,kE hr.kept,hl.lt,back w' _ _ _ j hr (ok.beg xs) hf (fun g hb=>?_) hj⟩
 rw[← E.blk_own] at hb
 exact .inr ⟨hg g hb,by rw[E.blk_own] at hb;exact (World.ownsRow.lt hf g hb).2⟩
theorem r_enter (h:DS w0 w K x y pd X)(hN:y.a.next≤1000):Calls prog 67 #[qp K.ar] w fun e w'=>∃q d,e=.returned (.tuple #[.int .u64 y.a.entT,.slice q y.a.entF.length d,.int .i64 y.a.entE])∧DS w0 w' K x y.ent pd X:=by
 obtain ⟨G,vW,vI,ws,is,hl,hR,back,-⟩:=h.rline
 have ok:=h.oky.a
 refine (E.renter_at hl hR ok hN).mono ?_
 rintro e' w' ⟨q,d,rfl,-,-,hr⟩
 exact⟨q,d,rfl,back w' _ hr ok.ent⟩
theorem r_append (h:DS w0 w K x y pd X)(hN:y.a.next≤1000)(t:Int):Calls prog 69 #[qp K.ar,.int .u64 t] w fun e w'=>e=.returned (.int .i64 (y.a.appE t))∧DS w0 w' K x (y.app t) pd X:=by
 obtain ⟨G,vW,vI,ws,is,hl,hR,back,-⟩:=h.rline
 have ok:=h.oky.a
 refine (E.rappend_at hl hR ok hN t).mono ?_
 rintro e' w' ⟨rfl,hr⟩
 exact⟨rfl,back w' _ hr (ok.app t)⟩
theorem r_done (h:DS w0 w K x y pd X)(hN:y.a.next≤1000)(t:Int):Calls prog 71 #[qp K.ar,.int .u64 t] w fun e w'=>e=.returned (.int .i64 (y.a.donE t))∧DS w0 w' K x (y.don t) pd X:=by
 obtain ⟨G,vW,vI,ws,is,hl,hR,back,-⟩:=h.rline
 have ok:=h.oky.a
 refine (E.rdone_at hl hR ok hN t).mono ?_
 rintro e' w' ⟨rfl,hr⟩
 exact⟨rfl,back w' _ hr (ok.don t)⟩
theorem p_last (h:DS w0 w K x y pd X):Calls prog 21 #[qp K.kp] w fun e w'=>e=.returned (.tuple #[.int .u64 x.p,.bool x.s])∧w'=w:=by
 obtain ⟨v,G,hl,-,-,-,-⟩:=h.pcac
 have ok:=h.okx
 refine (C.last_at hl ok.k.nx0 ok.k.nx1).mono ?_
 rintro e' w' ⟨rfl,rfl⟩
 refine⟨?_,rfl⟩
 have hp:=ok.p0
 cases hs:x.s
 ·rw[ok.pf hs];rfl
 ·have e:C.nxR true x.p=x.p+1:=rfl
  have e1:C.lasV (x.p+1)=x.p:=by unfold C.lasV;rw[if_neg (by omega)];omega
  have e2:C.lasB (x.p+1)=true:=decide_eq_true (by omega)
  rw[e,e1,e2]
theorem p_entries (h:DS w0 w K x y pd X):Calls prog 12 #[qp K.kp] w fun e w'=>∃v,e=.returned v∧C.EOwn 54 w' w.heap.size v x.L∧Below w.heap.size w w':=by
 obtain ⟨v,G,hl,-,-,-,-⟩:=h.pcac
 exact C.entries_any (.inr ⟨_,_,_,_,rfl,hl,h.okx.k.wf,h.okx.k.few⟩)
theorem p_get (h:DS w0 w K x y pd X)(b:Int):Calls prog 17 #[qp K.kp,.int .i64 b] w fun e w'=>e=.returned (.tuple #[.agg (C.ecells (C.getV x.L b)).toArray,.bool (C.getB x.L b)])∧Below w.heap.size w w':=by
 obtain ⟨v,G,hl,-,-,-,-⟩:=h.pcac
 exact C.get_at hl h.okx.k b
theorem p_len (h:DS w0 w K x y pd X):Calls prog 20 #[qp K.kp] w fun e w'=>e=.returned (.int .i64 (x.L.length:Int))∧w'=w:=by
 obtain ⟨v,G,hl,-,-,-,-⟩:=h.pcac
 exact C.len_at hl
end
end Go.Proofs.YtcdjepkhdjpjcaaGreatDoor.Q
