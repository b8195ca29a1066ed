import Derived.Test.YtdadpepfpiimgaaGreatDoorK24
import Derived.Test.YtdadpepfpiimgaaGreatDoorK25
set_option maxHeartbeats 20000000
set_option maxRecDepth 100000
namespace Go.Proofs.YtdadpepfpiimgaaGreatDoor.Q
open Go.Proofs.Tryz
open Go.RowKit
def Th.both (t u:Th):Th:=⟨fun w G=>t.at' w G∧u.at' w G∧∀b,t.foot b→¬u.foot b,fun b=>t.foot b∨u.foot b,fun w G b h hb=>hb.elim (t.lt' w G b h.1) (u.lt' w G b h.2.1),fun w w' G G' S h hk hf hS hG=>⟨t.kept' w w' G G' S h.1 hk (fun b hb=>hf b (.inl hb)) hS hG,u.kept' w w' G G' S h.2.1 hk (fun b hb=>hf b (.inr hb)) hS hG,h.2.2⟩⟩
def kboth (k k':Kd):Kd:=fun t=>∃a b,k a∧k' b∧t=Th.both a b
section
variable {w0 w w':World} {X:List Kd} {i j:Nat}
theorem own_far {S:Nat→Prop}{B e s n:Nat}{v:Value}{xs:List Value}(h:w.ownsRow B e s v n xs)(hk:Kept S w w')(hf:∀g,v.ownBlock=some g→¬S g):w'.ownsRow B e s v n xs:=own_same h fun k e=>hk.block k (World.ownsRow.lt h k e).2 (hf k e)
theorem Fz.fuse {k k':Kd}(h:Fz w0 w (k :: X))(hi:X[i]?=some k'):Fz w0 w (X.set i (kboth k k')):=by
 obtain ⟨T,G,hF,hb0,hX⟩:=h
 cases T with
 | nil=>exact hX.elim
 | cons t T =>
  obtain ⟨hk,hX⟩:=hX
  obtain ⟨u,hu,hk'⟩:=hX.get hi
  have h0:(t :: T)[0]?=some t:=rfl
  have hu':(t :: T)[i+1]?=some u:=by simpa using hu
  have hap:∀b,t.foot b→¬u.foot b:=hF.apart 0 (i+1) t u h0 hu' (by omega)
  have hlt:=(List.getElem?_eq_some_iff.1 hu).1
  have hget:∀(j:Nat) (v:Th),(T.set i (.both t u))[j]?=some v→(j=i∧v=.both t u)∨(j≠i∧(t :: T)[j+1]?=some v):=fun j v hj=>by
   rw[List.getElem?_set] at hj
   by_cases e:i=j
   ·rw[if_pos e,if_pos hlt] at hj;exact .inl ⟨e.symm,(Option.some.inj hj).symm⟩
   ·rw[if_neg e] at hj;exact .inr ⟨fun k=>e k.symm,by simpa using hj⟩
  refine⟨T.set i (.both t u),G,⟨fun j v hj=>?_,fun j v hj b hb=>?_,fun x y v z hx hy hne b hb=>?_,fun j v hj b hb hg=>?_,hF.glt⟩,hb0,hX.set i ⟨t,u,hk,hk',rfl⟩⟩
  ·rcases hget j v hj with ⟨_,rfl⟩ | ⟨_,hj⟩
   ·exact⟨hF.at' 0 t h0,hF.at' (i+1) u hu',hap⟩
   ·exact hF.at' (j+1) v hj
  ·rcases hget j v hj with ⟨_,rfl⟩ | ⟨_,hj⟩
   ·rcases hb with hb | hb
    ·exact hF.lo 0 t h0 b hb
    ·exact hF.lo (i+1) u hu' b hb
   ·exact hF.lo (j+1) v hj b hb
  ·rcases hget x v hx with ⟨e1,rfl⟩ | ⟨e1,hx⟩
   ·rcases hget y z hy with ⟨e2,rfl⟩ | ⟨e2,hy⟩
    ·exact absurd (e1.trans e2.symm) hne
    ·rcases hb with hb | hb
     ·exact hF.apart 0 (y+1) t z h0 hy (by omega) b hb
     ·exact hF.apart (i+1) (y+1) u z hu' hy (by omega) b hb
   ·rcases hget y z hy with ⟨e2,rfl⟩ | ⟨e2,hy⟩
    ·exact fun k=>k.elim (fun k=>hF.apart 0 (x+1) t v h0 hx (by omega) b k hb) (fun k=>hF.apart (i+1) (x+1) u v hu' hx (by omega) b k hb)
    ·exact hF.apart (x+1) (y+1) v z hx hy (by omega) b hb
  ·rcases hget j v hj with ⟨_,rfl⟩ | ⟨_,hj⟩
   ·rcases hb with hb | hb
    ·exact hF.im 0 t h0 b hb hg
    ·exact hF.im (i+1) u hu' b hb hg
   ·exact hF.im (j+1) v hj b hb hg
end
structure Ls (w:World) (v:Value) (us:List Value) (fs:List (List Im)):Prop where
 row:w.ownsRow 0 92 1 v us.length us
 len:fs.length=us.length
 each:∀(k:Nat) u f,us[k]?=some u→fs[k]?=some f→IOwn w 0 u f
 wf:∀f∈fs,ImsWf f∧f.length≤64
 sep:us.Pairwise fun u u'=>∀g,u.ownBlock=some g→u'.ownBlock≠some g
 off:∀u∈us,∀g,u.ownBlock=some g→v.ownBlock≠some g
def LFt (v:Value)(us:List Value)(b:Nat):Prop:=v.ownBlock=some b∨∃u∈us,u.ownBlock=some b
section
variable {w w':World} {v v':Value} {us:List Value} {fs:List (List Im)}
theorem Ls.ltu (h:Ls w v us fs):∀u∈us,∀b,u.ownBlock=some b→b<w.heap.size:=fun u hu b hb=>by
 obtain ⟨k,hk,e⟩:=List.mem_iff_getElem.1 hu
 have hf:k<fs.length:=by rw[h.len];exact hk
 exact (World.ownsRow.lt (h.each k u fs[k] (by rw[List.getElem?_eq_getElem hk,e]) (List.getElem?_eq_getElem hf)) b hb).2
theorem Ls.lt (h:Ls w v us fs){b:Nat}(hb:LFt v us b):b<w.heap.size:=by
 rcases hb with hb | ⟨u,hu,hb⟩
 ·exact (World.ownsRow.lt h.row b hb).2
 ·exact h.ltu u hu b hb
theorem Ls.kept {S:Nat→Prop}(h:Ls w v us fs)(hk:Kept S w w')(hS:∀b,LFt v us b→¬S b):Ls w' v us fs :=
 ⟨own_far h.row hk fun g hg=>hS g (.inl hg),h.len,fun k u f hu hf=>own_far (h.each k u f hu hf) hk fun g hg=>hS g (.inr ⟨u,List.mem_of_getElem? hu,hg⟩),h.wf,h.sep,h.off⟩
theorem Ls.app {S:Nat→Prop}{u:Value}{f:List Im}(h:Ls w v us fs)(hk:Kept S w w')(hS:∀b,(∃u∈us,u.ownBlock=some b)∨u.ownBlock=some b→¬S b)(hr:w'.ownsRow 0 92 1 v' (us.length+1) (us++[u]))(hu:IOwn w 0 u f)(hw:ImsWf f∧f.length≤64)(hsep:∀x∈us,∀g,x.ownBlock=some g→u.ownBlock≠some g)(hoff:∀x∈us++[u],∀g,x.ownBlock=some g→v'.ownBlock≠some g):Ls w' v' (us++[u]) (fs++[f]):=by
 refine⟨by rw[List.length_append,List.length_singleton];exact hr,by simp[h.len],fun k x y hx hy=>?_,fun x hx=>?_,?_,hoff⟩
 ·rcases Nat.lt_or_ge k us.length with a | a
  ·rw[List.getElem?_append_left a] at hx
   rw[List.getElem?_append_left (by rw[h.len];exact a)] at hy
   exact own_far (h.each k x y hx hy) hk fun g hg=>hS g (.inl ⟨x,List.mem_of_getElem? hx,hg⟩)
  ·rw[List.getElem?_append_right a] at hx
   rw[List.getElem?_append_right (by rw[h.len];exact a),h.len] at hy
   have hk0:k-us.length=0:=by
    have:=(List.getElem?_eq_some_iff.1 hx).1
    simp at this
    omega
   rw[hk0] at hx hy
   cases hx
   cases hy
   exact own_far hu hk fun g hg=>hS g (.inr hg)
 ·rcases List.mem_append.1 hx with hx | hx
  ·exact h.wf x hx
  ·rw[List.mem_singleton.1 hx];exact hw
 ·exact List.pairwise_append.2 ⟨h.sep,List.pairwise_singleton _ _,fun x hx y hy g hg=>by rw[List.mem_singleton.1 hy];exact hsep x hx g hg⟩
theorem Ls.nil (w:World):Ls w (.slice none 0 0) [] []:=⟨World.ownsRow_nil _ _ _ _,rfl,fun k u f hu=>(by simp at hu),fun _ h=>(by cases h),List.Pairwise.nil,fun _ h=>(by cases h)⟩
end
def Th.ls (v:Value)(us:List Value)(fs:List (List Im)):Th:=⟨fun w _=>Ls w v us fs,LFt v us,fun _ _ _ h hb=>Ls.lt h hb,fun _ _ _ _ _ h hk hf _ _=>Ls.kept h hk hf⟩
def kl (v:Value)(us:List Value)(fs:List (List Im)):Kd:=fun t=>t=Th.ls v us fs
theorem infoL:(prog.info? 92).map (fun i=>(i.zero,i.size,i.bytes))=some (some (.slice none 0 0),1,24):=by kernel_rfl
section
variable {w0 w w':World} {X:List Kd} {i j:Nat} {v u:Value} {us:List Value} {fs:List (List Im)} {f:List Im}
theorem Fz.nolists (h:Fz w0 w X):Fz w0 w (kl (.slice none 0 0) [] [] :: X):=h.push (Below.refl _ _) (u:=.ls (.slice none 0 0) [] []) (fun _=>Ls.nil w) (fun b hb=>by rcases hb with hb | ⟨u,hu,_⟩;(· cases hb);(· cases hu)) rfl
theorem Fz.lsat (h:Fz w0 w X)(hi:X[i]?=some (kl v us fs)):Ls w v us fs:=by
 obtain ⟨t,G,rfl,ha,-,-⟩:=h.at hi
 exact ha
theorem Fz.lsform (h:Fz w0 w X)(hi:X[i]?=some (kl v us fs)):∃q c,v=.slice q us.length c:=by
 obtain ⟨q,c,e,-,-⟩:=own_slice (h.lsat hi).row
 exact⟨q,c,e⟩
theorem slice1L_is (w:World)(q:Option Addr)(m c:Nat):(Instr.buildSlice 82 1 #[(0,.slice q m c)]).run prog w=.ok (.slice (some ⟨w.heap.size,0,none⟩) 1 1) (w.alloc (.cells #[.slice q m c] 92)):=by
 obtain ⟨i0,hi,hz0,hz1,hz2⟩:=info_parts infoL
 refine run_buildSlice w 82 92 1 _ _ i0 _ underlying82 hi hz0 (by rw[hz1];decide) (by rw[hz1];decide) ?_
 rw[hz1]
 have hA:∀A:Array Value,A.size=1→Instr.fill (fun i=>some (i*1,1)) A [(0,.slice q m c)]=some #[.slice q m c]:=by
  intro A hA
  obtain ⟨l⟩:=A
  match l,hA with
  | [y],_=>rfl
 exact hA _ (by simp)
theorem Fz.join (h:Fz w0 w (ko u f :: X))(hi:X[i]?=some (kl v us fs))(hw:ImsWf f∧f.length≤64)(hm:us.length≤9000):∃v' w',(Builtin.append_ #[82,82] 82 #[v,.slice (some ⟨w.heap.size,0,none⟩) 1 1]).run prog (w.alloc (.cells #[u] 92))=.ok v' w'∧Fz w0 w' (X.set i (kl v' (us++[u]) (fs++[f]))):=by
 obtain ⟨i1,hi1,hy0,hy1,hy2⟩:=info_parts infoL
 have hilt:=(List.getElem?_eq_some_iff.1 hi).1
 obtain ⟨t,G,⟨a,b,rfl,rfl,rfl⟩,ha,hf,hL⟩:=(h.fuse hi).at (List.getElem?_set_self hilt)
 have ho:IOwn w 0 u f:=ha.1
 have hl:Ls w v us fs:=ha.2.1
 have hap:∀b,u.ownBlock=some b→¬LFt v us b:=ha.2.2
 have hmx:(4000000:Nat)≤maxLen:=by decide
 obtain ⟨q0,c0,eu,-⟩:=IOwn.in ho hw.1
 have ho3:=own_later hl.row (below_alloc w (.cells #[u] 92))
 obtain ⟨v4,w4,hrun4,hown4,hgrow4,_,h5⟩:=run_append_own_at (P:=prog) (w.alloc (.cells #[u] 92)) 0 82 82 92 i1 _ 1 24 underlying82 hi1 hy0 hy1 hy2 rfl (by decide) v us.length us ho3 ⟨w.heap.size,0,none⟩ 1 1 [u] rfl (cell_one_new _ _ _) (fun x hx=>by rw[List.mem_singleton.1 hx,eu];rfl) (by omega) (by omega) (Nat.zero_le _)
 have hk:Kept (fun k=>v.ownBlock=some k) w w4:=((Kept.refl _ w).alloc _).grown hgrow4 fun k e _=>e
 refine⟨v4,w4,hrun4,?_⟩
 have hz:=hL w4 (.ls v4 (us++[u]) (fs++[f])) G (fun k=>v.ownBlock=some k) (kl v4 (us++[u]) (fs++[f])) ?_ hk (fun b _ hb=>.inr (.inl hb)) (fun b hb=>?_) (fun _ a=>a) (fun _ a=>.inl a) rfl
 ·rw[List.set_set] at hz;exact hz
 ·refine hl.app (S:=fun b=>v.ownBlock=some b) hk (fun b hb hv=>?_) hown4 ho hw (fun x hx g hg hu'=>hap g hu' (.inr ⟨x,hx,hg⟩)) (fun x hx g hg hv=>?_)
  ·rcases hb with ⟨a,ha,hb⟩ | hb
   ·exact hl.off a ha b hb hv
   ·exact hap b hb (.inl hv)
  ·have hx':x∈us∨x=u:=(List.mem_append.1 hx).elim .inl fun a=>.inr (List.mem_singleton.1 a)
   rcases h5 with hn | hn
   ·rw[hn] at hv
    rcases hx' with hx | rfl
    ·exact hl.off x hx g hg hv
    ·exact hap g hg (.inl hv)
   ·rw[hn] at hv
    have hv:(w.alloc (.cells #[u] 92)).heap.size=g:=by injection hv
    rw[World.size_alloc] at hv
    rcases hx' with hx | rfl
    ·have:=hl.ltu x hx g hg;omega
    ·have:=(World.ownsRow.lt ho g hg).2;omega
 ·rcases hb with hb | ⟨x,hx,hb⟩
  ·rcases h5 with hn | hn
   ·exact .inl (.inr (.inl (by rw[← hn];exact hb)))
   ·rw[hn] at hb
    have hb:(w.alloc (.cells #[u] 92)).heap.size=b:=by injection hb
    rw[World.size_alloc] at hb
    exact .inr (by omega)
  ·rcases List.mem_append.1 hx with hx | hx
   ·exact .inl (.inr (.inr ⟨x,hx,hb⟩))
   ·rw[List.mem_singleton.1 hx] at hb
    exact .inl (.inl hb)
theorem Fz.lscell (h:Fz w0 w X){g c:Nat}(hi:X[i]?=some (kl (.slice (some ⟨g,0,none⟩) us.length c) us fs)){k:Nat}{y:Value}(hy:us[k]?=some y):w.cell? ⟨g,k,none⟩=some y:=by
 have:=own_range (h.lsat hi).row k y hy
 rwa [Nat.zero_add] at this
theorem Fz.lssome (h:Fz w0 w X){q:Option Addr}{n c:Nat}(hi:X[i]?=some (kl (.slice q n c) us fs))(h0:0<us.length):∃g,q=some ⟨g,0,none⟩:=by
 rcases (h.lsat hi).row.2 with ⟨_,e⟩ | ⟨g,cap,cur,e,_⟩
 ·omega
 ·cases e;exact⟨g,rfl⟩
end
section
variable {w0 w w':World} {X:List Kd} {i j P p n:Nat} {q:Option Nat} {D:Dd} {x:Rc} {u v:Value} {G:Nat→Prop}
theorem p_copy (h:Fz w0 w X)(hj:X[j]?=some (kd p n D))(hk:D.ws.length≤100000):Calls prog 58 #[qp p] w fun e w'=>∃p',e=.returned (qp p')∧Fz w0 w' (kd p' n D :: X):=by
 obtain ⟨S,hd,-,-⟩:=h.atd hj
 refine (copy_any hd hk).mono ?_
 rintro e w' ⟨p',rfl,h1,h2⟩
 exact⟨p',rfl,h.newd h2 h1⟩
theorem r_copy (h:Fz w0 w X)(hj:X[j]?=some (ke p n D))(hk:D.ws.length≤100000):Calls prog 59 #[qp p] w fun e w'=>∃p',e=.returned (qp p')∧Fz w0 w' (ke p' n D :: X):=by
 obtain ⟨S,hd,-,-⟩:=h.ate hj
 refine (rcopy_any hd hk).mono ?_
 rintro e w' ⟨p',rfl,h1,h2⟩
 exact⟨p',rfl,h.newe h2 h1⟩
theorem r_crash (h:Fz w0 w X)(hj:X[j]?=some (ke p n D))(hk:D.ws.length≤100000){a:Option Addr}{m cp:Nat}{K:List Int}(hx:JIn w a m K)(ha:∀b,a=some b→0<m→b.block<w0.heap.size)(hm:m≤140737488355328):Calls prog 63 #[qp p,.slice a m cp] w fun e w'=>e=.returned (.int .i64 D.ws.length)∧Fz w0 w' (X.set j (ke p n (D.crs K))):=by
 obtain ⟨t,G,⟨S,rfl⟩,ht,hf,hl⟩:=h.at hj
 refine (rcrash_any ht.1 hk a m cp K hx (fun b hb h0 hs=>by have:=ha b hb h0;have:=(hf b.block hs).1;omega) hm).mono ?_
 rintro e w' ⟨rfl,h1,h2⟩
 refine⟨rfl,hl w' (.ref (fun k=>S k∧k<w'.heap.size) p n (D.crs K)) G S _ ⟨h1.mono fun _ h1 h2=>⟨h2,h1⟩,fun _ h1=>h1.2⟩ h2 (fun _ _ e=>e) (fun b hb=>.inl hb.1) (fun _ e=>e) (fun _ e=>.inl e) ⟨_,rfl⟩⟩
theorem r_save (h:Fz w0 w X)(hj:X[j]?=some (ke p n D))(hk:D.ws.length≤100000){c:Sup}{i:Im}(hi:i.Wf)(hr:rbS c n i.b=0):Calls prog 96 #[qp p,.agg (ccells c).toArray,.int .i64 i.b,.agg (U8 i.v).toArray] w fun e w'=>e=.returned (.int .i64 0)∧Fz w0 w' (X.set j (ke p n (D.wr (1+i.b).toNat (homeS i.b i.v)))):=by
 obtain ⟨S,hd,_,hl⟩:=h.ate hj
 refine (rsave_any c i.b i.v hi.len hi.byte hd hk).mono ?_
 rintro e w' ⟨rfl,h1,h2⟩
 rw[svW_yes _ _ hr] at h1
 exact⟨by rw[hr],hl w' _ (D.wr _ _) h1 h2 fun _ a=>a⟩
theorem r_write0 (h:Fz w0 w X)(hj:X[j]?=some (ke p n D))(hk:D.ws.length≤100000){i:Int}(h0:0≤i)(h1:i<n){a:Option Addr}{c:Nat}{b:List Int}(hb:BIn w a 64 b):Calls prog 32 #[qp p,.int .i64 i,.slice a 64 c] w fun e w'=>e=.returned (.int .i64 0)∧Fz w0 w' (X.set j (ke p n (D.wr i.toNat b))):=by
 obtain ⟨S,hd,_,hl⟩:=h.ate hj
 refine (rwrite_at hd i h0 h1 a c b hb hk).mono ?_
 rintro e w' ⟨rfl,h1,h2⟩
 exact⟨rfl,hl w' _ (D.wr i.toNat b) h1 h2 fun _ a=>a⟩
theorem p_write64 (h:Fz w0 w X)(hj:X[j]?=some (kd p n D))(hk:D.ws.length≤100000)(i:Int){a:Option Addr}{c:Nat}{b:List Int}(hb:BIn w a 64 b):Calls prog 64 #[qp p,.int .i64 i,.slice a 64 c] w fun e w'=>e=.returned (.int .i64 (wrE n i))∧Fz w0 w' (X.set j (kd p n ⟨D.d,wrU n D.ws i b⟩)):=by
 obtain ⟨S,hd,_,hl⟩:=h.atd hj
 refine (write64 hd i a c b hb hk).mono ?_
 rintro e w' ⟨rfl,h1,h2⟩
 exact⟨rfl,hl w' _ ⟨D.d,wrU n D.ws i b⟩ h1 h2 fun _ a=>a⟩
theorem DAt.c0 (h:DAt w G P (some p) x v):w.cell? ⟨P,0,none⟩=some (qp p):=by rw[cell_of_row _ _ _ _ _ _ h.str];rfl
theorem DAt.n0 (h:DAt w G P none x v):w.cell? ⟨P,0,none⟩=some (.pointer none):=by rw[cell_of_row _ _ _ _ _ _ h.str];rfl
theorem DAt.c2 (h:DAt w G P q x v):w.cell? ⟨P,2,none⟩=some (.int .i64 x.c.lc):=by rw[cell_of_row _ _ _ _ _ _ h.str];rfl
theorem DAt.c6 (h:DAt w G P q x v):w.cell? ⟨P,6,none⟩=some (.int .i64 x.st):=by rw[cell_of_row _ _ _ _ _ _ h.str];rfl
theorem DAt.c7 (h:DAt w G P q x v):w.cell? ⟨P,7,none⟩=some (.int .u64 x.li):=by rw[cell_of_row _ _ _ _ _ _ h.str];rfl
theorem DAt.c8 (h:DAt w G P q x v):w.cell? ⟨P,8,none⟩=some (.int .u64 x.en):=by rw[cell_of_row _ _ _ _ _ _ h.str];rfl
theorem DAt.c9 (h:DAt w G P q x v):w.cell? ⟨P,9,none⟩=some v:=by rw[cell_of_row _ _ _ _ _ _ h.str];rfl
theorem DAt.lt (h:DAt w G P q x v):P<w.heap.size:=(Array.getElem?_eq_some_iff.1 h.str).1
theorem DAt.frozen (h:DAt w G P q x v)(j:Nat):w.frozen? ⟨P,j,none⟩=false:=frozen_row (j:=j) h.str
theorem DAt.loadC (h:DAt w G P q x v):(Instr.loadAt 23 (.pointer (some ⟨P,1,none⟩))).run prog w=.ok (.agg (ccells x.c).toArray) w :=
 run_loadAt_mid w P 1 23 (ccells x.c) _ (fun j u hu=>by
  have hj:j<5:=(List.getElem?_eq_some_iff.1 hu).1
  rw[cell_of_row _ _ _ _ _ _ h.str]
  match j,hj with
  | 0,_=>exact hu
  | 1,_=>exact hu
  | 2,_=>exact hu
  | 3,_=>exact hu
  | 4,_=>exact hu) underlying23 rfl (by kernel_rfl)
def Rdv (P:Nat)(q:Option Nat)(x:Rc)(W:World):Prop:=∃G v,DAt W G P q x v
theorem Rdv.c0 (h:Rdv P (some p) x w):w.cell? ⟨P,0,none⟩=some (qp p):=by obtain ⟨G,v,h⟩:=h;exact h.c0
theorem Rdv.n0 (h:Rdv P none x w):w.cell? ⟨P,0,none⟩=some (.pointer none):=by obtain ⟨G,v,h⟩:=h;exact h.n0
theorem Rdv.c2 (h:Rdv P q x w):w.cell? ⟨P,2,none⟩=some (.int .i64 x.c.lc):=by obtain ⟨G,v,h⟩:=h;exact h.c2
theorem Rdv.c6 (h:Rdv P q x w):w.cell? ⟨P,6,none⟩=some (.int .i64 x.st):=by obtain ⟨G,v,h⟩:=h;exact h.c6
theorem Rdv.c7 (h:Rdv P q x w):w.cell? ⟨P,7,none⟩=some (.int .u64 x.li):=by obtain ⟨G,v,h⟩:=h;exact h.c7
theorem Rdv.c8 (h:Rdv P q x w):w.cell? ⟨P,8,none⟩=some (.int .u64 x.en):=by obtain ⟨G,v,h⟩:=h;exact h.c8
theorem Rdv.loadC (h:Rdv P q x w):(Instr.loadAt 23 (.pointer (some ⟨P,1,none⟩))).run prog w=.ok (.agg (ccells x.c).toArray) w:=by obtain ⟨G,v,h⟩:=h;exact h.loadC
theorem Rdv.frozen (h:Rdv P q x w)(j:Nat):w.frozen? ⟨P,j,none⟩=false:=by obtain ⟨G,v,h⟩:=h;exact h.frozen j
theorem Fz.rv (h:Fz w0 w X)(hi:X[i]?=some (ks P q x)):Rdv P q x w:=by obtain ⟨G,v,hp,-⟩:=h.ats hi;exact⟨G,v,hp⟩
theorem Fz.rput (h:Fz w0 w X)(hi:X[i]?=some (ks P q x))(k:Nat)(u:Value)(x':Rc)(hl:x'.left=x.left)(hk:∀v,(rcl q x v).set k u=rcl q x' v):Fz w0 (w.setCell ⟨P,k,none⟩ u) (X.set i (ks P q x')):=by
 obtain ⟨G,v,hp,hg,hL⟩:=h.ats hi
 have e1:w.setCell ⟨P,k,none⟩ u=w.setRow P (rcl q x' v).toArray:=by
  rw[setCell_eq_setRow w P k _ 144 (0,0) u hp.str,← hk v];congr 1;simp
 rw[e1]
 exact hL _ G q x' v ⟨setRow_heap w P _ _ 144 (0,0) hp.str,by rw[hl];exact hp.lf.keep (keptRow w P _) (fun g hg2 _ e=>hg (by have e:g=P:=e;rw[← e];exact hg2)) (fun _ a=>a)⟩ (keptRow w P _) (fun _ a=>a) (fun _ a=>.inl a)
theorem Fz.rleft {l:List Im}(h:Fz w0 w (ko u l :: X))(hi:X[i]?=some (ks P q x))(hw:ImsWf l):Fz w0 (w.setCell ⟨P,9,none⟩ u) (X.set i (ks P q { x with left:=l })):=by
 obtain ⟨T,G,hF,hb,hX⟩:=h
 cases T with
 | nil=>exact hX.elim
 | cons t T =>
  obtain ⟨rfl,hX⟩:=hX
  obtain ⟨y,hu,v,rfl⟩:=hX.get hi
  have ho:IOwn w 0 u l:=hF.at' 0 _ rfl
  have hF2:Fam w0 w T (fun g=>G g∨u.ownBlock=some g):=⟨fun j t e=>t.kept' w w G _ (fun _=>False) (hF.at' (j+1) t (by simpa using e)) (Kept.refl _ w) (fun _ _ e=>e) (fun _ _ _ e=>e) (fun _ e=>.inl e),fun j t e=>hF.lo (j+1) t (by simpa using e),fun a b t u e1 e2 hne=>hF.apart (a+1) (b+1) t u (by simpa using e1) (by simpa using e2) (by omega),fun j t e b hb hg=>by
   rcases hg with hg | hg
   ·exact hF.im (j+1) t (by simpa using e) b hb hg
   ·exact hF.apart (j+1) 0 t _ (by simpa using e) rfl (by omega) b hb hg,fun g hg=>by
   rcases hg with hg | hg
   ·exact hF.glt g hg
   ·exact (World.ownsRow.lt ho g hg).2⟩
  have hd:DAt w (fun g=>G g∨u.ownBlock=some g) P q x v:=hF2.at' i _ hu
  have hne:¬(G P∨u.ownBlock=some P):=hF2.im i _ hu P rfl
  have hlo:=hF2.lo i _ hu P rfl
  have e1:w.setCell ⟨P,9,none⟩ u=w.setRow P (rcl q { x with left:=l } u).toArray:=by rw[setCell_eq_setRow w P 9 _ 144 (0,0) _ hd.str];congr 1
  have hk:=keptRow w P (rcl q { x with left:=l } u).toArray
  rw[e1]
  exact⟨T.set i (.rrc P q { x with left:=l } u),_,hF2.turn (S:=(·=P)) hu (t':=.rrc P q { x with left:=l } u) ⟨setRow_heap w P _ _ 144 (0,0) hd.str,(Lf.of_own ho hw).keep hk (fun g hg _ e=>hne (by have e:g=P:=e;rw[← e];exact hg)) (fun _ a=>a)⟩ hk (fun _ _ e=>e) (fun b hb=>.inl hb) hb.size (fun _ e=>e) (fun _ e=>.inl e),⟨hk.os.trans hb.os,hk.tape.trans hb.tape,hk.output.trans hb.output,Nat.le_trans hb.size hk.size,fun b hb2=>(hk.block b (Nat.lt_of_lt_of_le hb2 hb.size) fun hs=>by have:b=P:=hs;omega).trans (hb.block b hb2)⟩,hX.set i ⟨u,rfl⟩⟩
theorem r_newest (h:Fz w0 w X){a:Option Addr}{m c:Nat}{l:List TX}(hx:XIn w a m l)(hn:m≤2000000)(hf:(flat l).length≤2000000):Calls prog 121 #[.slice a m c] w fun e w'=>∃v,e=.returned v∧Fz w0 w' (ko v (nwS (flat l)) :: X):=by
 refine (refNewest_any a m c l w hx hn hf).mono ?_
 rintro e w' ⟨p,d,rfl,-,hb,ho⟩
 exact⟨_,rfl,h.push hb (u:=.ims _ _) (fun _=>own_zero ho) (fun b hb=>(World.ownsRow.lt ho b hb).1) rfl⟩
end
end Go.Proofs.YtdadpepfpiimgaaGreatDoor.Q
namespace Go.Proofs.YtdadpepfpiimgaaGreatDoor.Q
open Go.RowKit
structure Hf where
 P:Nat
 d:Nat
 Q:Nat
 e:Nat
 x:Rc
 D:Dd
structure Ot where
 r:Value
 d:Value
 x:Value
def wcl (k:Nat)(a:Hf)(o:Ot)(vg vw:Value):List Value:=if k=0 then [qp a.P,o.r,qp a.d,o.d,qp a.Q,o.x,vg,vw] else [o.r,qp a.P,o.d,qp a.d,o.x,qp a.Q,vg,vw]
abbrev XP (W k n:Nat)(a:Hf)(o:Ot)(vg vw:Value)(us ux:List Value)(fs:List (List Im))(Y:List Kd):List Kd :=
 kb W 84 (wcl k a o vg vw) :: kr a.P (some a.d) a.x :: kd a.d n a.D :: ks a.Q (some a.e) a.x :: ke a.e n a.D :: kl vg us fs :: kl vw ux fs :: Y
section
variable {w:World} {W k n:Nat} {a:Hf} {o:Ot} {vg vw:Value}
theorem wc_r (h:LAt 84 w W (wcl k a o vg vw))(hk:k<2):w.cell? ⟨W,k,none⟩=some (qp a.P):=by
 rcases (by omega:k=0∨k=1) with rfl | rfl
 ·rw[LAt.cell h 0];rfl
 ·rw[LAt.cell h 1];rfl
theorem wc_d (h:LAt 84 w W (wcl k a o vg vw))(hk:k<2):w.cell? ⟨W,2+k,none⟩=some (qp a.d):=by
 rcases (by omega:k=0∨k=1) with rfl | rfl
 ·rw[LAt.cell h 2];rfl
 ·rw[LAt.cell h 3];rfl
theorem wc_x (h:LAt 84 w W (wcl k a o vg vw))(hk:k<2):w.cell? ⟨W,4+k,none⟩=some (qp a.Q):=by
 rcases (by omega:k=0∨k=1) with rfl | rfl
 ·rw[LAt.cell h 4];rfl
 ·rw[LAt.cell h 5];rfl
theorem wc_g (h:LAt 84 w W (wcl k a o vg vw))(hk:k<2):w.cell? ⟨W,6,none⟩=some vg:=by
 rcases (by omega:k=0∨k=1) with rfl | rfl <;> (rw[LAt.cell h 6];rfl)
theorem wc_w (h:LAt 84 w W (wcl k a o vg vw))(hk:k<2):w.cell? ⟨W,7,none⟩=some vw:=by
 rcases (by omega:k=0∨k=1) with rfl | rfl <;> (rw[LAt.cell h 7];rfl)
theorem wc_f (h:LAt 84 w W (wcl k a o vg vw))(j:Nat):w.frozen? ⟨W,j,none⟩=false:=frozen_of_row w W j _ 84 h
theorem wcl_g (k:Nat)(a:Hf)(o:Ot)(vg vw v:Value):(wcl k a o vg vw).set 6 v=wcl k a o v vw:=by unfold wcl;split <;> rfl
theorem wcl_w (k:Nat)(a:Hf)(o:Ot)(vg vw v:Value):(wcl k a o vg vw).set 7 v=wcl k a o vg v:=by unfold wcl;split <;> rfl
end
def Th.pim (p:Option Addr)(l:List Im):Th:=⟨fun w G=>MIn w p l.length l∧(0<l.length→∀a,p=some a→G a.block),fun _=>False,fun _ _ _ _ h=>h.elim,fun _ _ _ _ _ h hk _ hS hG=>⟨mIn_keep h.1 fun a ha h0 hl=>hk.block _ hl (hS _ (h.2 h0 a ha) hl),fun h0 a ha=>hG _ (h.2 h0 a ha)⟩⟩
def kpi (p:Option Addr)(l:List Im):Kd:=fun t=>t=Th.pim p l
section
variable {w0 w w':World} {X:List Kd} {i j P:Nat} {q:Option Nat} {x:Rc}
theorem Fz.pimin (h:Fz w0 w X){p:Option Addr}{l:List Im}(hi:X[i]?=some (kpi p l)):MIn w p l.length l:=by
 obtain ⟨t,G,rfl,ha,-,-⟩:=h.at hi
 exact ha.1
theorem Fz.imsin (h:Fz w0 w X){v:Value}{l:List Im}(hi:X[i]?=some (ko v l))(hw:ImsWf l):∃p c,v=.slice p l.length c∧MIn w p l.length l∧l.length≤c:=by
 obtain ⟨t,G,rfl,ha,-,-⟩:=h.at hi
 obtain ⟨p,c,e,hm,hc,-⟩:=IOwn.in (show IOwn w 0 v l from ha) hw
 exact⟨p,c,e,hm,hc⟩
theorem Fz.lsin (h:Fz w0 w X){v u:Value}{us:List Value}{fs:List (List Im)}{f:List Im}(hi:X[i]?=some (kl v us fs)){k:Nat}(hu:us[k]?=some u)(hf:fs[k]?=some f):∃p c,u=.slice p f.length c∧MIn w p f.length f:=by
 have hl:=h.lsat hi
 obtain ⟨p,c,e,hm,-⟩:=IOwn.in (hl.each k u f hu hf) (hl.wf f (List.mem_of_getElem? hf)).1
 exact⟨p,c,e,hm⟩
theorem Rc.Ok.l64 {n:Nat}(h:x.Ok n):ImsWf x.left∧x.left.length≤64:=⟨h.wf,by have:=h.few;have:=h.mc.2.1;omega⟩
end
open Go.Proofs.Tryz
section
variable {w0 w:World} {X:List Kd}
theorem Fz.imcopy (h:Fz w0 w X){a:Option Addr}{m c:Nat}{l:List Im}(hm:MIn w a m l)(hl:m≤3000000):∃q c' w',(Builtin.append_ #[92,92] 92 #[.slice (some ⟨w.heap.size,0,none⟩) 0 0,.slice a m c]).run prog (w.alloc (.cells #[] 155))=.ok (.slice q m c') w'∧IOwn w' w.heap.size (.slice q m c') l∧Fz w0 w' (ko (.slice q m c') l :: X)∧Below w.heap.size w w':=by
 have hb:=below_alloc w (.cells #[] 155)
 have own0:IOwn (w.alloc (.cells #[] 155)) w.heap.size (.slice (some ⟨w.heap.size,0,none⟩) 0 0) []:=World.ownsRow_made w #[] 0 (Nat.le_refl _) (Nat.zero_le _) rfl
 have hll:=hm.len
 obtain ⟨q1,m1,c1,y1,hr1,ho1,hg1,-⟩:=app_imsL (c:=c) own0 ImsWf.nil (hm.later hb) (by simp;omega) hb.size
 have ho2:IOwn y1 w.heap.size (.slice q1 m1 c1) l:=ho1
 obtain ⟨q2,c2,e2,hm2,-⟩:=IOwn.in ho2 hm.wf
 have hb1:Below w.heap.size w y1:=hb.grown hg1 hb.size (fun j ej=>(own0.lt j ej).1)
 cases e2
 subst hll
 exact⟨_,_,y1,hr1,ho2,h.push hb1 (u:=.ims _ _) (fun _=>own_zero ho2) (fun b hb=>(World.ownsRow.lt ho2 b hb).1) rfl,hb1⟩
end
def ksv (P:Nat)(q:Option Nat)(x:Rc)(v:Value):Kd:=fun t=>t=Th.rrc P q x v
section
variable {w0 w w':World} {X:List Kd} {i j P:Nat} {q:Option Nat} {x:Rc} {v:Value}
theorem Fz.ksv (h:Fz w0 w X)(hi:X[i]?=some (ks P q x)):∃a c,w.cell? ⟨P,9,none⟩=some (.slice a x.left.length c)∧Fz w0 w (X.set i (Q.ksv P q x (.slice a x.left.length c))):=by
 obtain ⟨t,G,⟨v,rfl⟩,ha,hf,hL⟩:=h.at hi
 obtain ⟨a,c,rfl,-⟩:=(show DAt w G P q x v from ha).lf.ex
 exact⟨a,c,(show DAt w G P q x _ from ha).c9,hL w (.rrc P q x _) G (fun _=>False) _ ha (Kept.refl _ w) (fun _ _ e=>e.elim) (fun b hb=>.inl hb) (fun _ e=>e) (fun _ e=>.inl e) rfl⟩
theorem Fz.unksv (h:Fz w0 w X)(hi:X[i]?=some (Q.ksv P q x v)):Fz w0 w (X.set i (ks P q x)):=by
 obtain ⟨t,G,rfl,ha,hf,hL⟩:=h.at hi
 exact hL w (.rrc P q x v) G (fun _=>False) _ ha (Kept.refl _ w) (fun _ _ e=>e.elim) (fun b hb=>.inl hb) (fun _ e=>e) (fun _ e=>.inl e) ⟨v,rfl⟩
theorem Fz.vc9 (h:Fz w0 w X)(hi:X[i]?=some (Q.ksv P q x v)):w.cell? ⟨P,9,none⟩=some v:=by
 obtain ⟨t,G,rfl,ha,-,-⟩:=h.at hi
 exact (show DAt w G P q x v from ha).c9
theorem Fz.vpin (h:Fz w0 w X){a:Option Addr}{m c:Nat}(hi:X[i]?=some (Q.ksv P q x (.slice a m c))):Fz w0 w (kpi a x.left :: X):=by
 obtain ⟨T,G,hF,hb0,hX⟩:=h
 obtain ⟨t,ht,rfl⟩:=hX.get hi
 have hd:DAt w G P q x (.slice a m c):=hF.at' i _ ht
 obtain ⟨a',c',e,hm,hc,-,hg⟩:=hd.lf.ex
 cases e
 exact⟨.pim a x.left :: T,G,hF.push hb0.size (Below.refl _ _) (fun _ a=>a) ⟨hm,hg⟩ (fun _ h=>h.elim) (fun _ a=>.inl a),hb0,rfl,hX⟩
end
section
variable {w0 w w':World} {W k n:Nat} {a:Hf} {o:Ot} {us ux:List Value} {fs:List (List Im)} {Y:List Kd} {K1 K2 K3 K4:Kd} {f:List Im} {p pu:Option Addr} {cu c:Nat}
theorem list_at {vg vw:Value}(h:Fz w0 w (ko (.slice pu f.length cu) f :: kpi p f :: kb W 84 (wcl k a o (vg) (vw)) :: K1 :: K2 :: K3 :: K4 :: kl (vg) (us) (fs) :: kl (vw) (ux) (fs) :: Y))(hk:k<2)(hw:ImsWf f∧f.length≤64)(hm:us.length≤8000):Calls prog 66 #[qp W,.slice pu f.length cu,.slice p f.length c] w fun e w'=>e=.returned (.bool true)∧∃vg' vw' us' ux' fs',us'.length=us.length+1∧Fz w0 w' (kb W 84 (wcl k a o vg' vw') :: K1 :: K2 :: K3 :: K4 :: kl vg' us' fs' :: kl vw' ux' fs' :: Y):=by
 have hlu:=(h.lsat (i:=7) rfl).len
 have hlx:=(h.lsat (i:=8) rfl).len
 obtain ⟨qg,ng,rfl⟩:=h.lsform (i:=7) rfl
 obtain ⟨qw,nw,rfl⟩:=h.lsform (i:=8) rfl
 have g6:=wc_g (h.atb (i:=2) rfl).1 hk
 obtain ⟨v1,w1,r1,h1⟩:=Fz.join (i:=6) h rfl hw (by omega)
 obtain ⟨q1,n1,rfl⟩:=h1.lsform (i:=6) rfl
 have HR1:Hid (_):=r1
 have f6:=wc_f (h1.atb (i:=1) rfl).1 6
 have e6:=wc_g (h1.atb (i:=1) rfl).1 hk
 have h2:=Fz.cell (i:=1) h1 rfl 6 (.slice q1 (us++[Value.slice pu f.length cu]).length n1)
 simp only[zC,zB,wcl_g] at h2
 obtain ⟨w2,hw2⟩:∃Z,w1.setCell ⟨W,6,none⟩ (.slice q1 (us++[Value.slice pu f.length cu]).length n1)=Z:=⟨_,rfl⟩
 rw[hw2] at h2
 have H2:Hid (Fz w0 w2.drew (kpi p f :: kb W 84 (wcl k a o (.slice q1 (us++[Value.slice pu f.length cu]).length n1) (.slice qw ux.length nw)) :: K1 :: K2 :: K3 :: K4 :: kl (.slice q1 (us++[Value.slice pu f.length cu]).length n1) (us++[Value.slice pu f.length cu]) (fs++[f]) :: kl (.slice qw ux.length nw) (ux) (fs) :: Y)):=h2.later (below_drawn 1)
 obtain ⟨q3,c3,w3,r3,-,h3,hb3⟩:=Fz.imcopy (c:=c) H2.out (H2.out.pimin (i:=0) rfl) (by omega)
 obtain ⟨v4,w4,r4,h4⟩:=Fz.join (i:=7) h3 rfl hw (by omega)
 obtain ⟨q4,n4,rfl⟩:=h4.lsform (i:=7) rfl
 have HR3:Hid (_):=r3
 have HR4:Hid (_):=r4
 have S0:w2.drew.cell? ⟨W,7,none⟩=some (.slice qw ux.length nw):=wc_w (H2.out.atb (i:=1) rfl).1 hk
 have S1:Hid ((w2.drew.alloc (.cells #[] 155)).cell? ⟨W,7,none⟩=some (.slice qw ux.length nw)):=wc_w ((H2.out.later (below_alloc _ _)).atb (i:=1) rfl).1 hk
 have S3:Hid (w3.cell? ⟨W,7,none⟩=some (.slice qw ux.length nw)):=wc_w (h3.atb (i:=2) rfl).1 hk
 have S3a:Hid ((w3.alloc (.cells #[.slice q3 f.length c3] 92)).cell? ⟨W,7,none⟩=some (.slice qw ux.length nw)):=wc_w ((h3.later (below_alloc _ _)).atb (i:=2) rfl).1 hk
 have S4:Hid (w4.cell? ⟨W,7,none⟩=some (.slice qw ux.length nw)):=wc_w (h4.atb (i:=1) rfl).1 hk
 have F4:Hid (w4.frozen? ⟨W,7,none⟩=false):=wc_f (h4.atb (i:=1) rfl).1 7
 have h5:=Fz.cell (i:=1) h4 rfl 7 (.slice q4 (ux++[Value.slice q3 f.length c3]).length n4)
 simp only[zC,zB,wcl_w] at h5
 have H5:Hid (Fz w0 (w4.setCell ⟨W,7,none⟩ (.slice q4 (ux++[Value.slice q3 f.length c3]).length n4)) (kpi p f :: kb W 84 (wcl k a o (.slice q1 (us++[Value.slice pu f.length cu]).length n1) (.slice q4 (ux++[Value.slice q3 f.length c3]).length n4)) :: K1 :: K2 :: K3 :: K4 :: kl (.slice q1 (us++[Value.slice pu f.length cu]).length n1) (us++[Value.slice pu f.length cu]) (fs++[f]) :: kl (.slice q4 (ux++[Value.slice q3 f.length c3]).length n4) (ux++[Value.slice q3 f.length c3]) (fs++[f]) :: Y)):=h5
 have HLU:Hid (fs.length=us.length∧f.length≤64):=⟨hlu,hw.2⟩
 clear h h1 h2 h3 h4 h5 hb3 r1 r3 r4 hlu hlx hm hw H2
 obtain ⟨m1,hm1⟩:∃m,(us++[Value.slice pu f.length cu]).length=m:=⟨_,rfl⟩
 rw[hm1] at HR1 H5 hw2
 obtain ⟨m4,hm4⟩:∃m,(ux++[Value.slice q3 f.length c3]).length=m:=⟨_,rfl⟩
 rw[hm4] at HR4 H5
 obtain ⟨fl,hfl⟩:∃m,f.length=m:=⟨_,rfl⟩
 have HFL:Hid (f.length=fl):=hfl
 have HM1:Hid ((us++[Value.slice pu f.length cu]).length=m1):=hm1
 rw[hfl] at HR1 HR3 S3a HR4 H5 hm1 hm4 ⊢
 clear hm1 hm4 hfl
 go_enter func66,ntmps66
 go_wp2_with ((with_reducible refine at_ops ?_);(refine wpList_append_is (by rfl) rfl rfl rfl rfl HR1.out ?_);simp only[Act.put,zA,zB,zC])
 clear g6 f6 e6 hw2 HR1
 refine wp_region_noPanic ?_
 refine wp_region_last 12 (fun Z=>Z.cell? ⟨W,7,none⟩=some (.slice qw ux.length nw)) (by kernel_rfl) ?_
 have hHeld:=S0
 clear S0
 generalize w2.drew=wd at *
 refine tkL 0 hHeld ?_
 refine tkL 1 hHeld ?_
 refine tkL 2 hHeld ?_
 refine tkL 3 hHeld ?_
 refine tklL 4 hHeld (fun _ s=>s) ?_
 refine tkL 6 hHeld ?_
 clear hHeld
 refine wpAnyL_ready (rs:=[5]) (by kernel_rfl) (by simp) ?_
 refine AllReadyL.cons (by simp;rfl) (fun Kc hKc=>?_) AllReadyL.nil
 refine step_slice_is (by rfl) 92 0 rfl (by rfl) (build_im0 _) ?_
 simp only[Act.put,zA,zB,zC]
 refine hKc.out _ _ (fun _=>S1.out) ?_
 clear hKc Kc S1
 refine wpAnyL_ready (rs:=[7]) (by kernel_rfl) (by simp) ?_
 refine AllReadyL.cons (by simp;rfl) (fun Kc hKc=>?_) AllReadyL.nil
 refine step_append_is (by rfl) rfl rfl rfl rfl HR3.out ?_
 simp only[Act.put,zA,zB,zC]
 refine hKc.out _ _ (fun _=>S3.out) ?_
 clear hKc Kc S3 HR3
 refine wpAnyL_ready (rs:=[8]) (by kernel_rfl) (by simp) ?_
 refine AllReadyL.cons (by simp;rfl) (fun Kc hKc=>?_) AllReadyL.nil
 refine step_slice_is (by rfl) 82 1 rfl (by rfl) (slice1L_is _ _ _ _) ?_
 simp only[Act.put,zA,zB,zC]
 refine hKc.out _ _ (fun _=>S3a.out) ?_
 clear hKc Kc S3a
 refine wpAnyL_ready (rs:=[9]) (by kernel_rfl) (by simp) ?_
 refine AllReadyL.cons (by simp;rfl) (fun Kc hKc=>?_) AllReadyL.nil
 refine step_append_is (by rfl) rfl rfl rfl rfl HR4.out ?_
 simp only[Act.put,zA,zB,zC]
 refine hKc.out _ _ (fun _=>S4.out) ?_
 clear hKc Kc HR4
 refine wpAnyL_ready (rs:=[10]) (by kernel_rfl) (by simp) ?_
 refine AllReadyL.cons (by simp;rfl) (fun Kc hKc=>?_) AllReadyL.nil
 go_simp
 refine hKc.out _ _ (fun _=>S4.out) ?_
 clear hKc Kc
 refine wpAnyL_ready (rs:=[11]) (by kernel_rfl) (by simp) ?_
 refine AllReadyL.cons (by simp;rfl) (fun Kc hKc=>?_) AllReadyL.nil
 go_simp
 refine hKc.out _ _ (fun _=>S4.out) ?_
 clear hKc Kc
 refine wpAnyL_ready (rs:=[12]) (by kernel_rfl) (by simp) ?_
 refine AllReadyL.cons (by simp;rfl) (fun Kc hKc=>?_) AllReadyL.nil
 have z0:=S4.out
 have z1:=F4.out
 go_simp
 refine hKc.out _ _ (fun e=>absurd rfl e) ?_
 clear hKc Kc z0 z1 S4 F4
 refine wpAnyL_done (by kernel_rfl) (NoPanic.normal ?_) _
 generalize w4.setCell ⟨W,7,none⟩ (.slice q4 m4 n4)=w5 at *
 obtain ⟨pz,cz,ez,hmz⟩:=H5.out.lsin (i:=6) rfl (k:=us.length) (u:=.slice pu fl cu) (f:=f) (by simp[← HFL.out]) (by rw[← HLU.out.1];simp)
 have e2:pz=pu:=by injection ez with e _ _;exact e.symm
 subst e2
 have hm2:=H5.out.pimin (i:=0) rfl
 rw[HFL.out] at hmz hm2
 have H6:Hid (Fz w0 w5 (kb W 84 (wcl k a o (.slice q1 m1 n1) (.slice q4 m4 n4)) :: K1 :: K2 :: K3 :: K4 :: kl (.slice q1 m1 n1) (us++[Value.slice pz fl cu]) (fs++[f]) :: kl (.slice q4 m4 n4) (ux++[Value.slice q3 fl c3]) (fs++[f]) :: Y)):=H5.out.pop
 clear H5 ez
 go_wp2_with fail
 refine (sameImages_eq pz p fl cu c f w5 hmz hm2 (by have:=HLU.out.2;have:=HFL.out;omega)).mono ?_
 rintro e w6 ⟨rfl,hb⟩
 have HZ:Hid (Fz w0 w6 (kb W 84 (wcl k a o (.slice q1 m1 n1) (.slice q4 m4 n4)) :: K1 :: K2 :: K3 :: K4 :: kl (.slice q1 m1 n1) (us++[Value.slice pz fl cu]) (fs++[f]) :: kl (.slice q4 m4 n4) (ux++[Value.slice q3 fl c3]) (fs++[f]) :: Y)):=H6.out.later hb
 clear hb H6 hmz hm2
 go_wp2
 go_ret
 exact⟨rfl,_,_,_,_,_,by simp,HZ.out⟩
end
section
variable {w0 w:World} {X:List Kd} {i j P p n:Nat} {q:Option Nat} {D:Dd} {x:Rc}
theorem size_rredo:(prog.info? 144).map (·.size)=some 10:=by kernel_rfl
theorem build_rredo (w:World)(p:Nat)(c:Sup):(Instr.build 144 #[(0,qp p),(1,.agg (ccells c).toArray),(2,.int .i64 1)]).run prog w=.ok (.agg (rcl (some p) (r0 c) (.slice none 0 0)).toArray) w:=run_build w 144 _ _ (by kernel_rfl)
theorem rnew_bad (c:Sup)(hc:¬MayC c)(h:Fz w0 w X):Calls prog 24 #[qp p,.agg (ccells c).toArray] w fun e w'=>e=.returned (.tuple #[.pointer none,.int .i64 3])∧Fz w0 w' X:=by
 have h1:=h.cbox c
 obtain ⟨B,hB⟩:∃B,w.heap.size=B:=⟨_,rfl⟩
 rw[hB] at h1
 have HC:Hid (_):=loadC (h1.atb (i:=0) rfl).1
 have H1:Hid (Fz w0 (w.alloc (.cells (ccells c).toArray 23)) (kb B 23 (ccells c) :: X)):=h1
 clear h h1
 go_enter func24,ntmps24
 go_wp2_with ((with_reducible refine at_ops ?_);(refine wpList_load_is (by rfl) 23 rfl rfl HC.out ?_);simp only[Act.put,zA,zB,zC])
 refine (refConfig_any c _).mono ?_
 rintro e w2 ⟨rfl,hb⟩
 have H2:Hid (Fz w0 w2 (kb B 23 (ccells c) :: X)):=H1.out.later hb
 clear hb H1 HC
 rw[cfg_bad hc]
 go_wp2
 go_ret2
 exact⟨rfl,Fz.pop H2.out⟩
theorem rnew_len (c:Sup)(hc:MayC c)(h:Fz w0 w X)(hj:X[j]?=some (ke p n D))(hn:(n:Int)≠1+c.bl+c.lc):Calls prog 24 #[qp p,.agg (ccells c).toArray] w fun e w'=>e=.returned (.tuple #[.pointer none,.int .i64 40])∧Fz w0 w' X:=by
 have h1:=h.cbox c
 obtain ⟨B,hB⟩:∃B,w.heap.size=B:=⟨_,rfl⟩
 rw[hB] at h1
 have HC:Hid (_):=loadC (h1.atb (i:=0) rfl).1
 have H1:Hid (Fz w0 (w.alloc (.cells (ccells c).toArray 23)) (kb B 23 (ccells c) :: X)):=h1
 clear h h1
 go_enter func24,ntmps24
 go_wp2_with ((with_reducible refine at_ops ?_);(refine wpList_load_is (by rfl) 23 rfl rfl HC.out ?_);simp only[Act.put,zA,zB,zC])
 refine (refConfig_any c _).mono ?_
 rintro e w2 ⟨rfl,hb⟩
 have H2:Hid (Fz w0 w2 (kb B 23 (ccells c) :: X)):=H1.out.later hb
 clear hb H1 HC
 rw[cfg_ok hc]
 have H3:Hid (Fz w0 w2.drew (kb B 23 (ccells c) :: X)):=H2.out.later (below_drawn 1)
 clear H2
 go_wp2_with fail
 refine wp_region_noPanic ?_
 refine wp_region_held_drew (S:=fun W=>Fz w0 W (kb B 23 (ccells c) :: X)) (by kernel_rfl) H3.out (fun hHeld=>?_)
 generalize w2.drew=w3 at *
 refine tk 0 hHeld ?_
 refine tk 2 hHeld ?_
 refine tkl 3 hHeld (fun _ s=>cf0 (s.atb (i:=0) rfl).1) ?_
 refine tk 4 hHeld ?_
 refine tk 5 hHeld ?_
 refine tkl 6 hHeld (fun _ s=>cf1 (s.atb (i:=0) rfl).1) ?_
 refine tk 7 hHeld ?_
 refine tkr 1 fun Kc hKc=>?_
 go_simp
 obtain ⟨S,hd,-,-⟩:=Fz.ate (i:=j+1) hHeld hj
 refine (rlen_any hd).mono ?_
 rintro e w' ⟨rfl,hw'⟩
 rw[← hw']
 clear hw' w' hd S
 refine hKc.out _ _ hHeld (fun hHeld=>?_)
 clear hKc Kc
 refine tk 8 hHeld ?_
 clear hHeld
 refine wpAnyH_done (by kernel_rfl) (NoPanic.normal ?_) _
 have HW1:Hid (IntKind.i64.wrap (1+c.bl)=1+c.bl):=by show _=_;rw[IntKind.wrap_i64];omega
 have HW2:Hid (IntKind.i64.wrap (1+c.bl+c.lc)=1+c.bl+c.lc):=by show _=_;rw[IntKind.wrap_i64];omega
 rw[HW1.out,HW2.out]
 have hq:((n:Int) != 1+c.bl+c.lc)=true:=by simp[hn]
 go_wp2
 go_ret2
 exact⟨rfl,Fz.pop H3.out⟩
theorem rnew_ok (c:Sup)(hc:MayC c)(h:Fz w0 w X)(hj:X[j]?=some (ke p n D))(hn:(n:Int)=1+c.bl+c.lc):Calls prog 24 #[qp p,.agg (ccells c).toArray] w fun e w'=>∃P,e=.returned (.tuple #[qp P,.int .i64 0])∧Fz w0 w' (ks P (some p) (r0 c) :: X):=by
 have h1:=h.cbox c
 obtain ⟨B,hB⟩:∃B,w.heap.size=B:=⟨_,rfl⟩
 rw[hB] at h1
 have HC:Hid (_):=loadC (h1.atb (i:=0) rfl).1
 have H1:Hid (Fz w0 (w.alloc (.cells (ccells c).toArray 23)) (kb B 23 (ccells c) :: X)):=h1
 clear h h1
 go_enter func24,ntmps24
 go_wp2_with ((with_reducible refine at_ops ?_);(refine wpList_load_is (by rfl) 23 rfl rfl HC.out ?_);simp only[Act.put,zA,zB,zC])
 refine (refConfig_any c _).mono ?_
 rintro e w2 ⟨rfl,hb⟩
 have H2:Hid (Fz w0 w2 (kb B 23 (ccells c) :: X)):=H1.out.later hb
 clear hb H1 HC
 rw[cfg_ok hc]
 have H3:Hid (Fz w0 w2.drew (kb B 23 (ccells c) :: X)):=H2.out.later (below_drawn 1)
 clear H2
 go_wp2_with fail
 refine wp_region_noPanic ?_
 refine wp_region_held_drew (S:=fun W=>Fz w0 W (kb B 23 (ccells c) :: X)) (by kernel_rfl) H3.out (fun hHeld=>?_)
 generalize w2.drew=w3 at *
 refine tk 0 hHeld ?_
 refine tk 2 hHeld ?_
 refine tkl 3 hHeld (fun _ s=>cf0 (s.atb (i:=0) rfl).1) ?_
 refine tk 4 hHeld ?_
 refine tk 5 hHeld ?_
 refine tkl 6 hHeld (fun _ s=>cf1 (s.atb (i:=0) rfl).1) ?_
 refine tk 7 hHeld ?_
 refine tkr 1 fun Kc hKc=>?_
 go_simp
 obtain ⟨S,hd,-,-⟩:=Fz.ate (i:=j+1) hHeld hj
 refine (rlen_any hd).mono ?_
 rintro e w' ⟨rfl,hw'⟩
 rw[← hw']
 clear hw' w' hd S
 refine hKc.out _ _ hHeld (fun hHeld=>?_)
 clear hKc Kc
 refine tk 8 hHeld ?_
 clear hHeld
 refine wpAnyH_done (by kernel_rfl) (NoPanic.normal ?_) _
 have HW1:Hid (IntKind.i64.wrap (1+c.bl)=1+c.bl):=by show _=_;rw[IntKind.wrap_i64];omega
 have HW2:Hid (IntKind.i64.wrap (1+c.bl+c.lc)=1+c.bl+c.lc):=by show _=_;rw[IntKind.wrap_i64];omega
 rw[HW1.out,HW2.out]
 have hq:((n:Int) != 1+c.bl+c.lc)=false:=by simp[hn]
 have HC:Hid (_):=loadC (H3.out.atb (i:=0) rfl).1
 have HBD:Hid (_):=build_rredo w3 p c
 have HZ:Hid (Fz w0 (w3.alloc (.cells (rcl (some p) (r0 c) (.slice none 0 0)).toArray 144)) (ks w3.heap.size (some p) (r0 c) :: X)):=(Fz.pop H3.out).news (below_alloc w3 _) (Nat.le_refl _) rfl (heap_alloc_new w3 _)
 clear H3
 go_wp2_with ((with_reducible refine at_ops ?_);(first | (refine wpList_load_is (by rfl) 23 rfl rfl HC.out ?_) | (refine wpList_build_is (vs:=[(0,qp p),(1,.agg (ccells c).toArray),(2,.int .i64 1)]) (by rfl) 144 rfl (by rfl) HBD.out ?_));simp only[Act.put,zA,zB,zC])
 go_ret2
 exact⟨_,rfl,HZ.out⟩
theorem rtail_at (h:Fz w0 w X)(hi:X[i]?=some (ks P q x))(ok:x.Ok n):Calls prog 98 #[qp P] w fun e w'=>e=.returned (.int .u64 (x.en+x.c.lc))∧Fz w0 w' X:=by
 have HF:Hid (Fz w0 w.drew X):=h.later (below_drawn 1)
 have e0:=ok.e0;have e1:=ok.e1;have hmc:=ok.mc.2.1
 clear h ok
 go_enter func98,ntmps98
 go_wp2_with fail
 refine wp_region_noPanic ?_
 refine wp_region_held_drew (S:=fun W=>Rdv P q x W) (by kernel_rfl) (HF.out.rv hi) (fun hHeld=>?_)
 generalize w.drew=w2 at *
 refine tk 0 hHeld ?_
 refine tk 1 hHeld ?_
 refine tk 2 hHeld ?_
 refine tkl 3 hHeld (fun _ s=>s.c8) ?_
 refine tk 4 hHeld ?_
 refine tk 5 hHeld ?_
 refine tk 6 hHeld ?_
 refine tk 7 hHeld ?_
 refine tkl 8 hHeld (fun _ s=>s.c2) ?_
 refine tk 9 hHeld ?_
 refine tk 10 hHeld ?_
 refine tk 11 hHeld ?_
 clear hHeld
 refine wpAnyH_done (by kernel_rfl) (NoPanic.normal ?_) _
 have HW1:Hid (IntKind.u64.wrap x.c.lc=x.c.lc):=by show _=_;rw[IntKind.wrap_u64];omega
 have HW2:Hid (IntKind.u64.wrap (x.en+x.c.lc)=x.en+x.c.lc):=by show _=_;rw[IntKind.wrap_u64];omega
 rw[HW1.out,HW2.out]
 go_wp2
 go_ret
 exact⟨rfl,HF.out⟩
theorem rresult_at (h:Fz w0 w X)(hi:X[i]?=some (ks P q x))(ok:x.Ok n):Calls prog 65 #[qp P] w fun e w'=>e=.returned (.tuple #[.int .u64 (resS x).1,.int .u64 (resS x).2.1,.bool (resS x).2.2])∧Fz w0 w' X:=by
 have HF:Hid (Fz w0 w X):=h
 have c6:=(h.rv hi).c6
 clear h
 by_cases h6:x.st=6
 ·have hr:resS x=(x.en+x.c.lc,x.li+1,true):=if_pos h6
  rw[h6] at c6
  have HF2:Hid (Fz w0 w.drew X):=HF.out.later (below_drawn 1)
  have HW3:Hid (IntKind.u64.wrap (x.li+1)=x.li+1):=by have a:=ok.l0;have b:=ok.l1;show _=_;rw[IntKind.wrap_u64];omega
  clear HF
  go_enter func65,ntmps65
  go_wp2_with fail
  clear c6
  refine wp_region_noPanic ?_
  refine wp_region_held_drew (S:=fun W=>Fz w0 W X) (by kernel_rfl) HF2.out (fun hHeld=>?_)
  generalize w.drew=w2 at *
  clear HF2
  refine tk 0 hHeld ?_
  refine tk 2 hHeld ?_
  refine tk 3 hHeld ?_
  refine tk 4 hHeld ?_
  refine tkl 5 hHeld (fun _ s=>(Fz.rv s hi).c7) ?_
  refine tk 6 hHeld ?_
  refine tkr 1 fun Kc hKc=>?_
  go_simp
  refine (rtail_at hHeld hi ok).mono ?_
  rintro e w3 ⟨rfl,h3⟩
  refine hKc.out _ _ h3 (fun hHeld=>?_)
  clear h3
  clear hKc Kc
  refine tk 7 hHeld ?_
  refine tk 8 hHeld ?_
  refine tk 9 hHeld ?_
  have HZ:Hid (Fz w0 _ X):=hHeld
  clear hHeld
  refine wpAnyH_done (by kernel_rfl) (NoPanic.normal ?_) _
  rw[HW3.out]
  go_wp2
  go_ret3
  exact⟨by rw[hr];rfl,HZ.out⟩
 ·have hr:resS x=(0,0,false):=if_neg h6
  have hq:(x.st != 6)=true:=by simp[h6]
  go_enter func65,ntmps65
  go_wp2
  go_ret3
  exact⟨by rw[hr];rfl,HF.out⟩
theorem DAt.load {G:Nat→Prop}{v:Value}(h:DAt w G P q x v):(Instr.loadAt 144 (.pointer (some ⟨P,0,none⟩))).run prog w=.ok (.agg (rcl q x v).toArray) w:=run_loadAt_mid w P 0 144 (rcl q x v) _ (LAt.range h.str) underlying144 rfl (by rw[size_rredo];rfl)
theorem rcl_one (q:Option Nat)(x:Rc)(a:Option Addr)(m c:Nat):(rcl q x (.slice a m c)).toArray.all (·.oneCell')=true:=by
 cases q <;> simp[rcl,qo,Value.oneCell']
theorem alloc_rredo (w:World):(Instr.alloc 144 true (.tuple #[])).run prog w=.ok (.pointer (some ⟨w.heap.size,0,none⟩)) (w.alloc (.cells zcl.toArray 144)):=by
 have hz:(prog.info? 144).bind (·.zero)=some (.agg zcl.toArray):=by kernel_rfl
 simp only[Instr.alloc,Sem.run_bind,Go.Proofs.YtdadpepfpiimgaaGreatDoor.zv 144 _ hz,Result.andThen_ok]
 simp[newVar,newRow,Value.cells]
theorem store_rredo (w:World)(q:Option Nat)(x:Rc)(a:Option Addr)(m c:Nat):(Instr.storeAt 144 (.pointer (some ⟨w.heap.size,0,none⟩)) (.agg (rcl q x (.slice a m c)).toArray)).run prog (w.alloc (.cells zcl.toArray 144))=.ok () (w.alloc (.cells (rcl q x (.slice a m c)).toArray 144)):=by
 rw[(LAt.new 144 w zcl).store (ds:=rcl q x (.slice a m c)) (by rw[size_rredo];rfl) rfl (rcl_one q x a m c),setRow_alloc]
theorem ron_at (h:Fz w0 w X)(hi:X[i]?=some (ks P q x))(q':Option Nat):Calls prog 61 #[qp P,qo q'] w fun e w'=>∃R,e=.returned (qp R)∧Fz w0 w' (ks R q' x :: X):=by
 obtain ⟨G,v,hp,-⟩:=h.ats hi
 obtain ⟨a,c,e,hm,-⟩:=hp.lf.ex
 subst e
 obtain ⟨E,hE⟩:∃E,w.heap.size=E:=⟨_,rfl⟩
 obtain ⟨w1,hw1⟩:∃W,w.alloc (.cells (rcl q x (.slice a x.left.length c)).toArray 144)=W:=⟨_,rfl⟩
 have HL:Hid (_):=hp.load
 have HA:Hid (_):=alloc_rredo w
 have HS:Hid (_):=store_rredo w q x a x.left.length c
 rw[hE] at HA HS
 rw[hw1] at HS
 have hn:LAt 144 w1 E (rcl q x (.slice a x.left.length c)):=by rw[← hw1,← hE];exact heap_alloc_new w _
 have k0:w1.cell? ⟨E,0,none⟩=some (qo q):=by rw[LAt.cell hn 0];rfl
 have f0:w1.frozen? ⟨E,0,none⟩=false:=frozen_row hn
 have HZ:Hid (Fz w0 (w1.setCell ⟨E,0,none⟩ (qo q')) (ks E q' x :: X)):=by
  have e1:w1.setCell ⟨E,0,none⟩ (qo q')=w.alloc (.cells (rcl q' x (.slice a x.left.length c)).toArray 144):=by
   rw[setCell_eq_setRow w1 E 0 _ 144 (0,0) _ hn,← hw1,← hE,setRow_alloc];congr 1
  rw[e1]
  refine h.rtwin hi (below_alloc w _) (by omega) fun G2 v2 hp2=>⟨.slice a x.left.length c,by rw[← hE];exact heap_alloc_new w _,?_⟩
  have ev:v2=.slice a x.left.length c:=by
   have:=hp2.c9
   rw[hp.c9] at this
   exact (Option.some.inj this).symm
  have:=hp2.lf
  rw[ev] at this
  exact this.keep (Kept.of_below (S:=fun _=>False) (below_alloc w _)) (fun _ _ _ e=>e) (fun _ a=>a)
 clear h hp hm hn hw1 hE
 have HK:Hid (∃b,qo q=.pointer b):=by cases q <;> exact⟨_,rfl⟩
 obtain ⟨b,hb⟩:=HK.out
 rw[hb] at k0
 cases q' with
 | none =>
  simp only[qo] at HZ ⊢
  go_enter func61,ntmps61
  go_wp2_with ((with_reducible refine at_ops ?_);(first | (refine wpList_load_is (by rfl) 144 rfl rfl HL.out ?_) | (refine wpList_alloc_is (by rfl) 144 rfl HA.out ?_) | (refine wpList_store_is (by rfl) 144 rfl rfl rfl HS.out ?_));simp only[Act.put,zA,zB,zC])
  go_ret
  exact⟨_,rfl,HZ.out⟩
 | some p' =>
  simp only[qo] at HZ ⊢
  go_enter func61,ntmps61
  go_wp2_with ((with_reducible refine at_ops ?_);(first | (refine wpList_load_is (by rfl) 144 rfl rfl HL.out ?_) | (refine wpList_alloc_is (by rfl) 144 rfl HA.out ?_) | (refine wpList_store_is (by rfl) 144 rfl rfl rfl HS.out ?_));simp only[Act.put,zA,zB,zC])
  go_ret
  exact⟨_,rfl,HZ.out⟩
end
section
variable {w0 w w':World} {X:List Kd} {i j e n P:Nat} {q:Option Nat} {x:Rc} {D:Dd}
theorem Fz.rdisk (h:Fz w0 w X)(hj:X[j]?=some (ke e n D)):∃g cap qv cv,(∀Z,Below w.heap.size w Z→Z.cell? ⟨e,0,none⟩=some (.slice (some ⟨g,0,none⟩) (64*n) cap)∧Z.cell? ⟨e,1,none⟩=some (.slice qv D.ws.length cv)∧BIn Z (some ⟨g,0,none⟩) (64*n) D.d)∧∀k (hk:k<D.ws.length),∃gv gb cb,qv=some ⟨gv,0,none⟩∧∀Z,Below w.heap.size w Z→Z.cell? ⟨gv,k*2,none⟩=some (.int .i64 (D.ws[k].s:Int))∧Z.cell? ⟨gv,k*2+1,none⟩=some (.slice (some ⟨gb,0,none⟩) 64 cb)∧BIn Z (some ⟨gb,0,none⟩) 64 D.ws[k].b:=by
 obtain ⟨S,⟨g,L,cap,v,vs,hp⟩,hlt,-⟩:=h.ate hj
 have hL:=hp.hL
 subst hL
 obtain ⟨qv,cv,rfl,hn0,hsome⟩:=own_slice hp.wr
 have hpl:=(Array.getElem?_eq_some_iff.1 hp.str).1
 obtain ⟨pd,cd,ed,hd,-⟩:=own_in hp.dur hp.db
 have hpd:pd=some ⟨g,0,none⟩:=by injection ed with h1 _ _;exact h1.symm
 subst hpd
 refine⟨g,cap,qv,cv,fun Z hb=>⟨?_,?_,hd.later hb⟩,fun k hk=>?_⟩
 ·rw[hb.cell (p:=⟨e,0,none⟩) hpl,cell_of_row _ _ _ _ _ _ hp.str];rfl
 ·rw[hb.cell (p:=⟨e,1,none⟩) hpl,cell_of_row _ _ _ _ _ _ hp.str];rfl
 ·obtain ⟨gv,rfl⟩:∃gv,qv=some ⟨gv,0,none⟩:=by
   cases hq:qv with
   | none=>have:=(hn0 hq).1;omega
   | some a=>obtain ⟨g',e'⟩:=hsome a hq;exact⟨g',by rw[e']⟩
  have hkv:k<vs.length:=by rw[hp.len];exact hk
  obtain ⟨pb,cb,eb,hb,-⟩:=own_in (hp.dat k hk hkv) (hp.fit.at k hk).2.2
  obtain ⟨_,_,e2,_,h3⟩:=own_slice (hp.dat k hk hkv)
  obtain ⟨gb,rfl⟩:∃gb,pb=some ⟨gb,0,none⟩:=by
   obtain ⟨b',o',rfl,-⟩:=hb.cells (by omega)
   rw[eb] at e2
   simp only[Value.slice.injEq] at e2
   obtain ⟨g3,h4⟩:=h3 ⟨b',o',none⟩ e2.1.symm
   exact⟨g3,by rw[h4]⟩
  obtain ⟨z1,z2⟩:=ZC_at hp.len k hk
  have hr:=own_range hp.wr
  have c1:=hr _ _ z1
  have c2:=hr _ _ z2
  rw[Nat.zero_add] at c1 c2
  rw[eb] at c2
  exact⟨gv,gb,cb,rfl,fun Z hz=>⟨by rw[hz.cell (p:=⟨gv,k*2,none⟩) (World.block_lt_of_cell? w _ c1)];exact c1,by rw[hz.cell (p:=⟨gv,k*2+1,none⟩) (World.block_lt_of_cell? w _ c2)];exact c2,hb.later hz⟩⟩
theorem Told.hold {B g:Nat}{ws:List Wr}{vs:List Value}(h:Told w B g ws vs)(hf:Fit n ws)(k:Nat)(hk:k<ws.length):∃gb cb,∀Z,Below w.heap.size w Z→Z.cell? ⟨g,k*2,none⟩=some (.int .i64 (ws[k].s:Int))∧Z.cell? ⟨g,k*2+1,none⟩=some (.slice (some ⟨gb,0,none⟩) 64 cb)∧BIn Z (some ⟨gb,0,none⟩) 64 ws[k].b:=by
 obtain ⟨gb,cb,c1,c2,hb⟩:=h.at hf k hk
 exact⟨gb,cb,fun Z hz=>⟨by rw[hz.cell (p:=⟨g,k*2,none⟩) (World.block_lt_of_cell? w _ c1)];exact c1,by rw[hz.cell (p:=⟨g,k*2+1,none⟩) (World.block_lt_of_cell? w _ c2)];exact c2,hb.later hz⟩⟩
theorem Fz.rvh (h:Fz w0 w X)(hi:X[i]?=some (ks P q x)):∀Z,Below w.heap.size w Z→Rdv P q x Z:=fun _ hb=>(h.later hb).rv hi
end
section
variable {w0 w:World} {W k n:Nat} {a:Hf} {o:Ot} {vg vw:Value} {us ux:List Value} {fs:List (List Im)} {Y:List Kd}
theorem tells_at (h:Fz w0 w (XP W k n a o vg vw us ux fs Y))(ok:a.x.Ok n)(hk:k<2)(hd:a.D.ws.length≤100000)(hm:us.length≤7000):Calls prog 26 #[qp W,.int .i64 k] w fun e w'=>e=.returned (.bool true)∧∃vg' vw' us' ux' fs',us'.length=us.length+2∧Fz w0 w' (XP W k n a o vg' vw' us' ux' fs' Y):=by
 have OK:Hid (a.x.Ok n):=ok
 have hdo:=h.dok (j:=2) rfl
 have HDB:Hid (Bytes a.D.d):=hdo.db
 have HFT:Hid (Fit n a.D.ws):=hdo.fit
 have H1:Hid (Fz w0 w.drew (XP W k n a o vg vw us ux fs Y)):=h.later (below_drawn 1)
 have k0:(0:Int)≤(k:Int):=by omega
 have k1:(k:Int)<2:=by omega
 clear h hdo ok
 go_enter func26,ntmps26
 go_wp2_with fail
 refine wp_region_noPanic ?_
 refine wp_region_held_drew (S:=fun Z=>LAt 84 Z W (wcl k a o vg vw)) (by kernel_rfl) (H1.out.atb (i:=0) rfl).1 (fun hHeld=>?_)
 generalize w.drew=w1 at *
 refine tk 0 hHeld ?_
 refine tk 1 hHeld ?_
 refine tk 2 hHeld ?_
 refine tk 3 hHeld ?_
 refine tk 4 hHeld ?_
 refine tkl 5 hHeld (fun _ s=>wc_r s hk) ?_
 refine tk 6 hHeld ?_
 refine tk 7 hHeld ?_
 refine tk 8 hHeld ?_
 refine tk 9 hHeld ?_
 refine tk 10 hHeld ?_
 refine tkl 11 hHeld (fun _ s=>wc_d s hk) ?_
 refine tk 12 hHeld ?_
 refine tk 13 hHeld ?_
 refine tk 14 hHeld ?_
 refine tk 15 hHeld ?_
 refine tk 16 hHeld ?_
 refine tkl 17 hHeld (fun _ s=>wc_x s hk) ?_
 refine tk 18 hHeld ?_
 refine tk 19 hHeld ?_
 refine tk 20 hHeld ?_
 clear hHeld
 refine wpAnyH_done (by kernel_rfl) (NoPanic.normal ?_) _
 clear k0 k1
 go_wp2_with fail
 obtain ⟨S,hdd,-,-⟩:=H1.out.atd (i:=2) rfl
 refine (waiting_any hdd hd).mono ?_
 rintro e w3 ⟨gw,vs,rfl,htold,hb3⟩
 have H3:Hid (Fz w0 w3 (XP W k n a o vg vw us ux fs Y)):=H1.out.later hb3
 have HT:Hid (Told w3 w1.heap.size gw a.D.ws vs):=htold
 obtain ⟨gd,capd,qv,cv,hE,hV⟩:=H3.out.rdisk (j:=4) rfl
 have HE:Hid (_):=hE
 have HVV:Hid (_):=hV
 have HR:Hid (_):=H3.out.rvh (i:=3) rfl
 have HB3:Hid (Below w3.heap.size w3 w3.drew):=below_drawn 1
 clear hb3 hdd S htold hE hV H1
 obtain ⟨len,hlen⟩:∃m,a.D.ws.length=m:=⟨_,rfl⟩
 have HLN:Hid (a.D.ws.length=len):=hlen
 rw[hlen] at HE ⊢
 clear hlen
 go_wp2_with fail
 refine wp_region_noPanic ?_
 refine wp_region_held_drew (S:=fun Z=>Below w3.heap.size w3 Z) (by kernel_rfl) HB3.out (fun hHeld=>?_)
 generalize w3.drew=w4 at *
 refine tk 0 hHeld ?_
 refine tk 1 hHeld ?_
 refine tk 2 hHeld ?_
 refine tk 3 hHeld ?_
 refine tk 4 hHeld ?_
 refine tkl 5 hHeld (fun _ s=>(HR.out _ s).c0) ?_
 refine tk 6 hHeld ?_
 refine tk 7 hHeld ?_
 refine tkl 8 hHeld (fun _ s=>(HE.out _ s).2.1) ?_
 refine tk 9 hHeld ?_
 refine tk 10 hHeld ?_
 refine tk 11 hHeld ?_
 refine tk 12 hHeld ?_
 refine tk 15 hHeld ?_
 refine tk 16 hHeld ?_
 refine tk 17 hHeld ?_
 refine tkl 18 hHeld (fun _ s=>(HR.out _ s).c0) ?_
 refine tk 19 hHeld ?_
 refine tk 20 hHeld ?_
 refine tkl 21 hHeld (fun _ s=>(HE.out _ s).1) ?_
 refine tkc 22 hHeld (fun _ s=>(HE.out _ s).2.2.str capd) ?_
 refine tkr 13 fun Kc hKc=>?_
 go_simp
 obtain ⟨S',hdd,-,-⟩:=(H3.out.later hHeld).atd (i:=2) rfl
 refine (image_any hdd).mono ?_
 rintro e' wi ⟨vi,rfl,oi,bi⟩
 obtain ⟨pi,ci,rfl,hri,-⟩:=own_in oi HDB.out
 have Xe:Hid (BIn wi pi (64*n) a.D.d):=hri
 have hH:=below_then hHeld bi
 clear oi bi hri hdd S'
 refine hKc.out _ _ hH (fun hHeld=>?_)
 clear hKc Kc
 refine tkr 14 fun Kc hKc=>?_
 rw[if_pos (by rfl)]
 refine run_conv_is 27 9 rfl rfl (Xe.out.str ci) ?_
 refine hKc.out _ _ hHeld (fun hHeld=>?_)
 clear Xe
 clear hKc Kc
 refine tk 23 hHeld ?_
 refine tk 24 hHeld ?_
 refine tk 25 hHeld ?_
 refine tk 26 hHeld ?_
 refine tk 28 hHeld ?_
 refine tk 29 hHeld ?_
 refine tk 30 hHeld ?_
 refine tkl 31 hHeld (fun _ s=>(HR.out _ s).c6) ?_
 refine tkr 27 fun Kc hKc=>?_
 go_simp
 refine (state_at (i:=1) (H3.out.later hHeld) rfl).mono ?_
 rintro e' w'' ⟨rfl,hw'⟩
 rw[hw']
 clear hw' w''
 refine hKc.out _ _ hHeld (fun hHeld=>?_)
 clear hKc Kc
 refine tk 32 hHeld ?_
 refine tk 33 hHeld ?_
 have HB4:Hid (Below w3.heap.size w3 _):=hHeld
 clear hHeld
 refine wpAnyH_done (by kernel_rfl) (NoPanic.normal ?_) _
 clear HB3
 go_wp2_with fail
 go_loopw [9] (fun iv wr=>∃r:Nat,iv=.int .i64 r∧r≤len∧Hid (Below w3.heap.size w3 wr)) (fun iv _=>len-(intOf iv).toNat)
 case atStart=>exact⟨0,rfl,Nat.zero_le _,HB4⟩
 case round =>
  obtain ⟨r,rfl,hr,HB⟩:=hrel
  clear HB4
  by_cases hlt:r<len
  ·have hrl:r<a.D.ws.length:=by rw[HLN.out];exact hlt
   obtain ⟨gv,gb,cb,hq,hV2⟩:=HVV.out r hrl
   subst hq
   obtain ⟨gb2,cb2,hW2⟩:=Told.hold HT.out HFT.out r hrl
   have HV:Hid (_):=hV2
   have HW:Hid (_):=hW2
   have r1:(r:Int)<(len:Int):=by omega
   have r0:(0:Int)≤(r:Int):=by omega
   have HBd:Hid (Below w3.heap.size w3 wr.drew):=below_then HB.out (below_drawn 1)
   clear hV2 hW2 HVV
   go_wp2_with fail
   ·refine wp_region_noPanic ?_
    refine wp_region_held_drew (S:=fun Z=>Below w3.heap.size w3 Z) (by kernel_rfl) HBd.out (fun hHeld=>?_)
    generalize wr.drew=w5 at *
    refine tk 0 hHeld ?_
    refine tk 1 hHeld ?_
    refine tk 2 hHeld ?_
    refine tk 3 hHeld ?_
    refine tkl 4 hHeld (fun _ s=>(HW.out _ s).1) ?_
    refine tk 5 hHeld ?_
    refine tk 6 hHeld ?_
    refine tk 7 hHeld ?_
    refine tkl 8 hHeld (fun _ s=>(HR.out _ s).c0) ?_
    refine tk 9 hHeld ?_
    refine tk 10 hHeld ?_
    refine tkl 11 hHeld (fun _ s=>(HE.out _ s).2.1) ?_
    refine tk 12 hHeld ?_
    refine tk 13 hHeld ?_
    refine tk 14 hHeld ?_
    refine tkl 15 hHeld (fun _ s=>(HV.out _ s).1) ?_
    refine tk 16 hHeld ?_
    refine tk 17 hHeld ?_
    refine tk 18 hHeld ?_
    refine tk 19 hHeld ?_
    refine tk 20 hHeld ?_
    refine tk 21 hHeld ?_
    refine tkl 22 hHeld (fun _ s=>(HW.out _ s).2.1) ?_
    refine tkc 23 hHeld (fun _ s=>(HW.out _ s).2.2.str _) ?_
    refine tk 24 hHeld ?_
    refine tk 25 hHeld ?_
    refine tk 26 hHeld ?_
    refine tkl 27 hHeld (fun _ s=>(HR.out _ s).c0) ?_
    refine tk 28 hHeld ?_
    refine tk 29 hHeld ?_
    refine tkl 30 hHeld (fun _ s=>(HE.out _ s).2.1) ?_
    refine tk 31 hHeld ?_
    refine tk 32 hHeld ?_
    refine tk 33 hHeld ?_
    refine tkl 34 hHeld (fun _ s=>(HV.out _ s).2.1) ?_
    refine tkc 35 hHeld (fun _ s=>(HV.out _ s).2.2.str _) ?_
    refine tk 36 hHeld ?_
    refine tk 37 hHeld ?_
    have HB6:Hid (Below w3.heap.size w3 _):=hHeld
    clear hHeld
    refine wpAnyH_done (by kernel_rfl) (NoPanic.normal ?_) _
    go_wp2_with fail
    go_roundw
    case rel=>exact⟨r+1,by congr 1,by omega,HB6⟩
    case measure=>simp[intOf];omega
  ·have r1:¬(r:Int)<(len:Int):=by omega
   have H5:Hid (Fz w0 wr (XP W k n a o vg vw us ux fs Y)):=H3.out.later HB.out
   clear H3 HB HE HVV HR HT
   go_wp2_with fail
   refine (result_at (i:=1) H5.out rfl).mono ?_
   rintro e w6 ⟨rfl,h6⟩
   have H6:Hid (Fz w0 w6 (XP W k n a o vg vw us ux fs Y)):=h6
   clear h6 H5
   go_wp2_with fail
   refine (rresult_at (i:=3) H6.out rfl OK.out).mono ?_
   rintro e w7 ⟨rfl,h7⟩
   obtain ⟨al,cl,-,h8⟩:=Fz.ksv (i:=3) (h7.later (below_drawn 1)) rfl
   have H8:Hid (Fz w0 w7.drew (kb W 84 (wcl k a o vg vw) :: kr a.P (some a.d) a.x :: kd a.d n a.D :: ksv a.Q (some a.e) a.x (.slice al a.x.left.length cl) :: ke a.e n a.D :: kl vg us fs :: kl vw ux fs :: Y)):=h8
   clear h7 h8 H6
   go_wp2_with fail
   refine wp_region_noPanic ?_
   refine wp_region_held_drew (S:=fun Z=>Z.cell? ⟨a.Q,9,none⟩=some (.slice al a.x.left.length cl)) (by kernel_rfl) (H8.out.vc9 (i:=3) rfl) (fun hHeld=>?_)
   generalize w7.drew=w8 at *
   refine tk 0 hHeld ?_
   refine tk 1 hHeld ?_
   refine tk 2 hHeld ?_
   refine tk 3 hHeld ?_
   refine tk 4 hHeld ?_
   refine tk 5 hHeld ?_
   refine tk 6 hHeld ?_
   refine tk 7 hHeld ?_
   refine tk 8 hHeld ?_
   refine tk 9 hHeld ?_
   refine tk 10 hHeld ?_
   refine tk 11 hHeld ?_
   refine tk 12 hHeld ?_
   refine tk 13 hHeld ?_
   refine tk 14 hHeld ?_
   refine tk 15 hHeld ?_
   refine tk 17 hHeld ?_
   refine tk 18 hHeld ?_
   refine tk 19 hHeld ?_
   refine tkl 20 hHeld (fun _ s=>s) ?_
   refine tkr 16 fun Kc hKc=>?_
   go_simp
   refine (left_at (i:=1) H8.out rfl (by have:=OK.out.l64.2;omega)).mono ?_
   rintro e' w9 ⟨v9,rfl,h9⟩
   obtain ⟨pu,cu,rfl,-,-⟩:=h9.imsin (i:=0) rfl OK.out.l64.1
   have HL:Hid (Fz w0 w9 (ko (.slice pu a.x.left.length cu) a.x.left :: kb W 84 (wcl k a o vg vw) :: kr a.P (some a.d) a.x :: kd a.d n a.D :: ksv a.Q (some a.e) a.x (.slice al a.x.left.length cl) :: ke a.e n a.D :: kl vg us fs :: kl vw ux fs :: Y)):=h9
   clear h9 H8
   refine hKc.out _ _ (HL.out.vc9 (i:=4) rfl) (fun hHeld=>?_)
   clear hKc Kc
   refine tkr 21 fun Kc hKc=>?_
   go_simp
   have hp:=Fz.swap (HL.out.vpin (i:=4) rfl)
   refine (list_at hp hk OK.out.l64 (by omega)).mono ?_
   rintro e' w10 ⟨rfl,vg1,vw1,us1,ux1,fs1,hl1,h10⟩
   have H10:Hid (Fz w0 w10 (kb W 84 (wcl k a o vg1 vw1) :: kr a.P (some a.d) a.x :: kd a.d n a.D :: ksv a.Q (some a.e) a.x (.slice al a.x.left.length cl) :: ke a.e n a.D :: kl vg1 us1 fs1 :: kl vw1 ux1 fs1 :: Y)):=h10
   clear h10 hp HL
   refine hKc.out _ _ (H10.out.vc9 (i:=3) rfl) (fun hHeld=>?_)
   clear hKc Kc
   refine tk 22 hHeld ?_
   refine tk 23 hHeld ?_
   refine tk 24 hHeld ?_
   refine tk 25 hHeld ?_
   refine tk 27 hHeld ?_
   refine tk 28 hHeld ?_
   refine tk 29 hHeld ?_
   refine tkl 30 hHeld (fun _ s=>s) ?_
   refine tkr 26 fun Kc hKc=>?_
   go_simp
   refine (left_at (i:=1) H10.out rfl (by have:=OK.out.l64.2;omega)).mono ?_
   rintro e' w11 ⟨v9,rfl,h9⟩
   obtain ⟨pu1,cu1,rfl,-,-⟩:=h9.imsin (i:=0) rfl OK.out.l64.1
   have HL1:Hid (Fz w0 w11 (ko (.slice pu1 a.x.left.length cu1) a.x.left :: kb W 84 (wcl k a o vg1 vw1) :: kr a.P (some a.d) a.x :: kd a.d n a.D :: ksv a.Q (some a.e) a.x (.slice al a.x.left.length cl) :: ke a.e n a.D :: kl vg1 us1 fs1 :: kl vw1 ux1 fs1 :: Y)):=h9
   clear h9 H10
   refine hKc.out _ _ (HL1.out.vc9 (i:=4) rfl) (fun hHeld=>?_)
   clear hKc Kc
   refine tkr 31 fun Kc hKc=>?_
   go_simp
   have hp1:=Fz.swap (HL1.out.vpin (i:=4) rfl)
   refine (list_at hp1 hk OK.out.l64 (by omega)).mono ?_
   rintro e' w12 ⟨rfl,vg2,vw2,us2,ux2,fs2,hl2,h10⟩
   have H12:Hid (Fz w0 w12 (kb W 84 (wcl k a o vg2 vw2) :: kr a.P (some a.d) a.x :: kd a.d n a.D :: ksv a.Q (some a.e) a.x (.slice al a.x.left.length cl) :: ke a.e n a.D :: kl vg2 us2 fs2 :: kl vw2 ux2 fs2 :: Y)):=h10
   clear h10 hp1 HL1
   refine hKc.out _ _ (H12.out.vc9 (i:=3) rfl) (fun hHeld=>?_)
   clear hKc Kc
   refine tk 32 hHeld ?_
   refine tk 33 hHeld ?_
   clear hHeld
   refine wpAnyH_done (by kernel_rfl) (NoPanic.normal ?_) _
   have HZ:Hid (Fz w0 w12 (XP W k n a o vg2 vw2 us2 ux2 fs2 Y)):=H12.out.unksv (i:=3) rfl
   go_wp2
   go_ret
   exact⟨rfl,vg2,vw2,us2,ux2,fs2,by omega,HZ.out⟩
end
end Go.Proofs.YtdadpepfpiimgaaGreatDoor.Q
