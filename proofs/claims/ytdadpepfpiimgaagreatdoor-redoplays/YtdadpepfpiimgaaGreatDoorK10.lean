import Derived.Test.YtdadpepfpiimgaaGreatDoorK09
set_option maxHeartbeats 20000000
set_option maxRecDepth 100000
namespace Go.Proofs.YtdadpepfpiimgaaGreatDoor
def takeS (xs:List Int)(s:Int):Int × List Int × Int :=
 if s<1∨8<s then (0,[],2) else if (xs.length:Int)<s then (0,[],11) else (worth (xs.take s.toNat),xs.drop s.toNat,0)
theorem sup0_wf:sup0.Wf:=⟨by decide,by decide,by decide,by decide,by decide,by decide,by decide⟩
theorem rd_get (bs:List Int)(k:Nat)(h:k<bs.length):worth ((bs.drop k).take 1)=bs.getD k 0:=by
 rw[List.drop_eq_getElem_cons h]
 have e:bs.getD k 0=bs[k]:=by simp[List.getD,List.getElem?_eq_getElem h]
 rw[e]
 show bs[k]+256*0=bs[k]
 omega
theorem decS_good (bs:List Int)(h:(decS bs).2=0):May (decS bs).1∧encS (decS bs).1=bs∧bs.length=64:=by
 by_cases hl:bs.length=64
 ·by_cases hg:Good bs
  ·rw[decS_ok bs hl hg];exact⟨hg.1,hg.2,hl⟩
  ·rw[decS_bad bs hl hg] at h;cases h
 ·rw[decS_len bs hl] at h;cases h
theorem decS_wf (bs:List Int)(hb:Bytes bs):(decS bs).1.Wf:=by
 by_cases hl:bs.length=64
 ·by_cases hg:Good bs
  ·rw[decS_ok bs hl hg];exact readS_wf bs hb
  ·rw[decS_bad bs hl hg];exact sup0_wf
 ·rw[decS_len bs hl];exact sup0_wf
end Go.Proofs.YtdadpepfpiimgaaGreatDoor
namespace Go.Proofs.YtdadpepfpiimgaaGreatDoor.R
theorem rec0_wf:rec0.Wf:=⟨by decide,by decide,by decide,by decide,by decide,by decide,by decide,by decide,by decide,zs_bytes 32⟩
theorem may_pos {r:Rec}(h:may r=true):r.pos≤4611686018427387904:=((may_iff r).1 h).1
theorem encS_bytes (r:Rec)(hw:r.Wf)(h:may r=true):Bytes (encS r):=(body_bytes r hw h).append (digits_bytes _ _)
theorem decS_good (bs:List Int)(h:(decS bs).2=0):may (decS bs).1=true∧encS (decS bs).1=bs∧bs.length=64:=by
 unfold decS at *
 by_cases hl:bs.length≠64
 ·rw[if_pos hl] at h;cases h
 ·rw[if_neg hl] at h ⊢
  by_cases hg:goodB bs=true
  ·rw[if_pos hg]
   simp only[goodB,Bool.and_eq_true,decide_eq_true_eq] at hg
   exact⟨hg.1,hg.2,by omega⟩
  ·rw[if_neg hg] at h;cases h
theorem decS_wf (bs:List Int)(hb:Bytes bs):(decS bs).1.Wf:=by
 unfold decS
 by_cases hl:bs.length≠64
 ·rw[if_pos hl];exact rec0_wf
 ·rw[if_neg hl]
  split
  ·exact readS_wf bs hb (by omega)
  ·exact rec0_wf
end Go.Proofs.YtdadpepfpiimgaaGreatDoor.R
namespace Go.Proofs.YtdadpepfpiimgaaGreatDoor.G
abbrev U64:={ x:Int // 0≤x∧x<18446744073709551616 }
def spanN (t e:Int):Nat:=min 64 (e-t).toNat
def spanI (t e:Int):List Int:=(List.range (spanN t e)).map fun (i:Nat)=>t+(i:Int)
theorem spanI_length (t e:Int):(spanI t e).length=spanN t e:=by simp[spanI]
theorem spanI_get (t e:Int)(i:Nat)(h:i<spanN t e):(spanI t e)[i]?=some (t+(i:Int)):=by
 simp[spanI,h]
theorem spanN_le (t e:Int):spanN t e≤64:=by unfold spanN;omega
def upto (t:Int)(k:Nat):List Int:=(List.range k).map fun (i:Nat)=>t+(i:Int)
theorem upto_succ (t:Int)(k:Nat):upto t (k+1)=upto t k++[t+(k:Int)]:=by simp[upto,List.range_succ]
theorem upto_length (t:Int)(k:Nat):(upto t k).length=k:=by simp[upto]
theorem upto_span (t e:Int):upto t (spanN t e)=spanI t e:=rfl
theorem upto_prefix (t e:Int)(k:Nat)(h:k≤spanN t e):upto t k <+: spanI t e:=by
 unfold upto spanI
 obtain ⟨m,hm⟩:=Nat.exists_eq_add_of_le h
 rw[hm,List.range_add,List.map_append]
 exact List.prefix_append _ _
end Go.Proofs.YtdadpepfpiimgaaGreatDoor.G
namespace Go.Proofs.YtdadpepfpiimgaaGreatDoor
structure Im where
 b:Int
 v:List Int
structure TX where
 p:Int
 ims:List Im
structure LogS where
 tail:Int
 life:Int
 fin:Int
 txs:List TX
def log0:LogS:=⟨0,0,0,[]⟩
structure Im.Wf (i:Im):Prop where
 b:i64 i.b
 len:i.v.length=32
 byte:Bytes i.v
def ImsWf (l:List Im):Prop:=∀i∈l,i.Wf
theorem ImsWf.nil:ImsWf []:=fun _ h=>by cases h
theorem ImsWf.snoc {l:List Im}(h:ImsWf l){i:Im}(hi:i.Wf):ImsWf (l++[i]):=fun x hx=>by
 rcases List.mem_append.1 hx with hx | hx
 ·exact h x hx
 ·rw[List.mem_singleton.1 hx];exact hi
structure TX.Wf (t:TX):Prop where
 p:u64 t.p
 ims:ImsWf t.ims
def TxsWf (l:List TX):Prop:=∀t∈l,t.Wf
theorem TxsWf.nil:TxsWf []:=fun _ h=>by cases h
theorem TxsWf.snoc {l:List TX}(h:TxsWf l){t:TX}(ht:t.Wf):TxsWf (l++[t]):=fun x hx=>by
 rcases List.mem_append.1 hx with hx | hx
 ·exact h x hx
 ·rw[List.mem_singleton.1 hx];exact ht
abbrev StndsAt (c:Sup)(rd:Nat→List Int)(p:Int):Prop:=(R.decS (rd (1+c.bl+p % c.lc).toNat)).2=0∧(R.decS (rd (1+c.bl+p % c.lc).toNat)).1.pos=p∧(R.decS (rd (1+c.bl+p % c.lc).toNat)).1.block<c.bl
def stS (c:Sup)(rd:Nat→List Int)(p:Int):R.Rec × Bool :=
 if StndsAt c rd p then ((R.decS (rd (1+c.bl+p % c.lc).toNat)).1,true) else (R.rec0,false)
theorem stS_yes {c:Sup}{rd:Nat→List Int}{p:Int}(h:StndsAt c rd p):stS c rd p=((R.decS (rd (1+c.bl+p % c.lc).toNat)).1,true):=if_pos h
theorem stS_no {c:Sup}{rd:Nat→List Int}{p:Int}(h:¬StndsAt c rd p):stS c rd p=(R.rec0,false):=if_neg h
theorem stS_wf {c:Sup}{rd:Nat→List Int}{p:Int}(hb:∀i,Bytes (rd i)):(stS c rd p).1.Wf:=by
 by_cases h:StndsAt c rd p
 ·rw[stS_yes h];exact R.decS_wf _ (hb _)
 ·rw[stS_no h];exact R.rec0_wf
theorem stS_good {c:Sup}{rd:Nat→List Int}{p:Int}(h:(stS c rd p).2=true):R.may (stS c rd p).1=true∧(stS c rd p).1.pos=p∧(stS c rd p).1.block<c.bl:=by
 by_cases h1:StndsAt c rd p
 ·rw[stS_yes h1];exact⟨(R.decS_good _ h1.1).1,h1.2.1,h1.2.2⟩
 ·rw[stS_no h1] at h;cases h
def lastB (l:List Im):Int:=(l.getD (l.length-1) ⟨0,[]⟩).b
abbrev Folls (l:List Im)(b mr:Int):Prop:=(l.length:Int)<mr∧(l.length=0∨lastB l<b)
structure Sc where
 txs:List TX
 fin:Int
 come:List Im
def scStep (mr:Int)(s:Sc)(p:Int)(r:R.Rec):Option Sc :=
 if r.kind=1∧Folls s.come r.block mr then some ⟨s.txs,s.fin,s.come++[⟨r.block,r.val⟩]⟩
 else if r.kind=2∧r.images=s.come.length then some ⟨s.txs++[⟨p,s.come⟩],p+1,[]⟩ else none
theorem scStep_img {mr:Int}{s:Sc}{p:Int}{r:R.Rec}(h:r.kind=1∧Folls s.come r.block mr):scStep mr s p r=some ⟨s.txs,s.fin,s.come++[⟨r.block,r.val⟩]⟩:=if_pos h
theorem scStep_com {mr:Int}{s:Sc}{p:Int}{r:R.Rec}(h:r.kind=2∧r.images=s.come.length):scStep mr s p r=some ⟨s.txs++[⟨p,s.come⟩],p+1,[]⟩:=by
 unfold scStep;rw[if_neg (fun e=>by have:=h.1;have:=e.1;omega),if_pos h]
theorem scStep_no {mr:Int}{s:Sc}{p:Int}{r:R.Rec}(h:¬(r.kind=1∧Folls s.come r.block mr))(h2:¬(r.kind=2∧r.images=s.come.length)):scStep mr s p r=none:=by
 unfold scStep;rw[if_neg h,if_neg h2]
def scRun (st:Int→R.Rec × Bool)(mr:Int):Nat→Int→Sc→Sc
 | 0,_,s=>s
 | k+1,p,s=>if (st p).2=true then (match scStep mr s p (st p).1 with
   | some s'=>scRun st mr k (p+1) s'
   | none=>s) else s
theorem scRun_zero (st:Int→R.Rec × Bool)(mr p:Int)(s:Sc):scRun st mr 0 p s=s:=rfl
theorem scRun_off {st:Int→R.Rec × Bool}{mr:Int}{k:Nat}{p:Int}{s:Sc}(h:(st p).2=false):scRun st mr k p s=s:=by
 cases k with
 | zero=>rfl
 | succ k=>unfold scRun;rw[if_neg (by rw[h];decide)]
theorem scRun_stop {st:Int→R.Rec × Bool}{mr:Int}{k:Nat}{p:Int}{s:Sc}(h2:scStep mr s p (st p).1=none):scRun st mr k p s=s:=by
 cases k with
 | zero=>rfl
 | succ k =>
  unfold scRun
  by_cases h:(st p).2=true
  ·rw[if_pos h,h2]
  ·rw[if_neg h]
theorem scRun_go {st:Int→R.Rec × Bool}{mr:Int}{k:Nat}{p:Int}{s s':Sc}(h:(st p).2=true)(h2:scStep mr s p (st p).1=some s'):scRun st mr (k+1) p s=scRun st mr k (p+1) s':=by
 show (if (st p).2=true then _ else _)=_
 rw[if_pos h,h2]
structure Sc.Ok (mr t:Int) (n:Nat) (s:Sc):Prop where
 f0:t≤s.fin
 f1:s.fin≤t+n
 tl:s.txs.length≤n
 cl:(s.come.length:Int)≤mr
 tw:TxsWf s.txs
 cw:ImsWf s.come
 ps:∀x∈s.txs,t≤x.p∧x.p<t+n
 up:s.txs.Pairwise (fun x y=>x.p<y.p)
 cm:∀x∈s.txs,(x.ims.length:Int)≤mr
theorem Sc.Ok.start {mr:Int}(h:0≤mr)(t:Int):Sc.Ok mr t 0 ⟨[],t,[]⟩ :=
 ⟨Int.le_refl _,by show t≤t+((0:Nat):Int);omega,Nat.le_refl _,h,TxsWf.nil,ImsWf.nil,fun x hx=>(by cases hx),List.Pairwise.nil,fun x hx=>(by cases hx)⟩
theorem Sc.Ok.more {mr t:Int}{n m:Nat}{s:Sc}(h:Sc.Ok mr t n s)(hm:n≤m):Sc.Ok mr t m s :=
 ⟨h.f0,by have:=h.f1;omega,Nat.le_trans h.tl hm,h.cl,h.tw,h.cw,fun x hx=>⟨(h.ps x hx).1,by have:=(h.ps x hx).2;omega⟩,h.up,h.cm⟩
theorem Sc.Ok.step {mr t:Int}{n:Nat}{s s':Sc}(h:Sc.Ok mr t n s)(hm:0≤mr)(ht:0≤t)(hM:t+n≤18446744073709551615){p:Int}(hp:p=t+n){r:R.Rec}(hw:r.Wf)(e:scStep mr s p r=some s'):Sc.Ok mr t (n+1) s':=by
 subst hp
 have h0:=h.f0;have h1:=h.f1;have h2:=h.tl
 by_cases c1:r.kind=1∧Folls s.come r.block mr
 ·rw[scStep_img c1] at e
  cases e
  have:=h.more (Nat.le_succ n)
  refine⟨this.f0,this.f1,this.tl,?_,this.tw,h.cw.snoc ⟨⟨hw.b0,hw.b1⟩,hw.len,hw.byte⟩,this.ps,this.up,this.cm⟩
  have:=c1.2.1
  simp only[List.length_append,List.length_singleton];omega
 ·by_cases c2:r.kind=2∧r.images=s.come.length
  ·rw[scStep_com c2] at e
   cases e
   refine⟨by show t≤t+n+1;omega,by show t+n+1≤t+((n+1:Nat):Int);omega,by simp only[List.length_append,List.length_singleton];omega,hm,h.tw.snoc ⟨⟨by show 0≤t+n;omega,hM⟩,h.cw⟩,ImsWf.nil,fun x hx=>?_,?_,fun x hx=>?_⟩
   ·rcases List.mem_append.1 hx with hx | hx
    ·have:=h.ps x hx;omega
    ·rw[List.mem_singleton.1 hx];show t≤t+n∧t+n<t+((n+1:Nat):Int);omega
   ·refine List.pairwise_append.2 ⟨h.up,List.pairwise_singleton _ _,fun x hx y hy=>?_⟩
    rw[List.mem_singleton.1 hy];exact (h.ps x hx).2
   ·rcases List.mem_append.1 hx with hx | hx
    ·exact h.cm x hx
    ·rw[List.mem_singleton.1 hx];exact h.cl
  ·rw[scStep_no c1 c2] at e;cases e
theorem Sc.Ok.run {st:Int→R.Rec × Bool}{mr t:Int}(hm:0≤mr)(ht:0≤t)(hw:∀p,(st p).1.Wf):∀(k n:Nat) (s:Sc),Sc.Ok mr t n s→t+n+k≤18446744073709551615→Sc.Ok mr t (n+k) (scRun st mr k (t+n) s)
 | 0,n,s,h,_=>h
 | k+1,n,s,h,hM=>by
  by_cases c:(st (t+n)).2=true
  ·cases e:scStep mr s (t+n) (st (t+n)).1 with
   | none=>rw[scRun_stop e];exact h.more (by omega)
   | some s' =>
    rw[scRun_go c e]
    have:=Sc.Ok.run hm ht hw k (n+1) s' (h.step hm ht (by omega) rfl (hw _) e) (by omega)
    rw[show n+(k+1)=n+1+k by omega]
    rw[show t+n+1=t+((n+1:Nat):Int) by omega]
    exact this
  ·rw[scRun_off (by simpa using c)];exact h.more (by omega)
abbrev SameC (s c:Sup):Prop:=s.bl=c.bl∧s.lc=c.lc∧s.mr=c.mr∧s.hi=c.hi∧s.cl=c.cl
def supOf (c:Sup)(n:Int)(rd:Nat→List Int):Sup × Int :=
 if MayC c then (if n=1+c.bl+c.lc then (if (decS (rd 0)).2=0 then (if SameC (decS (rd 0)).1 c then ((decS (rd 0)).1,0) else (sup0,3)) else (sup0,(decS (rd 0)).2)) else (sup0,40)) else (sup0,3)
theorem supOf_no {c:Sup}(n:Int)(rd:Nat→List Int)(h:¬MayC c):supOf c n rd=(sup0,3):=if_neg h
theorem supOf_len {c:Sup}{n:Int}(rd:Nat→List Int)(h:MayC c)(hn:¬n=1+c.bl+c.lc):supOf c n rd=(sup0,40):=by unfold supOf;rw[if_pos h,if_neg hn]
theorem supOf_bad {c:Sup}{n:Int}{rd:Nat→List Int}(h:MayC c)(hn:n=1+c.bl+c.lc)(he:¬(decS (rd 0)).2=0):supOf c n rd=(sup0,(decS (rd 0)).2):=by unfold supOf;rw[if_pos h,if_pos hn,if_neg he]
theorem supOf_other {c:Sup}{n:Int}{rd:Nat→List Int}(h:MayC c)(hn:n=1+c.bl+c.lc)(he:(decS (rd 0)).2=0)(hs:¬SameC (decS (rd 0)).1 c):supOf c n rd=(sup0,3):=by unfold supOf;rw[if_pos h,if_pos hn,if_pos he,if_neg hs]
theorem supOf_ok {c:Sup}{n:Int}{rd:Nat→List Int}(h:MayC c)(hn:n=1+c.bl+c.lc)(he:(decS (rd 0)).2=0)(hs:SameC (decS (rd 0)).1 c):supOf c n rd=((decS (rd 0)).1,0):=by unfold supOf;rw[if_pos h,if_pos hn,if_pos he,if_pos hs]
theorem supOf_zero {c:Sup}{n:Int}{rd:Nat→List Int}(h:(supOf c n rd).2=0):MayC c∧n=1+c.bl+c.lc∧(decS (rd 0)).2=0∧SameC (decS (rd 0)).1 c∧supOf c n rd=((decS (rd 0)).1,0):=by
 by_cases h1:MayC c
 ·by_cases h2:n=1+c.bl+c.lc
  ·by_cases h3:(decS (rd 0)).2=0
   ·by_cases h4:SameC (decS (rd 0)).1 c
    ·exact⟨h1,h2,h3,h4,supOf_ok h1 h2 h3 h4⟩
    ·rw[supOf_other h1 h2 h3 h4] at h;cases h
   ·rw[supOf_bad h1 h2 h3] at h;exact absurd h h3
  ·rw[supOf_len rd h1 h2] at h;cases h
 ·rw[supOf_no n rd h1] at h;cases h
def scanS (c:Sup)(rd:Nat→List Int)(s:Sup):LogS :=
 ⟨s.tail,s.life,(scRun (stS c rd) c.mr c.lc.toNat s.tail ⟨[],s.tail,[]⟩).fin,(scRun (stS c rd) c.mr c.lc.toNat s.tail ⟨[],s.tail,[]⟩).txs⟩
def rdL (c:Sup)(n:Int)(rd:Nat→List Int):LogS × Int :=
 if (supOf c n rd).2=0 then (scanS c rd (supOf c n rd).1,0) else (log0,(supOf c n rd).2)
theorem rdL_ok {c:Sup}{n:Int}{rd:Nat→List Int}(h:(supOf c n rd).2=0):rdL c n rd=(scanS c rd (supOf c n rd).1,0):=if_pos h
theorem rdL_no {c:Sup}{n:Int}{rd:Nat→List Int}(h:¬(supOf c n rd).2=0):rdL c n rd=(log0,(supOf c n rd).2):=if_neg h
structure LogS.Wf (l:LogS):Prop where
 t:u64 l.tail
 lf:u64 l.life
 f:u64 l.fin
 tx:TxsWf l.txs
 n:l.txs.length≤64
 m:∀x∈l.txs,x.ims.length≤16
def withS:List Im→Im→List Im
 | [],x=>[x]
 | y :: l,x=>if y.b<x.b then y :: withS l x else if y.b=x.b then y :: l else x :: y :: l
def nwS:List Im→List Im
 | []=>[]
 | x :: xs=>withS (nwS xs) x
abbrev blks (l:List Im):List Int:=l.map (·.b)
theorem withS_lt {y x:Im}(l:List Im)(h:y.b<x.b):withS (y :: l) x=y :: withS l x:=if_pos h
theorem withS_eq {y x:Im}(l:List Im)(h:y.b=x.b):withS (y :: l) x=y :: l:=by
 show (if _ then _ else _)=_
 rw[if_neg (by omega),if_pos h]
theorem withS_gt {y x:Im}(l:List Im)(h:x.b<y.b):withS (y :: l) x=x :: y :: l:=by
 show (if _ then _ else _)=_
 rw[if_neg (by omega),if_neg (by omega)]
theorem withS_blks (l:List Im)(x:Im)(b:Int):b∈blks (withS l x)↔b∈blks l∨b=x.b:=by
 induction l with
 | nil=>simp[withS]
 | cons y l ih =>
  rcases Int.lt_trichotomy y.b x.b with h | h | h
  ·rw[withS_lt l h]
   show b∈y.b :: blks (withS l x)↔b∈y.b :: blks l∨_
   rw[List.mem_cons,List.mem_cons,ih,or_assoc]
  ·rw[withS_eq l h]
   show b∈y.b :: blks l↔b∈y.b :: blks l∨_
   rw[List.mem_cons]
   exact⟨.inl,fun k=>k.elim id fun e=>.inl (e.trans h.symm)⟩
  ·rw[withS_gt l h]
   show b∈x.b :: blks (y :: l)↔_
   rw[List.mem_cons]
   exact Or.comm
theorem withS_up (l:List Im)(x:Im)(h:(blks l).Pairwise (· < ·)):(blks (withS l x)).Pairwise (· < ·):=by
 induction l with
 | nil=>simp[withS]
 | cons y l ih =>
  have h':=List.pairwise_cons.1 (show (y.b :: blks l).Pairwise (· < ·) from h)
  rcases Int.lt_trichotomy y.b x.b with c | c | c
  ·rw[withS_lt l c]
   show (y.b :: blks (withS l x)).Pairwise (· < ·)
   refine List.pairwise_cons.2 ⟨fun b hb=>?_,ih h'.2⟩
   rcases (withS_blks l x b).1 hb with hb | hb
   ·exact h'.1 b hb
   ·rw[hb];exact c
  ·rw[withS_eq l c];exact h
  ·rw[withS_gt l c]
   show (x.b :: y.b :: blks l).Pairwise (· < ·)
   refine List.pairwise_cons.2 ⟨fun b hb=>?_,h⟩
   rcases List.mem_cons.1 hb with hb | hb
   ·rw[hb];exact c
   ·have:=h'.1 b hb;omega
theorem withS_mem (l:List Im)(x z:Im)(h:(blks l).Pairwise (· < ·))(hz:z∈withS l x):z∈l∨(z=x∧x.b ∉ blks l):=by
 induction l with
 | nil=>exact .inr ⟨by simpa [withS] using hz,by simp⟩
 | cons y l ih =>
  have h':=List.pairwise_cons.1 (show (y.b :: blks l).Pairwise (· < ·) from h)
  rcases Int.lt_trichotomy y.b x.b with c | c | c
  ·rw[withS_lt l c] at hz
   rcases List.mem_cons.1 hz with e | hz
   ·exact .inl (List.mem_cons.2 (.inl e))
   ·rcases ih h'.2 hz with e | ⟨e,n⟩
    ·exact .inl (List.mem_cons.2 (.inr e))
    ·refine .inr ⟨e,fun m=>?_⟩
     rcases List.mem_cons.1 (show x.b∈y.b :: blks l from m) with m | m
     ·omega
     ·exact n m
  ·rw[withS_eq l c] at hz;exact .inl hz
  ·rw[withS_gt l c] at hz
   rcases List.mem_cons.1 hz with e | hz
   ·refine .inr ⟨e,fun m=>?_⟩
    rcases List.mem_cons.1 (show x.b∈y.b :: blks l from m) with m | m
    ·omega
    ·have:=h'.1 _ m;omega
   ·exact .inl hz
theorem nwS_up:∀l,(blks (nwS l)).Pairwise (· < ·)
 | []=>List.Pairwise.nil
 | _ :: xs=>withS_up _ _ (nwS_up xs)
theorem nwS_blks:∀(l:List Im) (b:Int),b∈blks (nwS l)↔b∈blks l
 | [],b=>Iff.rfl
 | x :: xs,b=>by
  show b∈blks (withS (nwS xs) x)↔b∈x.b :: blks xs
  rw[withS_blks,nwS_blks xs b,List.mem_cons]
  exact Or.comm
def lastV:List Im→Int→List Int
 | [],_=>[]
 | x :: xs,b=>if b∈blks xs then lastV xs b else if x.b=b then x.v else []
theorem lastV_in {x:Im}{xs:List Im}{b:Int}(h:b∈blks xs):lastV (x :: xs) b=lastV xs b:=if_pos h
theorem lastV_new {x:Im}{xs:List Im}(h:x.b ∉ blks xs):lastV (x :: xs) x.b=x.v:=by
 show (if _ then _ else _)=_
 rw[if_neg h,if_pos rfl]
theorem lastV_snoc:∀(l:List Im) (x:Im) (b:Int),lastV (l++[x]) b=if x.b=b then x.v else lastV l b
 | [],x,b=>by
  show (if b∈blks [] then _ else _)=_
  rw[if_neg (by simp)];rfl
 | y :: l,x,b=>by
  have ih:=lastV_snoc l x b
  have hm:b∈blks (l++[x])↔b∈blks l∨b=x.b:=by simp[blks]
  show (if b∈blks (l++[x]) then lastV (l++[x]) b else _)=_
  by_cases c:x.b=b
  ·rw[if_pos (hm.2 (.inr c.symm)),ih,if_pos c,if_pos c]
  ·rw[if_neg c] at ih ⊢
   by_cases d:b∈blks l
   ·rw[if_pos (hm.2 (.inl d)),ih,lastV_in d]
   ·rw[if_neg (fun k=>(hm.1 k).elim d fun e=>c e.symm)]
    show _=(if b∈blks l then lastV l b else _)
    rw[if_neg d]
theorem nwS_last:∀(l:List Im) (z:Im),z∈nwS l→lastV l z.b=z.v
 | [],z,h=>by cases h
 | x :: xs,z,h=>by
  rcases withS_mem _ _ _ (nwS_up xs) h with h | ⟨h,n⟩
  ·rw[lastV_in ((nwS_blks xs z.b).1 (List.mem_map.2 ⟨z,h,rfl⟩))];exact nwS_last xs z h
  ·rw[h];exact lastV_new fun k=>n ((nwS_blks xs x.b).2 k)
theorem up_eq:∀(l m:List Int),l.Pairwise (· < ·)→m.Pairwise (· < ·)→(∀x,x∈l↔x∈m)→l=m
 | [],[],_,_,_=>rfl
 | [],y :: m,_,_,h=>by have:=(h y).2 (List.mem_cons.2 (.inl rfl));cases this
 | x :: l,[],_,_,h=>by have:=(h x).1 (List.mem_cons.2 (.inl rfl));cases this
 | x :: l,y :: m,hl,hm,h=>by
  have hl':=List.pairwise_cons.1 hl
  have hm':=List.pairwise_cons.1 hm
  have e:x=y:=by
   rcases List.mem_cons.1 ((h x).1 (List.mem_cons.2 (.inl rfl))) with e | e
   ·exact e
   ·rcases List.mem_cons.1 ((h y).2 (List.mem_cons.2 (.inl rfl))) with f | f
    ·exact f.symm
    ·have:=hm'.1 x e;have:=hl'.1 y f;omega
  subst e
  rw[up_eq l m hl'.2 hm'.2 fun z=>?_]
  constructor
  ·intro hz
   rcases List.mem_cons.1 ((h z).1 (List.mem_cons.2 (.inr hz))) with f | f
   ·have:=hl'.1 z hz;omega
   ·exact f
  ·intro hz
   rcases List.mem_cons.1 ((h z).2 (List.mem_cons.2 (.inr hz))) with f | f
   ·have:=hm'.1 z hz;omega
   ·exact f
theorem nw_eq (l:List Im)(K:List Int)(hK:K.Pairwise (· < ·))(h:∀b,b∈K↔b∈blks l):K.map (fun b=>(⟨b,lastV l b⟩:Im))=nwS l:=by
 rw[up_eq K (blks (nwS l)) hK (nwS_up l) fun b=>(h b).trans (nwS_blks l b).symm]
 rw[List.map_map]
 refine (List.map_congr_left (g:=id) fun z hz=>?_).trans (List.map_id _)
 show (⟨z.b,lastV l z.b⟩:Im)=z
 rw[nwS_last l z hz]
def flat (l:List TX):List Im:=l.flatMap (·.ims)
theorem flat_snoc (l:List TX)(t:TX):flat (l++[t])=flat l++t.ims:=by simp[flat]
theorem flat_wf {l:List TX}(h:TxsWf l):ImsWf (flat l):=fun x hx=>by
 obtain ⟨t,ht,hx⟩:=List.mem_flatMap.1 hx
 exact (h t ht).ims x hx
open Go.Proofs.Tryz Go.RowKit
theorem scells_ones (s:Sup):∀v∈scells s,v.oneCell'=true:=by
 intro v hv
 simp only[scells,List.mem_cons,List.not_mem_nil,or_false] at hv
 rcases hv with rfl | rfl | rfl | rfl | rfl | rfl | rfl <;> rfl
theorem scells_all (s:Sup):(scells s).toArray.all (·.oneCell')=true:=all_oneCell_toArray (scells_ones s)
theorem LAt.setO {t:TypeId}{w:World}{g k:Nat}{cs:List Value}(h:LAt t w g cs)(j:Nat)(v:Value)(hk:g≠k):LAt t (w.setCell ⟨k,j,none⟩ v) g cs:=(heap_setCell_other w ⟨k,j,none⟩ g _ hk).trans h
def plC:List (Nat × Nat):=[(0,1),(1,1),(2,1),(3,1),(4,1)]
theorem places23:placesOf prog 23=some plC:=by kernel_rfl
theorem fill_cfgs (s:Sup):Instr.fill (plC.toArray[·]?) (ccells sup0).toArray [(0,.int .i64 s.bl),(1,.int .i64 s.lc),(2,.int .i64 s.mr),(3,.int .i64 s.hi),(4,.int .i64 s.cl)]=some (ccells s).toArray:=by
 rw[fill_step 0 1 0 rfl _ [.int .i64 s.bl] _ rfl rfl (by rw[ccells_len];omega),fill_step 1 1 1 rfl _ [.int .i64 s.lc] _ rfl rfl (by simp[ccells]),fill_step 2 1 2 rfl _ [.int .i64 s.mr] _ rfl rfl (by simp[ccells]),fill_step 3 1 3 rfl _ [.int .i64 s.hi] _ rfl rfl (by simp[ccells]),fill_step 4 1 4 rfl _ [.int .i64 s.cl] _ rfl rfl (by simp[ccells])]
 rfl
theorem build23 (w:World)(parts:Array (Nat × Value))(r:Sup)(h:Instr.fill (plC.toArray[·]?) (ccells sup0).toArray parts.toList=some (ccells r).toArray):(Instr.build 23 parts).run prog w=.ok (.agg (ccells r).toArray) w :=
 run_build w 23 _ _ ((built_of 23 _ _ _ places23 zero23).trans h)
section
variable {P:Program} {ops:Array Oper} {rest:List Oper} {o:Oper} {a:Act} {w w':World} {Q:Exit→Act→World→Prop}
theorem wpList_neq_is (hgd:Region.wanted o (yielded ops a.tmps)=true)(ty:TypeId){x y:Operand}{t2:TypeId}(ho:o.op=.binOp .neq ty x y t2){xs ys:Array Value}{v:Value}(hx:a.eval x=.agg xs)(hy:a.eval y=.agg ys)(hg:P.eqGuardType P.depth ty=false)(hrun:(binOp .neq ty (.agg xs) (.agg ys)).run P w=.ok v w)
  (h:wpList P ops Q rest (a.put o.dst v) w):wpList P ops Q (o :: rest) a w :=
 wpList_val hgd (by unfold execOp;simp only[ho,hx,hy,Sem.run_bind,run_eqGuard_agg w .neq ty x y xs ys hg,hrun,Result.andThen_ok,Sem.run_pure]) h
end
theorem alloc29 (w:World):(Instr.alloc 121 true (.tuple #[])).run prog w=.ok (.pointer (some ⟨w.heap.size,0,none⟩)) (w.alloc (.cells (scells sup0).toArray 121)):=by
 simp only[Instr.alloc,Sem.run_bind,zv 121 _ zero29,Result.andThen_ok]
 simp[newVar,newRow,Value.cells]
theorem store_new29 (w:World)(s:Sup):(Instr.storeAt 121 (.pointer (some ⟨w.heap.size,0,none⟩)) (.agg (scells s).toArray)).run prog (w.alloc (.cells (scells sup0).toArray 121))=.ok () (w.alloc (.cells (scells s).toArray 121)):=by
 rw[(LAt.new 121 w (scells sup0)).store (ds:=scells s) size29 rfl (scells_all s),setRow_alloc]
def cfgB (r s:Sup):Bool:=r.bl == s.bl && (r.lc == s.lc && (r.mr == s.mr && (r.hi == s.hi && r.cl == s.cl)))
def fl (P : Program)(t : TypeId) : List (Bool × TypeId × Nat) := (P.fieldsOf t).toList.map fun f => (decide (f.name ≠ "_"), f.type, f.offset)
def eqParts (d:Nat)(xs ys:Array Value):List (Bool × TypeId × Nat)→Sem Bool
 | []=>pure true
 | f :: fs =>
  if f.1=true then do
   let a ← part f.2.1 xs f.2.2
   let b ← part f.2.1 ys f.2.2
   let r ← Op.equalIn d f.2.1 a b
   if (!r)=true then pure false else eqParts d xs ys fs
  else eqParts d xs ys fs
theorem eqParts_of (d : Nat)(xs ys : Array Value) : ∀ fs : List Field, Op.eqFields d xs ys fs = eqParts d xs ys (fs.map fun f => (decide (f.name ≠ "_"), f.type, f.offset))
 | []=>rfl
 | f :: fs=>by
  simp only[Op.eqFields,List.map_cons,eqParts,eqParts_of d xs ys fs,decide_eq_true_eq]
theorem eqParts_cons (w:World)(d:Nat)(xs ys:Array Value)(t:TypeId)(o:Nat)(fs:List (Bool × TypeId × Nat)){a b:Value}{c:Bool}(ha:(part t xs o).run prog w=.ok a w)(hb:(part t ys o).run prog w=.ok b w)(he:(Op.equalIn d t a b).run prog w=.ok c w) :
  (eqParts d xs ys ((true,t,o) :: fs)).run prog w=if c=true then (eqParts d xs ys fs).run prog w else .ok false w:=by
 rw[eqParts]
 simp only[if_true,Sem.run_bind,ha,hb,he,Result.andThen_ok]
 cases c
 ·simp
 ·simp
theorem flds23:prog.underlying 23=some (.struct (prog.fieldsOf 23)):=by kernel_rfl
theorem held23:prog.stoodInHeld 23=false:=by kernel_rfl
def flC:List (Bool × TypeId × Nat):=[(true,3,0),(true,3,1),(true,3,2),(true,3,3),(true,3,4)]
theorem fl23:fl prog 23=flC:=by kernel_rfl
theorem part3 (w:World)(cs:List Value)(o:Nat)(v:Int)(h:cs[o]?=some (.int .i64 v)):(part 3 cs.toArray o).run prog w=.ok (.int .i64 v) w:=by
 simp[part,isAgg,run_underlying underlying3,h]
theorem equalC (w:World)(d:Nat)(r s:Sup):(eqParts (d+1) (ccells r).toArray (ccells s).toArray flC).run prog w=.ok (cfgB r s) w:=by
 unfold flC cfgB
 rw[eqParts_cons w _ _ _ 3 0 _ (part3 w (ccells r) 0 r.bl rfl) (part3 w (ccells s) 0 s.bl rfl) (run_equalIn_int w d 3 .i64 .i64 _ _ underlying3),
  eqParts_cons w _ _ _ 3 1 _ (part3 w (ccells r) 1 r.lc rfl) (part3 w (ccells s) 1 s.lc rfl) (run_equalIn_int w d 3 .i64 .i64 _ _ underlying3),
  eqParts_cons w _ _ _ 3 2 _ (part3 w (ccells r) 2 r.mr rfl) (part3 w (ccells s) 2 s.mr rfl) (run_equalIn_int w d 3 .i64 .i64 _ _ underlying3),
  eqParts_cons w _ _ _ 3 3 _ (part3 w (ccells r) 3 r.hi rfl) (part3 w (ccells s) 3 s.hi rfl) (run_equalIn_int w d 3 .i64 .i64 _ _ underlying3),
  eqParts_cons w _ _ _ 3 4 _ (part3 w (ccells r) 4 r.cl rfl) (part3 w (ccells s) 4 s.cl rfl) (run_equalIn_int w d 3 .i64 .i64 _ _ underlying3)]
 have e0:(eqParts (d+1) (ccells r).toArray (ccells s).toArray []).run prog w=.ok true w:=by rw[eqParts];exact Sem.run_pure ..
 rw[e0]
 cases (r.bl == s.bl) <;> cases (r.lc == s.lc) <;> cases (r.mr == s.mr) <;> cases (r.hi == s.hi) <;> cases (r.cl == s.cl) <;> simp
theorem equal23 (w:World)(d:Nat)(r s:Sup):(Op.equalIn (d+2) 23 (.agg (ccells r).toArray) (.agg (ccells s).toArray)).run prog w=.ok (cfgB r s) w:=by
 rw [run_equalIn_struct w (d + 1) 23 _ _ flds23 held23, eqParts_of, show (prog.fieldsOf 23).toList.map (fun f => (decide (f.name ≠ "_"), f.type, f.offset)) = flC from fl23, equalC w d r s]
theorem results_sup {fn:Func}{p u:Tmp}{ty:TypeId}(h:fn.results=#[.cell p ty,.tmp u])(tmps:Array Value)(w:World)(g:Nat)(t:TypeId)(s:Sup)(d:TypeDesc)
  (hp:tmps.getD p undef=.pointer (some ⟨g,0,none⟩)) (hg:SAt t w g s) (hu:prog.underlying ty=some d) (hd:d.isRow=true) (hi:(prog.info? ty).map (·.size)=some 7) :
  (results fn tmps).run prog w=.ok (.tuple #[.agg (scells s).toArray,tmps.getD u undef]) w:=by
 rw[results_cell_tmp h,hp]
 simp only[asAddr,Sem.run_pure,Result.andThen_ok,run_loadVar_mid w g 0 ty _ d (LAt.range hg) hu hd (by rw[hi,scells_len])]
end Go.Proofs.YtdadpepfpiimgaaGreatDoor
namespace Go.Proofs.YtdadpepfpiimgaaGreatDoor.R
open Go.Proofs.Tryz
open Go.RowKit
theorem size37:(prog.info? 245).map (·.size)=some 36:=by kernel_rfl
theorem RAt.load37 {t:TypeId}{w:World}{g:Nat}{r:Rec}(h:RAt t w g r)(hv:r.val.length=32):(Instr.loadAt 245 (.pointer (some ⟨g,0,none⟩))).run prog w=.ok (.agg (rcells r).toArray) w :=
 run_loadAt_mid w g 0 245 (rcells r) _ h.range underlying245 rfl (by rw[size37,rcells_len r hv])
theorem places37:placesOf prog 245=some pl:=by kernel_rfl
theorem zero37:(prog.info? 245).bind (·.zero)=some (.agg (rcells rec0).toArray):=by kernel_rfl
theorem build37 (w:World)(parts:Array (Nat × Value))(r:Rec)(h:Instr.fill (pl.toArray[·]?) (rcells rec0).toArray parts.toList=some (rcells r).toArray):(Instr.build 245 parts).run prog w=.ok (.agg (rcells r).toArray) w :=
 run_build w 245 _ _ ((built_of 245 _ _ _ places37 zero37).trans h)
theorem alloc37 (w:World):(Instr.alloc 245 true (.tuple #[])).run prog w=.ok (.pointer (some ⟨w.heap.size,0,none⟩)) (w.alloc (.cells (rcells rec0).toArray 245)):=by
 simp only[Instr.alloc,Sem.run_bind,zv 245 _ zero37,Result.andThen_ok]
 simp[newVar,newRow,Value.cells]
end Go.Proofs.YtdadpepfpiimgaaGreatDoor.R
namespace Go.Proofs.YtdadpepfpiimgaaGreatDoor
open Go.Proofs.Tryz
open Go.RowKit
theorem equalV (w:World)(d:Nat)(xs ys:List Int)(hx:xs.length=32)(hy:ys.length=32) :
  (Op.equalIn (d+2) 39 (.agg (U8 xs).toArray) (.agg (U8 ys).toArray)).run prog w=.ok (decide (xs=ys)) w:=by
 rw[← all_range_eq xs ys (hx.trans hy.symm),hx,List.range_eq_range',Op.equalIn]
 simp only[Sem.run_bind,run_underlying underlying39,Result.andThen_ok,sizeOf5,Std.Legacy.Range.forIn_eq_forIn_range',Std.Legacy.Range.size,Nat.sub_zero,Nat.add_sub_cancel,Nat.div_one]
 have hl:∀i∈List.range' 0 32 1,i<32:=fun i hi=>by simpa using (List.mem_range'_1.1 hi).2
 generalize List.range' 0 32 1=l at hl ⊢
 induction l with
 | nil=>simp
 | cons i l ih =>
  have hi:i<32:=hl i (by simp)
  have px:(part 5 (U8 xs).toArray (i*1)).run prog w=.ok (.int .u8 (xs.getD i 0)) w:=by
   simp[part,isAgg,run_underlying underlying5,List.getD,List.getElem?_eq_getElem (show i<xs.length by omega)]
  have py:(part 5 (U8 ys).toArray (i*1)).run prog w=.ok (.int .u8 (ys.getD i 0)) w:=by
   simp[part,isAgg,run_underlying underlying5,List.getD,List.getElem?_eq_getElem (show i<ys.length by omega)]
  have pe:(Op.equalIn (d+1) 5 (.int .u8 (xs.getD i 0)) (.int .u8 (ys.getD i 0))).run prog w=.ok (xs.getD i 0 == ys.getD i 0) w:=run_equalIn_int w d 5 .u8 .u8 _ _ underlying5
  simp only[List.forIn_cons,Sem.run_bind,px,py,pe,Result.andThen_ok,List.all_cons]
  cases hb:(xs.getD i 0 == ys.getD i 0)
  ·simp
  ·simp only[Bool.not_true,Bool.false_eq_true,if_false,Sem.run_pure,Result.andThen_ok,Bool.true_and]
   exact ih fun j hj=>hl j (by simp[hj])
theorem sizeI:(prog.info? 155).map (·.size)=some 33:=by kernel_rfl
def icells (i:Im):List Value:=.int .i64 i.b :: U8 i.v
def im0:Im:=⟨0,zs 32⟩
theorem icells_len {i:Im}(h:i.v.length=32):(icells i).length=33:=by simp[icells,h]
theorem icells_ones (i:Im):∀v∈icells i,v.oneCell'=true:=fun v hv=>by
 rcases List.mem_cons.1 hv with rfl | hv
 ·rfl
 ·exact ones_u8 _ v hv
theorem icells_all (i:Im):(icells i).toArray.all (·.oneCell')=true:=all_oneCell_toArray (icells_ones i)
def IC (l:List Im):List Value:=(l.map icells).flatten
theorem IC_snoc (l:List Im)(i:Im):IC (l++[i])=IC l++icells i:=by simp[IC]
theorem IC_append (l m:List Im):IC (l++m)=IC l++IC m:=by simp[IC]
theorem IC_len {l:List Im}(h:ImsWf l):(IC l).length=l.length*33:=by
 have:=flat_length (m:=33) (l.map icells) (fun x hx=>by
  obtain ⟨i,hi,rfl⟩:=List.mem_map.1 hx
  exact icells_len (h i hi).len)
 rw[List.length_map] at this
 exact this
theorem IC_at {l:List Im}(h:ImsWf l){k:Nat}{i:Im}(hk:l[k]?=some i)(j:Nat)(hj:j<33):(IC l)[33*k+j]?=(icells i)[j]?:=by
 obtain ⟨hk',e⟩:=List.getElem?_eq_some_iff.1 hk
 have:=flat_at (m:=33) (l.map icells) (fun x hx=>by
  obtain ⟨i,hi,rfl⟩:=List.mem_map.1 hx
  exact icells_len (h i hi).len) k (by simpa using hk') j hj
 rw[IC,this]
 simp[e]
theorem IC_ones (l:List Im):∀v∈IC l,v.oneCell'=true:=fun v hv=>by
 obtain ⟨c,hc,hv⟩:=List.mem_flatten.1 hv
 obtain ⟨i,_,rfl⟩:=List.mem_map.1 hc
 exact icells_ones i v hv
def plI:List (Nat × Nat):=[(0,1),(1,32)]
theorem placesI:placesOf prog 155=some plI:=by kernel_rfl
theorem zeroI:(prog.info? 155).bind (·.zero)=some (.agg (icells im0).toArray):=by kernel_rfl
theorem infoI:(prog.info? 155).map (fun i=>(i.zero,i.size,i.bytes))=some (some (.agg (icells im0).toArray),33,40):=by kernel_rfl
theorem fill_ib (i:Im)(h:i.v.length=32)(b:Int)(rest:List (Nat × Value)):Instr.fill (plI.toArray[·]?) (icells i).toArray ((0,.int .i64 b) :: rest)=Instr.fill (plI.toArray[·]?) (icells ⟨b,i.v⟩).toArray rest :=
 fill_step 0 1 0 rfl _ [.int .i64 b] _ rfl rfl (by rw[icells_len h];omega) rest
theorem fill_iv (i:Im)(h:i.v.length=32)(v:List Int)(hv:v.length=32)(rest:List (Nat × Value)):Instr.fill (plI.toArray[·]?) (icells i).toArray ((1,.agg (U8 v).toArray) :: rest)=Instr.fill (plI.toArray[·]?) (icells ⟨i.b,v⟩).toArray rest:=by
 rw[fill_step 1 32 1 rfl _ (U8 v) _ rfl (by rw[U8_length,hv]) (by rw[icells_len h];omega) rest]
 congr 2
 rw[U8_length,hv]
 simp only[icells,List.take_succ_cons,List.take_zero,List.cons_append,List.nil_append,List.drop_succ_cons]
 rw[List.drop_of_length_le (by rw[U8_length,h];omega),List.append_nil]
theorem buildI (w:World)(b:Int)(v:List Int)(hv:v.length=32):(Instr.build 155 #[(0,.int .i64 b),(1,.agg (U8 v).toArray)]).run prog w=.ok (.agg (icells ⟨b,v⟩).toArray) w:=by
 refine run_build w 155 _ _ ((built_of 155 _ _ _ placesI zeroI).trans ?_)
 show Instr.fill (plI.toArray[·]?) (icells im0).toArray [(0,.int .i64 b),(1,.agg (U8 v).toArray)]=_
 rw[fill_ib im0 (zs_len 32),fill_iv ⟨b,im0.v⟩ (zs_len 32) v hv];rfl
theorem allocI (w:World):(Instr.alloc 155 true (.tuple #[])).run prog w=.ok (.pointer (some ⟨w.heap.size,0,none⟩)) (w.alloc (.cells (icells im0).toArray 155)):=by
 simp only[Instr.alloc,Sem.run_bind,zv 155 _ zeroI,Result.andThen_ok]
 simp[newVar,newRow,Value.cells]
theorem store_newI (w:World)(i:Im)(hi:i.v.length=32):(Instr.storeAt 155 (.pointer (some ⟨w.heap.size,0,none⟩)) (.agg (icells i).toArray)).run prog (w.alloc (.cells (icells im0).toArray 155))=.ok () (w.alloc (.cells (icells i).toArray 155)):=by
 rw[(LAt.new 155 w (icells im0)).store (ds:=icells i) (by rw[sizeI,icells_len hi]) (by rw[icells_len hi,icells_len (zs_len 32)]) (icells_all i),setRow_alloc]
theorem LAt.vrangeI {t:TypeId}{w:World}{g:Nat}{i:Im}(h:LAt t w g (icells i)):w.rangeAt g 1 (U8 i.v):=fun j v hv=>by
 rw[LAt.cell h (1+j),Nat.add_comm];exact hv
theorem LAt.loadIv {t:TypeId}{w:World}{g:Nat}{i:Im}(h:LAt t w g (icells i))(hi:i.v.length=32):(Instr.loadAt 39 (.pointer (some ⟨g,1,none⟩))).run prog w=.ok (.agg (U8 i.v).toArray) w :=
 run_loadAt_mid w g 1 39 (U8 i.v) _ (LAt.vrangeI h) underlying39 rfl (by rw[sizeV,U8_length,hi])
theorem build_im (w:World)(i:Im)(hi':i.v.length=32):(Instr.buildSlice 92 1 #[(0,.agg (icells i).toArray)]).run prog w=.ok (.slice (some ⟨w.heap.size,0,none⟩) 1 1) (w.alloc (.cells (icells i).toArray 155)):=by
 obtain ⟨i0,hi,hz0,hz1,hz2⟩:=info_parts infoI
 refine run_buildSlice w 92 155 1 _ _ i0 _ underlying92 hi hz0 (by rw[hz1];decide) (by rw[hz1];decide) ?_
 rw[hz1]
 have hl:(icells i).length=33:=icells_len hi'
 have hA:∀A:Array Value,A.size=33→Instr.fill (fun i=>some (i*33,33)) A [(0,.agg (icells i).toArray)]=some (icells i).toArray:=by
  intro A hA
  have a0:=part_fill 0 (icells i) A.toList (by simp;omega)
  simp only[Instr.fill,Value.cells,List.size_toArray,Nat.zero_mul]
  rw[if_neg (by simp[hl,hA])]
  have a0':(icells i).toArray.zipIdx.foldl (fun cs x=>match x with | (c,j)=>cs.setIfInBounds (0+j) c) A=((A.toList.take 0++icells i++A.toList.drop (0+(icells i).length))).toArray:=a0
  rw[a0',List.drop_eq_nil_of_le (by simp[hl,hA])]
  simp
 exact hA _ (by simp)
structure MIn (w:World) (p:Option Addr) (n:Nat) (l:List Im):Prop where
 len:l.length=n
 wf:ImsWf l
 cells:0<n→∃b o,p=some ⟨b,o,none⟩∧w.rangeAt b o (IC l)
theorem MIn.nil (w:World)(p:Option Addr):MIn w p 0 []:=⟨rfl,ImsWf.nil,fun h=>absurd h (Nat.lt_irrefl 0)⟩
theorem range_lt {w:World}{b o:Nat}{cs:List Value}(h:w.rangeAt b o cs)(h0:0<cs.length):b<w.heap.size:=by
 have:=h 0 cs[0] (by rw[List.getElem?_eq_getElem h0])
 exact World.block_lt_of_cell? w _ this
theorem range_block {w w':World}{b o:Nat}{cs:List Value}(h:w.rangeAt b o cs)(hb:w'.heap[b]?=w.heap[b]?):w'.rangeAt b o cs:=fun j v hv=>(World.cell?_of_block (a:=⟨b,o+j,none⟩) hb).trans (h j v hv)
theorem MIn.later {w w':World}{p:Option Addr}{n:Nat}{l:List Im}(h:MIn w p n l)(hb:Below w.heap.size w w'):MIn w' p n l:=by
 refine⟨h.len,h.wf,fun h0=>?_⟩
 obtain ⟨b,o,e,hr⟩:=h.cells h0
 exact⟨b,o,e,range_block hr (hb.block b (range_lt hr (by rw[IC_len h.wf,h.len];omega)))⟩
theorem MIn.at {w:World}{b o n:Nat}{l:List Im}(h:MIn w (some ⟨b,o,none⟩) n l){k:Nat}{i:Im}(hk:l[k]?=some i):w.rangeAt b (o+k*33) (icells i):=fun j v hv=>by
 have hk':=(List.getElem?_eq_some_iff.1 hk).1
 obtain ⟨b',o',e,hr⟩:=h.cells (by rw[← h.len];omega)
 cases e
 have hj:j<33:=by have:=(List.getElem?_eq_some_iff.1 hv).1;rw[icells_len (h.wf i (List.mem_of_getElem? hk)).len] at this;exact this
 have:=hr (33*k+j) v (by rw[IC_at h.wf hk j hj];exact hv)
 rw[show o+k*33+j=o+(33*k+j) by omega];exact this
theorem MIn.c0 {w:World}{b o n:Nat}{l:List Im}(h:MIn w (some ⟨b,o,none⟩) n l){k:Nat}{i:Im}(hk:l[k]?=some i):w.cell? ⟨b,o+k*33,none⟩=some (.int .i64 i.b):=h.at hk 0 _ rfl
theorem MIn.load {w:World}{b o n:Nat}{l:List Im}(h:MIn w (some ⟨b,o,none⟩) n l){k:Nat}{i:Im}(hk:l[k]?=some i):(Instr.loadAt 155 (.pointer (some ⟨b,o+k*33,none⟩))).run prog w=.ok (.agg (icells i).toArray) w :=
 run_loadAt_mid w b (o+k*33) 155 (icells i) _ (h.at hk) underlying155 rfl (by rw[sizeI,icells_len (h.wf i (List.mem_of_getElem? hk)).len])
theorem MIn.take {w:World}{p:Option Addr}{n:Nat}{l:List Im}(h:MIn w p n l)(k:Nat)(hk:k≤n):MIn w p k (l.take k):=by
 refine⟨by rw[List.length_take,h.len];omega,fun x hx=>h.wf x (List.mem_of_mem_take hx),fun h0=>?_⟩
 obtain ⟨b,o,e,hr⟩:=h.cells (by omega)
 refine⟨b,o,e,fun j v hv=>hr j v ?_⟩
 have e2:IC l=IC (l.take k)++IC (l.drop k):=by rw[← IC_append,List.take_append_drop]
 rw[e2,List.getElem?_append_left (List.getElem?_eq_some_iff.1 hv).1];exact hv
abbrev IOwn (w:World)(B:Nat)(v:Value)(l:List Im):Prop:=w.ownsRow B 155 33 v l.length (IC l)
theorem IOwn.in {w:World}{B:Nat}{v:Value}{l:List Im}(h:IOwn w B v l)(hw:ImsWf l):∃p c,v=.slice p l.length c∧MIn w p l.length l∧l.length≤c∧c≤maxLen:=by
 rcases h.2 with ⟨e,e2⟩ | ⟨g,cap,cur,e,_,hg,h1,h2,h3,h4⟩
 ·refine⟨none,0,by rw[e,e2],?_,by omega,by decide⟩
  exact⟨rfl,hw,fun h0=>by omega⟩
 ·refine⟨_,cap,e,⟨rfl,hw,fun _=>⟨g,0,rfl,fun j v hv=>?_⟩⟩,h1,h2⟩
  rw[Nat.zero_add,cell_of_row w g j cur 155 (0,0) hg]
  have hj:=(List.getElem?_eq_some_iff.1 hv).1
  rw[← h4,List.getElem?_take] at hv
  split at hv
  ·simpa using hv
  ·cases hv
theorem own_ne {w:World}{B C s1 s2 n m:Nat}{e1 e2:TypeId}{u v:Value}{xs ys:List Value}(h:w.ownsRow B e1 s1 u n xs)(k:w.ownsRow C e2 s2 v m ys)(hne:e1≠e2):u.ownBlock=none∨u.ownBlock≠v.ownBlock:=by
 rcases h.2 with ⟨rfl,_⟩ | ⟨g,cap,cur,rfl,_,hg,_⟩
 ·exact .inl rfl
 ·refine .inr fun e=>?_
  rcases k.2 with ⟨rfl,_⟩ | ⟨g',cap',cur',rfl,_,hg',_⟩
  ·cases e
  ·simp only[Value.ownBlock,Option.some.injEq] at e
   subst e
   rw[hg] at hg'
   cases hg'
   exact hne rfl
theorem own_at {w:World}{B C s n m:Nat}{e:TypeId}{u:Value}{xs:List Value}(h:w.ownsRow B e s u n xs)(hC:∀k,u.ownBlock=some k→C≤k)(hm:n=m):w.ownsRow C e s u m xs:=by
 subst hm
 rcases h.2 with ⟨h1,h2⟩ | ⟨g,cap,cur,h1,_,h3⟩
 ·exact⟨h.1,.inl ⟨h1,h2⟩⟩
 ·exact⟨h.1,.inr ⟨g,cap,cur,h1,hC g (by rw[h1];rfl),h3⟩⟩
def TC (l:List (Int × Value)):List Value:=(l.map fun x=>[Value.int .u64 x.1,x.2]).flatten
theorem TC_snoc (l:List (Int × Value))(x:Int × Value):TC (l++[x])=TC l++[.int .u64 x.1,x.2]:=by simp[TC]
theorem TC_at (l:List (Int × Value)){k:Nat}{x:Int × Value}(hk:l[k]?=some x)(j:Nat)(hj:j<2):(TC l)[2*k+j]?=[Value.int .u64 x.1,x.2][j]?:=by
 obtain ⟨hk',e⟩:=List.getElem?_eq_some_iff.1 hk
 have:=flat_at (m:=2) (l.map fun x=>[Value.int .u64 x.1,x.2]) (fun y hy=>by obtain ⟨x,_,rfl⟩:=List.mem_map.1 hy;rfl) k (by simpa using hk') j hj
 rw[TC,this];simp[e]
structure XIn (w:World) (p:Option Addr) (n:Nat) (l:List TX):Prop where
 len:l.length=n
 cells:0<n→∃b o,p=some ⟨b,o,none⟩∧∀(k:Nat) (t:TX),l[k]?=some t→∃q c,w.cell? ⟨b,o+k*2,none⟩=some (.int .u64 t.p)∧w.cell? ⟨b,o+k*2+1,none⟩=some (.slice q t.ims.length c)∧MIn w q t.ims.length t.ims∧t.ims.length≤c∧c≤maxLen
theorem XIn.later {w w':World}{p:Option Addr}{n:Nat}{l:List TX}(h:XIn w p n l)(hb:Below w.heap.size w w'):XIn w' p n l:=by
 refine⟨h.len,fun h0=>?_⟩
 obtain ⟨b,o,e,hr⟩:=h.cells h0
 refine⟨b,o,e,fun k t hk=>?_⟩
 obtain ⟨q,c,h1,h2,h3,h4⟩:=hr k t hk
 have hl:=World.block_lt_of_cell? w _ h1
 exact⟨q,c,(World.cell?_of_block (hb.block b hl)).trans h1,(World.cell?_of_block (hb.block b hl)).trans h2,h3.later hb,h4⟩
structure XOwn (e:TypeId) (w:World) (B:Nat) (v:Value) (l:List TX) (vs:List Value):Prop where
 len:vs.length=l.length
 row:w.ownsRow B e 2 v l.length (TC ((l.map (·.p)).zip vs))
 each:∀(k:Nat) (t:TX) (u:Value),l[k]?=some t→vs[k]?=some u→IOwn w B u t.ims
 wf:TxsWf l
theorem XOwn.nil (e:TypeId)(w:World)(B:Nat):XOwn e w B (.slice none 0 0) [] []:=⟨rfl,World.ownsRow_nil _ _ _ _,fun k t u h=>by simp at h,TxsWf.nil⟩
theorem XOwn.in {e:TypeId}{w:World}{B:Nat}{v:Value}{l:List TX}{vs:List Value}(h:XOwn e w B v l vs):∃p c,v=.slice p l.length c∧XIn w p l.length l∧l.length≤c∧c≤maxLen:=by
 rcases h.row.2 with ⟨ev,e2⟩ | ⟨g,cap,cur,ev,_,hg,h1,h2,h3,h4⟩
 ·refine⟨none,0,by rw[ev,e2],?_,by omega,by decide⟩
  exact⟨rfl,fun h0=>by omega⟩
 ·refine⟨_,cap,ev,⟨rfl,fun _=>⟨g,0,rfl,fun k t hk=>?_⟩⟩,h1,h2⟩
  have hkl:=(List.getElem?_eq_some_iff.1 hk).1
  have hkv:k<vs.length:=by rw[h.len];exact hkl
  have hz:((l.map (·.p)).zip vs)[k]?=some (t.p,vs[k]):=by
   rw[List.getElem?_zip_eq_some]
   exact⟨by rw[List.getElem?_map,hk];rfl,by rw[List.getElem?_eq_getElem hkv]⟩
  have hc:∀j,j<2→w.cell? ⟨g,0+k*2+j,none⟩=[Value.int .u64 t.p,vs[k]][j]?:=fun j hj=>by
   have a:=TC_at _ hz j hj
   rw[← h4,List.getElem?_take,if_pos (by omega)] at a
   rw[cell_of_row w g _ cur e (0,0) hg,show 0+k*2+j=2*k+j by omega,← a]
   simp
  obtain ⟨q,c,e1,m1,m2,m3⟩:=IOwn.in (h.each k t vs[k] hk (by rw[List.getElem?_eq_getElem hkv])) (h.wf t (List.mem_of_getElem? hk)).ims
  refine⟨q,c,hc 0 (by omega),?_,m1,m2,m3⟩
  rw[hc 1 (by omega)]
  show some vs[k]=_
  rw[e1]
theorem XOwn.kept {e:TypeId}{w w':World}{B:Nat}{v:Value}{l:List TX}{vs:List Value}{row:Option Nat}(h:XOwn e w B v l vs)(hg:w.grownBy w' row)(hv:v.ownBlock=none∨v.ownBlock≠row)(hu:∀u∈vs,u.ownBlock=none∨u.ownBlock≠row):XOwn e w' B v l vs :=
 ⟨h.len,h.row.kept hg hv,fun k t u hk hku=>(h.each k t u hk hku).kept hg (hu u (List.mem_of_getElem? hku)),h.wf⟩
theorem grown_of_below {V V':World}(h:Below V.heap.size V V'):V.grownBy V' none:=⟨h.os,h.tape,h.output,h.size,fun k hk _=>h.block k hk⟩
theorem XOwn.later {e:TypeId}{w w':World}{B:Nat}{v:Value}{l:List TX}{vs:List Value}(h:XOwn e w B v l vs)(hb:Below w.heap.size w w'):XOwn e w' B v l vs :=
 h.kept (grown_of_below hb) (by cases hh:v.ownBlock <;> simp) (fun u _=>by cases hh:u.ownBlock <;> simp)
theorem IOwn.later {w w':World}{B:Nat}{v:Value}{l:List Im}(h:IOwn w B v l)(hb:Below w.heap.size w w'):IOwn w' B v l:=h.kept (grown_of_below hb) (by cases hh:v.ownBlock <;> simp)
def Rise (vs:List Value)(C:Nat):Prop:=vs.Pairwise (fun u v=>∀g h,u.ownBlock=some g→v.ownBlock=some h→g<h)∧∀u∈vs,∀g,u.ownBlock=some g→g<C
theorem Rise.nil (C:Nat):Rise [] C:=⟨List.Pairwise.nil,fun u h=>by cases h⟩
theorem Rise.mono {vs:List Value}{C D:Nat}(h:Rise vs C)(hd:C≤D):Rise vs D:=⟨h.1,fun u hu g hg=>Nat.lt_of_lt_of_le (h.2 u hu g hg) hd⟩
theorem Rise.snoc {vs:List Value}{C D:Nat}(h:Rise vs C){v:Value}(h1:∀g,v.ownBlock=some g→C≤g)(h2:∀g,v.ownBlock=some g→g<D)(hd:C≤D):Rise (vs++[v]) D:=by
 refine⟨List.pairwise_append.2 ⟨h.1,List.pairwise_singleton _ _,fun u hu x hx g k hg hk=>?_⟩,fun u hu g hg=>?_⟩
 ·rw[List.mem_singleton.1 hx] at hk
  exact Nat.lt_of_lt_of_le (h.2 u hu g hg) (h1 k hk)
 ·rcases List.mem_append.1 hu with hu | hu
  ·exact Nat.lt_of_lt_of_le (h.2 u hu g hg) hd
  ·rw[List.mem_singleton.1 hu] at hg;exact h2 g hg
end Go.Proofs.YtdadpepfpiimgaaGreatDoor
namespace Go.Proofs.YtdadpepfpiimgaaGreatDoor.G
open Go.Proofs.Tryz
open Go.RowKit
theorem span_any (t e:Int)(w:World) :
  Calls prog 106 #[.int .u64 t,.int .u64 e] w fun e' w'=>e'=.returned (.func (.func 127) #[] #[.pointer (some ⟨w.heap.size,0,none⟩),.pointer (some ⟨w.heap.size+1,0,none⟩)])∧(w.alloc (.cells #[.int .u64 t] 37)).alloc (.cells #[.int .u64 e] 37)=w':=by
 have hmf:∀(fn:Fn) (first cap:Array Value) (w:World),(Instr.makeFunc fn first cap).run prog w=.ok (.func fn first cap) w:=fun _ _ _ _=>rfl
 go_enter func106,ntmps106
 go_wp2
 go_ret
 exact⟨rfl,rfl⟩
open Go.Shelf
attribute [local go_sem] Oper.semAt_some
abbrev nums (l:List U64):List Int:=l.map (·.1)
structure Kept2 (Bt Be:Nat) (W W':World):Prop where
 t:W'.heap[Bt]?=W.heap[Bt]?
 e:W'.heap[Be]?=W.heap[Be]?
theorem Kept2.trans {Bt Be:Nat}{A B C:World}(h:Kept2 Bt Be A B)(k:Kept2 Bt Be B C):Kept2 Bt Be A C:=⟨k.t.trans h.t,k.e.trans h.e⟩
theorem Kept2.keeps {Bt Be:Nat}{w:World}(ht:Bt<w.heap.size)(he:Be<w.heap.size)(W:World)(l:Nat)(o o':Obj)(hl:w.heap.size≤l)(_:W.heap[l]?=some o)(_:o.isCells=false)(_:o.isWalk=false):Kept2 Bt Be W (W.putObj l o') :=
 ⟨World.putObj_heap_other (by omega),World.putObj_heap_other (by omega)⟩
theorem span1_in (F:Fence)(n:Nat)(h23:F.fn 127)(hro:F.round=none)(hn:1≤n)(l Bt Be:Nat)(t e:Int)(ht0:0≤t)(ht1:t<18446744073709551616)(he0:0≤e)(he1:e<18446744073709551616)(J Jx:List U64→World→Prop)
  (hY:∀pre x W,J pre W→pre.length<spanN t e→YieldAt F (n-1) prog l #[.int .u64 x.1] W fun e W' =>
   (e=.returned (.bool true)∧J (pre++[x]) W'∧Kept2 Bt Be W W')∨(e=.returned (.bool false)∧Jx (pre++[x]) W'))
  (W:World) (hct:W.cell? ⟨Bt,0,none⟩=some (.int .u64 t)) (hce:W.cell? ⟨Be,0,none⟩=some (.int .u64 e)) (h0:J [] W) :
  CallsIn F n prog 127 #[.func (.yield l) #[] #[],.pointer (some ⟨Bt,0,none⟩),.pointer (some ⟨Be,0,none⟩)] W fun e' W'=>(∃v,e'=.returned v) ∧
   ((∃ys,nums ys=spanI t e∧J ys W')∨(∃pre,nums pre <+: spanI t e∧Jx pre W')):=by
 refine callsIn_of_wp func127 rfl h23 ?_ hro
 simp only[ntmps127,List.size_toArray,List.length_cons,List.length_nil,Nat.reduceAdd,Nat.reduceSub,Array.replicate_succ,Array.replicate_zero,List.push_toArray,List.append_toArray,List.nil_append,List.cons_append]
 gi_wp2
 gi_loopw [4] (fun p wr=>∃(pre:List U64) (k:Nat),p=.int .u64 (t+k)∧k≤spanN t e∧Hid (nums pre=upto t k)∧wr.cell? ⟨Bt,0,none⟩=some (.int .u64 t)∧wr.cell? ⟨Be,0,none⟩=some (.int .u64 e)∧J pre wr)
  (fun p _=>spanN t e-(intOf p-t).toNat)
 case atStart =>
  exact⟨[],0,by simp,Nat.zero_le _,rfl,hct,hce,h0⟩
 case round =>
  obtain ⟨pre,k,rfl,hk,HP,hct,hce,hJs⟩:=hrel
  have hN:spanN t e=min 64 (e-t).toNat:=rfl
  by_cases hlt:k<spanN t e
  ·have w0:IntKind.u64.wrap (t+(k:Int)-t)=k:=by rw[show t+(k:Int)-t=k by omega];exact wrap_u (by omega) (by omega)
   have w1:IntKind.u64.wrap (t+(k:Int)+1)=t+(k:Int)+1:=wrap_u (by omega) (by omega)
   have c1:t+(k:Int)<e:=by omega
   have c2:(k:Int)<64:=by omega
   have hpl:pre.length=k:=by have:=congrArg List.length HP.out;simpa [upto_length] using this
   obtain ⟨fn,tmps,assign,body,hy,hR⟩:=hY pre ⟨t+(k:Int),by omega,by omega⟩ wr hJs (by omega)
   dsimp only at hy
   have HQ:Hid (nums (pre++[⟨t+(k:Int),by omega,by omega⟩])=upto t (k+1)):=by
    show _=_
    rw[upto_succ,← HP.out];simp[nums]
   clear hN
   gi_wp2
   refine hR.mono ?_
   rintro e' W3 (⟨rfl,hJ3,hk3⟩ | ⟨rfl,hJx3⟩)
   ·have hct3:W3.cell? ⟨Bt,0,none⟩=some (.int .u64 t):=(World.cell?_of_block hk3.t).trans hct
    have hce3:W3.cell? ⟨Be,0,none⟩=some (.int .u64 e):=(World.cell?_of_block hk3.e).trans hce
    gi_wp2
    go_roundw
    case rel=>exact⟨_,k+1,by congr 1;omega,by omega,HQ,hct3,hce3,hJ3⟩
    case measure=>simp only[intOf];omega
   ·gi_wp2
    refine bodyPost_ret (results_none rfl _ _ _) rfl ?_
    exact⟨⟨_,rfl⟩,.inr ⟨_,by rw[HQ.out];exact upto_prefix t e (k+1) (by omega),hJx3⟩⟩
  ·have hke:k=spanN t e:=by omega
   have HE:Hid (nums pre=spanI t e):=by show _=_;rw[HP.out,hke];rfl
   have w0:IntKind.u64.wrap (t+(k:Int)-t)=k:=by rw[show t+(k:Int)-t=k by omega];exact wrap_u (by omega) (by omega)
   by_cases c1:t+(k:Int)<e
   ·have c2:¬(k:Int)<64:=by omega
    clear hN
    gi_wp2
    go_end0
    exact⟨⟨_,rfl⟩,.inl ⟨pre,HE.out,hJs⟩⟩
   ·clear hN
    gi_wp2
    go_end0
    exact⟨⟨_,rfl⟩,.inl ⟨pre,HE.out,hJs⟩⟩
theorem span_stops (F:Fence)(n:Nat)(h23:F.fn 127)(hro:F.round=none)(hn:1≤n)(Bt Be:Nat)(t e:Int)(ht0:0≤t)(ht1:t<18446744073709551616)(he0:0≤e)(he1:e<18446744073709551616)(w:World)
  (bT:Boxed w Bt 37 (.int .u64 t)) (bE:Boxed w Be 37 (.int .u64 e)) :
  SeqStopsK F n prog 127 #[.pointer (some ⟨Bt,0,none⟩),.pointer (some ⟨Be,0,none⟩)] (fun x:U64=>#[Value.int .u64 x.1]) (Kept2 Bt Be) (fun ys=>nums ys=spanI t e) (fun pre=>nums pre <+: spanI t e) (spanN t e) w:=fun l J Jx W hW _ _ hY h0 =>
 span1_in F n h23 hro hn l Bt Be t e ht0 ht1 he0 he1 J Jx hY W ((hW.cell (p:=⟨Bt,0,none⟩) bT.lt).trans bT.cell) ((hW.cell (p:=⟨Be,0,none⟩) bE.lt).trans bE.cell) h0
end Go.Proofs.YtdadpepfpiimgaaGreatDoor.G
namespace Go.Proofs.YtdadpepfpiimgaaGreatDoor
open Go.Proofs.Tryz
open Go.RowKit
theorem rd_at {w:World}{S:Nat→Prop}{p n:Nat}{d:List Int}{ws:List Wr}(h:Dsk w S p n d ws)(i:Int)(h0:0≤i)(h1:i<n):Calls prog 53 #[.pointer (some ⟨p,0,none⟩),.int .i64 i] w fun e w'=>∃q c,e=.returned (.tuple #[.slice q 64 c,.int .i64 0])∧BIn w' q 64 (newest ws d i.toNat)∧64≤c∧Below w.heap.size w w':=by
 obtain ⟨k,rfl⟩:∃k:Nat,i=k:=⟨i.toNat,by omega⟩
 have hb:Bytes (newest ws d k)∧(newest ws d k).length=64:=by
  obtain ⟨q,cap,v,hp⟩:=h
  exact⟨newk_bytes hp.db hp.fit _,newk_length hp.dl hp.fit (by omega) _⟩
 refine (read_good h k (by omega)).mono ?_
 rintro e w' ⟨v,rfl,ho,hw⟩
 obtain ⟨q,c,rfl,hr,hc⟩:=own_in ho hb.1
 exact⟨q,c,rfl,by rw[Int.toNat_natCast];exact hr,hc.1,hw⟩
theorem follows_any (q:Option Addr)(n c:Nat)(l:List Im)(b mr:Int)(w:World)(h:MIn w q n l)(hn:n≤1000):Calls prog 108 #[.slice q n c,.int .i64 b,.int .i64 mr] w fun e w'=>e=.returned (.bool (decide (Folls l b mr)))∧w=w':=by
 have hl:=h.len
 by_cases h1:mr≤(n:Int)
 ·have hd:decide (Folls l b mr)=false:=decide_eq_false fun k=>by have:=k.1;omega
  rw[hd]
  clear h hl hd
  go_enter func108,ntmps108
  go_wp2
  go_ret
  exact⟨rfl,rfl⟩
 ·by_cases h2:n=0
  ·have hd:decide (Folls l b mr)=true:=decide_eq_true ⟨by omega,.inl (by omega)⟩
   rw[hd]
   have h1':¬mr≤0:=by omega
   clear hd h
   subst h2
   go_enter func108,ntmps108
   go_wp2
   go_ret
   exact⟨rfl,rfl⟩
  ·obtain ⟨m,rfl⟩:∃m,n=m+1:=⟨n-1,by omega⟩
   obtain ⟨g,o,rfl,_⟩:=h.cells (by omega)
   obtain ⟨i,hm⟩:∃i,l[m]?=some i:=⟨_,List.getElem?_eq_getElem (by omega)⟩
   have c0:=h.c0 hm
   have hlb:lastB l=i.b:=by
    unfold lastB
    rw[List.getD,hl,Nat.add_sub_cancel,hm];rfl
   have hd:decide (Folls l b mr)=decide (i.b<b):=by
    unfold Folls
    rw[hlb]
    simp only[hl]
    by_cases hq:i.b<b
    ·rw[decide_eq_true hq,decide_eq_true ⟨by omega,.inr hq⟩]
    ·rw[decide_eq_false hq,decide_eq_false fun k=>k.2.elim (by omega) hq]
   rw[hd]
   obtain ⟨y,hy⟩:∃y,y=i.b:=⟨_,rfl⟩
   rw[← hy] at c0 ⊢
   have e0:¬((m:Int)+1=0):=by omega
   have e1:((m+1:Nat):Int)=(m:Int)+1:=by omega
   have e2:(m:Int)+1-1=m:=by omega
   clear h hd hlb hm hy hl
   go_enter func108,ntmps108
   go_wp2
   go_ret
   exact⟨by simp;omega,rfl⟩
theorem recordAt_any {w:World}{S:Nat→Prop}{p n:Nat}{d:List Int}{ws:List Wr}(h:Dsk w S p n d ws)(ht:Tab w)(c:Sup)(hc:MayC c)(hn:(n:Int)=1+c.bl+c.lc)(x:Int)(h0:0≤x) :
  Calls prog 107 #[.pointer (some ⟨p,0,none⟩),.agg (ccells c).toArray,.int .u64 x] w fun e w'=>e=.returned (.tuple #[.agg (R.rcells (stS c (newest ws d) x).1).toArray,.bool (stS c (newest ws d) x).2])∧Below w.heap.size w w':=by
 obtain ⟨wa,hwa⟩:∃y,y=w.alloc (.cells (ccells c).toArray 23):=⟨_,rfl⟩
 obtain ⟨w0,hw0⟩:∃y,y=wa.alloc (.cells (R.rcells R.rec0).toArray 139):=⟨_,rfl⟩
 have ewa:=hwa.symm
 have sa:wa.heap.size=w.heap.size+1:=by rw[hwa];simp
 have A1:Hid (_):=R.alloc31 wa
 rw[← hw0,sa] at A1
 have Ba:Below w.heap.size w wa:=by rw[hwa];exact below_alloc w _
 have B0:Hid (Below w.heap.size w w0):=by rw[hw0];exact below_then Ba (below_alloc wa _)
 have C0:Hid (CAt w0 w.heap.size c):=by
  rw[hw0]
  refine LAt.later ?_ (below_alloc wa _)
  rw[hwa];exact LAt.new 23 w _
 have V0:Hid (R.RAt 139 w0 (w.heap.size+1) R.rec0):=by rw[hw0,← sa];exact R.RAt.new 139 wa _
 have HD:Hid (Dsk w S p n d ws):=h
 have HT:Hid (Tab w):=ht
 have c1:=CAt.c1 C0.out
 have hb1:=hc.1
 have hl1:=hc.2.1
 have HC:Hid (MayC c):=hc
 obtain ⟨y,f,hslot,hy0,hy1,hy⟩:∃y f,G.slotS x c.lc=(y,f)∧0≤y∧y<c.lc∧(x≤4611686018427387904→x % c.lc=y):=by
  by_cases hx:x≤4611686018427387968
  ·exact⟨x % c.lc,0,by unfold G.slotS;rw[if_pos hl1,if_neg (by omega)],Int.emod_nonneg x (by omega),Int.emod_lt_of_pos x (by omega),fun _=>rfl⟩
  ·exact⟨0,31,by unfold G.slotS;rw[if_pos hl1,if_pos (by omega)],Int.le_refl 0,by omega,fun h=>by omega⟩
 have HST:Hid (∀z,R.decS (newest ws d (1+c.bl+y).toNat)=z→(¬z.2=0→stS c (newest ws d) x=(R.rec0,false))∧(¬z.1.pos=x→stS c (newest ws d) x=(R.rec0,false))∧(c.bl≤z.1.block→stS c (newest ws d) x=(R.rec0,false))∧(z.2=0→z.1.pos=x→z.1.block<c.bl→stS c (newest ws d) x=(z.1,true))):=by
  rintro z rfl
  by_cases hx:x≤4611686018427387904
  ·rw[← hy hx]
   exact⟨fun a=>stS_no fun k=>a k.1,fun a=>stS_no fun k=>a k.2.1,fun a=>stS_no fun k=>by have:=k.2.2;omega,fun a b e=>stS_yes ⟨a,b,e⟩⟩
  ·have hno:stS c (newest ws d) x=(R.rec0,false):=stS_no fun k=>hx (by rw[← k.2.1];exact R.may_pos (R.decS_good _ k.1).1)
   exact⟨fun _=>hno,fun _=>hno,fun _=>hno,fun a b _=>absurd (by rw[← b];exact R.may_pos (R.decS_good _ a).1) hx⟩
 clear hwa hw0 h ht hc hy Ba
 go_enter func107,ntmps107
 go_wp2_with ((with_reducible refine at_ops ?_);(refine wpList_alloc_is (by rfl) 139 rfl A1.out ?_);simp only[Act.put,zA,zB,zC])
 refine (G.slot_any x c.lc h0 _).mono ?_
 rintro e w1 ⟨rfl,rfl⟩
 rw[hslot]
 have c0:=CAt.c0 C0.out
 clear c1 hslot A1 ewa
 go_wp2_with fail
 refine (rd_at (HD.out.later B0.out) (1+c.bl+y) (by omega) (by omega)).mono ?_
 rintro e w2 ⟨q2,c2,rfl,x2,hc2,b2⟩
 have X2:Hid (BIn w2 q2 64 (newest ws d (1+c.bl+y).toNat)):=x2
 have B2:Hid (Below w.heap.size w w2):=below_then B0.out b2
 have C2:Hid (CAt w2 w.heap.size c):=LAt.later C0.out b2
 have V2:Hid (R.RAt 139 w2 (w.heap.size+1) R.rec0):=R.RAt.later V0.out b2
 clear x2 b2 c0 C0 V0 B0
 go_wp2_with fail
 refine (R.decode_any q2 64 c2 _ w2 X2.out hc2 (HT.out.later B2.out).half).mono ?_
 rintro e w3 ⟨rfl,b3⟩
 have B3:Hid (Below w.heap.size w w3):=below_then B2.out b3
 have V3:Hid (R.RAt 139 w3 (w.heap.size+1) R.rec0):=R.RAt.later V2.out b3
 have C3:Hid (CAt w3 w.heap.size c):=LAt.later C2.out b3
 have HW:Hid ((R.decS (newest ws d (1+c.bl+y).toNat)).1.Wf):=R.decS_wf _ X2.out.byte
 clear b3 X2 B2 V2 C2 HD HT
 obtain ⟨⟨r,k⟩,hz⟩:∃z,R.decS (newest ws d (1+c.bl+y).toNat)=z:=⟨_,rfl⟩
 have HZ:Hid (_):=HST.out _ hz
 rw[hz] at HW ⊢
 clear hz HST
 obtain ⟨w4,hw4⟩:∃y,y=w3.alloc (.cells (R.rcells r).toArray 139):=⟨_,rfl⟩
 have A4:Hid (_):=R.alloc31 w3
 have T4:Hid (_):=R.store_new R.size31 w3 r HW.out.len
 rw[← hw4] at T4
 have B34:Hid (Below w3.heap.size w3 w4):=by rw[hw4];exact below_alloc w3 _
 have B4:Hid (Below w.heap.size w w4):=below_then B3.out B34.out
 have V4:Hid (R.RAt 139 w4 (w.heap.size+1) R.rec0):=R.RAt.later V3.out B34.out
 have C4:Hid (CAt w4 w.heap.size c):=LAt.later C3.out B34.out
 have R4:Hid (R.RAt 139 w4 w3.heap.size r):=by rw[hw4];exact R.RAt.new 139 w3 r
 have hne:w.heap.size+1<w3.heap.size:=R.RAt.lt V3.out
 clear hw4 B34 V3 B3 C3
 have U4:Hid (_):=R.build31 w4 #[] R.rec0 R.fill_none
 have T5:Hid (_):=R.RAt.store R.size31 (s:=R.rec0) V4.out R.rec0_len R.rec0_len
 have F5:Hid (R.RAt 139 (w4.setRow (w.heap.size+1) (R.rcells R.rec0).toArray) (w.heap.size+1) R.rec0):=R.RAt.stored V4.out _
 have G5:Hid (Below w.heap.size w (w4.setRow (w.heap.size+1) (R.rcells R.rec0).toArray)):=below_setRow B4.out (Nat.le_succ _) _
 have c0:=CAt.c0 C4.out
 have c1:=R.RAt.c1 R4.out
 have c2':=R.RAt.c2 R4.out
 by_cases hk:k=0
 ·subst hk
  by_cases hp:r.pos=x
  ·by_cases hbk:c.bl≤r.block
   ·have HR:Hid (_):=HZ.out.2.2.1 hbk
    clear HZ
    have hq:(r.pos != x)=false:=by simp[hp]
    have hbk':r.block ≥ c.bl:=hbk
    go_wp2_with ((with_reducible refine at_ops ?_);(first | (refine wpList_alloc_is (by rfl) 139 rfl A4.out ?_) | (refine wpList_store_is (by rfl) 139 rfl rfl rfl T4.out ?_) | (refine wpList_build_is (vs:=[]) (by rfl) 139 rfl (by rfl) U4.out ?_) | (refine wpList_store_is (by rfl) 139 rfl rfl rfl T5.out ?_));simp only[Act.put,zA,zB,zC])
    rw[HR.out]
    exact bodyPost_ret (R.results_rec results107 _ _ (w.heap.size+1) 139 R.rec0 _ (by rfl) F5.out R.rec0_len underlying139 rfl R.size31) rfl ⟨rfl,G5.out⟩
   ·have HR:Hid (_):=HZ.out.2.2.2 rfl hp (by show r.block<c.bl;omega)
    have L6:Hid (_):=R.RAt.load31 R4.out HW.out.len
    have T6:Hid (_):=R.RAt.store R.size31 (s:=r) V4.out R.rec0_len HW.out.len
    have F6:Hid (R.RAt 139 (w4.setRow (w.heap.size+1) (R.rcells r).toArray) (w.heap.size+1) r):=R.RAt.stored V4.out _
    have G6:Hid (Below w.heap.size w (w4.setRow (w.heap.size+1) (R.rcells r).toArray)):=below_setRow B4.out (Nat.le_succ _) _
    have hq:(r.pos != x)=false:=by simp[hp]
    clear HZ T5 F5 G5 U4
    go_wp2_with ((with_reducible refine at_ops ?_);(first | (refine wpList_alloc_is (by rfl) 139 rfl A4.out ?_) | (refine wpList_load_is (by rfl) 139 rfl rfl L6.out ?_) | (refine wpList_store_is (by rfl) 139 rfl rfl rfl T4.out ?_) | (refine wpList_store_is (by rfl) 139 rfl rfl rfl T6.out ?_));simp only[Act.put,zA,zB,zC])
    rw[HR.out]
    exact bodyPost_ret (R.results_rec results107 _ _ (w.heap.size+1) 139 r _ (by rfl) F6.out HW.out.len underlying139 rfl R.size31) rfl ⟨rfl,G6.out⟩
  ·have HR:Hid (_):=HZ.out.2.1 hp
   have hq:(r.pos != x)=true:=by simp[hp]
   clear HZ
   go_wp2_with ((with_reducible refine at_ops ?_);(first | (refine wpList_alloc_is (by rfl) 139 rfl A4.out ?_) | (refine wpList_store_is (by rfl) 139 rfl rfl rfl T4.out ?_) | (refine wpList_build_is (vs:=[]) (by rfl) 139 rfl (by rfl) U4.out ?_) | (refine wpList_store_is (by rfl) 139 rfl rfl rfl T5.out ?_));simp only[Act.put,zA,zB,zC])
   rw[HR.out]
   exact bodyPost_ret (R.results_rec results107 _ _ (w.heap.size+1) 139 R.rec0 _ (by rfl) F5.out R.rec0_len underlying139 rfl R.size31) rfl ⟨rfl,G5.out⟩
 ·have HR:Hid (_):=HZ.out.1 hk
  have hq:(k != 0)=true:=by simp[hk]
  clear HZ
  go_wp2_with ((with_reducible refine at_ops ?_);(first | (refine wpList_alloc_is (by rfl) 139 rfl A4.out ?_) | (refine wpList_store_is (by rfl) 139 rfl rfl rfl T4.out ?_) | (refine wpList_build_is (vs:=[]) (by rfl) 139 rfl (by rfl) U4.out ?_) | (refine wpList_store_is (by rfl) 139 rfl rfl rfl T5.out ?_));simp only[Act.put,zA,zB,zC])
  rw[HR.out]
  exact bodyPost_ret (R.results_rec results107 _ _ (w.heap.size+1) 139 R.rec0 _ (by rfl) F5.out R.rec0_len underlying139 rfl R.size31) rfl ⟨rfl,G5.out⟩
end Go.Proofs.YtdadpepfpiimgaaGreatDoor
