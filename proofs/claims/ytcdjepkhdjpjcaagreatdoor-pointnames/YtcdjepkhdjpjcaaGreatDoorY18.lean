import Derived.Test.YtcdjepkhdjpjcaaGreatDoorY17
set_option maxHeartbeats 20000000
set_option maxRecDepth 100000
namespace Go.Proofs.YtcdjepkhdjpjcaaGreatDoor.E
open Go.Proofs.Tryz
open Go.RowKit
structure Ne (F:Ft):Prop where
 Qq1:F.Q≠F.q1
 Qq2:F.Q≠F.q2
 Qm:F.Q≠F.mb
 Ql:F.Q≠F.lb
 Qn:F.Q≠F.lm
 q1m:F.q1≠F.mb
 q1l:F.q1≠F.lb
 q1n:F.q1≠F.lm
 q2m:F.q2≠F.mb
 q2l:F.q2≠F.lb
 q2n:F.q2≠F.lm
 q12:F.q1≠F.q2
 ml:F.mb≠F.lb
 mn:F.mb≠F.lm
 v1:∀g,blk F.v1=some g→g≠F.Q∧g≠F.q1∧g≠F.q2∧g≠F.mb∧g≠F.lb∧g≠F.lm
 v2:∀g,blk F.v2=some g→g≠F.Q∧g≠F.q1∧g≠F.q2∧g≠F.mb∧g≠F.lb∧g≠F.lm
 v12:∀g,blk F.v1=some g→¬blk F.v2=some g
section
variable {w w':World} {F:Ft} {n:Nat} {a:Ad}
theorem PL.ne (h : PL w F n a) : Ne F :=
  ⟨ne_kd h.kQ h.k1 (by decide), ne_kd h.kQ h.k2 (by decide), ne_kd h.kQ h.km (by decide), ne_kd h.kQ h.kl (by decide), ne_kd h.kQ h.kn (by decide),
   ne_kd h.k1 h.km (by decide), ne_kd h.k1 h.kl (by decide), ne_kd h.k1 h.kn (by decide), ne_kd h.k2 h.km (by decide), ne_kd h.k2 h.kl (by decide), ne_kd h.k2 h.kn (by decide), h.q12, ne_kd h.km h.kl (by decide), h.mm,
   fun g hg => ⟨ne_kd (h.kv1 hg) h.kQ (by decide), ne_kd (h.kv1 hg) h.k1 (by decide), ne_kd (h.kv1 hg) h.k2 (by decide), ne_kd (h.kv1 hg) h.km (by decide), ne_kd (h.kv1 hg) h.kl (by decide), ne_kd (h.kv1 hg) h.kn (by decide)⟩,
   fun g hg => ⟨ne_kd (h.kv2 hg) h.kQ (by decide), ne_kd (h.kv2 hg) h.k1 (by decide), ne_kd (h.kv2 hg) h.k2 (by decide), ne_kd (h.kv2 hg) h.km (by decide), ne_kd (h.kv2 hg) h.kl (by decide), ne_kd (h.kv2 hg) h.kn (by decide)⟩, h.v12⟩
theorem PL.hasL (F:Ft){b:Nat}(hb:L.LF F.lb F.lm b):F.has b:=by
 rcases hb with rfl | rfl
 ·exact .inr (.inr (.inr (.inr (.inr (.inr (.inl rfl))))))
 ·exact .inr (.inr (.inr (.inr (.inr (.inr (.inr rfl))))))
theorem PL.intL (h:PL w F n a){g:Nat}(hg:kd w g=3):¬L.LF F.lb F.lm g:=fun e=>h.noInts hg (PL.hasL F e)
theorem PL.led {a':Ad}{k:Nat}(h:PL w F n a)(hk:Kept (L.LF F.lb F.lm) w w')(hr:L.LAt w' F.lb F.lm k a'.lg)(hn:n≤k)(e1:lcells F a'=lcells F a)(e2:a'.W=a.W)(e3:it a'.I=it a.I)(e4:a'.got=a.got)(e5:a'.next=a.next)(e6:∀x∈a'.fl,x∈a.fl)(ok:a'.Ok):PL w' F k a':=by
 have N:=h.ne
 refine⟨?_,?_,?_,?_,hr,ok,h.q12,h.v12,h.mm⟩
 ·rw[e1];exact (hk.block _ (h.lt (.inl rfl)) (by rintro (e | e);exact N.Ql e;exact N.Qn e)).trans h.st
 ·rw[e2,e5];exact h.l1.far hk (by rintro (e | e);exact N.q1l e;exact N.q1n e) (fun g hg=>by rintro (e | e);exact (N.v1 g hg).2.2.2.2.1 e;exact (N.v1 g hg).2.2.2.2.2 e)
 ·rw[e3,e4];exact h.l2.far hk (by rintro (e | e);exact N.q2l e;exact N.q2n e) (fun g hg=>by rintro (e | e);exact (N.v2 g hg).2.2.2.2.1 e;exact (N.v2 g hg).2.2.2.2.2 e)
 ·exact ((h.fm.far hk (by rintro (e | e);exact N.ml e;exact N.mn e) (fun g _ hg=>h.intL hg)).mono hn).sub e6
theorem lg_fre (a:Ad)(k:Int):L.freS a.lg k=(a.freS k).lg:=by
 unfold L.freS Ad.freS
 by_cases e:0≤k∧k≤a.used
 ·have e':0≤k∧k≤a.lg.used:=e
  rw[if_pos e',if_pos e];rfl
 ·have e':¬(0≤k∧k≤a.lg.used):=e
  rw[if_neg e',if_neg e]
theorem freed_at (h:PL w F n a)(k:Int):Calls prog 105 #[qp F.Q,.int .i64 k] w fun e w'=>e=.returned (.int .i64 (a.freE k))∧PL w' F (n+1) (a.freS k)∧Kept F.has w w':=by
 have c9:w.cell? ⟨F.Q,9,none⟩=some (qp F.lb):=h.c 9
 have H:Hid (PL w F n a):=h
 clear h
 go_enter func105,ntmps105
 go_wp2_with (go_at_call 166;refine (L.free_at H.out.rm H.out.ok.lok k).mono ?_;rintro e w' ⟨rfl,h1,h2⟩;have HR:Hid (L.LAt w' F.lb F.lm (n+1) (L.freS a.lg k)∧Kept (L.LF F.lb F.lm) w w'):=⟨h1,h2⟩;clear h1 h2)
 go_ret
 refine⟨rfl,?_,HR.out.2.wider fun x _ e=>PL.hasL F e⟩
 have hr:=HR.out.1
 rw[lg_fre] at hr
 have hok:=H.out.ok.fre k
 unfold Ad.freS at hr hok ⊢
 by_cases e:0≤k∧k≤a.used
 ·rw[if_pos e] at hr hok ⊢
  exact H.out.led HR.out.2 hr (Nat.le_succ _) rfl rfl rfl rfl rfl (fun x hx=>hx) hok
 ·rw[if_neg e] at hr hok ⊢
  exact H.out.led HR.out.2 hr (Nat.le_succ _) rfl rfl rfl rfl rfl (fun x hx=>hx) hok
theorem dec_forms (t:Int):∀I:List (Int × List Int × Int),((decI t I).map fun x=>(x.1,x.2.1))=I.map fun x=>(x.1,x.2.1)
 | []=>rfl
 | x :: xs=>by
  by_cases e:x.1=t
  ·simp[decI,e]
  ·simp[decI,e,dec_forms t xs]
theorem lg_app {a:Ad}{t:Int}{f:List Int}{k:Int}(hf:fi t a.I=some (f,k))(h0:k≠0)(h1:k≠1):L.appE a.lg t=0∧L.appS a.lg t=(a.appS t).lg∧a.appE t=0:=by
 have e1:L.look t a.lg.L=some k:=by show L.look t (lefts a.I)=_;rw[look_lefts,hf];rfl
 have e2:a.appE t=0:=by simp[Ad.appE,hf,h1]
 refine⟨by simp[L.appE,e1,h0],?_,e2⟩
 unfold L.appS
 rw[e1]
 simp only[if_neg h0]
 unfold Ad.appS
 rw[if_pos e2]
 simp only[Ad.lg,lefts_dec hf]
theorem left_some {a:Ad}{t:Int}{f:List Int}{k:Int}(hf:fi t a.I=some (f,k)):a.leftN t=k∧a.leftB t=true:=by simp[Ad.leftN,Ad.leftB,hf]
theorem left_none {a:Ad}{t:Int}(hf:fi t a.I=none):a.leftN t=0∧a.leftB t=false:=by simp[Ad.leftN,Ad.leftB,hf]
theorem append_at (h:PL w F n a)(hn:n<10000){t:Int}(ht:L.U64 t):Calls prog 40 #[qp F.Q,.int .u64 t] w fun e w'=>e=.returned (.int .i64 (a.appE t))∧PL w' F (n+1) (a.appS t)∧Kept F.has w w':=by
 have c9:w.cell? ⟨F.Q,9,none⟩=some (qp F.lb):=h.c 9
 have H:Hid (PL w F n a):=h
 have HC:=left_at h ht
 clear h
 cases hf:fi t a.I with
 | none =>
  rw[(left_none hf).1,(left_none hf).2] at HC
  have e1:Hid (a.appE t=110):=by show _=_;simp[Ad.appE,hf]
  have e2:Hid (a.appS t=a):=by show _=_;simp[Ad.appS,e1.out]
  have HC':Hid (Calls prog 94 #[qp F.Q,.int .u64 t] w fun e w'=>e=.returned (.tuple #[.int .i64 0,.bool false])∧w'=w):=HC
  clear HC hf
  go_enter func40,ntmps40
  go_wp2_with (go_at_call 94;refine HC'.out.mono ?_;rintro e w' ⟨rfl,rfl⟩)
  go_ret
  exact⟨by rw[e1.out];rfl,by rw[e2.out];exact H.out.mono (Nat.le_succ _),Kept.refl _ _⟩
 | some x =>
  obtain ⟨f,k⟩:=x
  rw[(left_some hf).1,(left_some hf).2] at HC
  have HC':Hid (Calls prog 94 #[qp F.Q,.int .u64 t] w fun e w'=>e=.returned (.tuple #[.int .i64 k,.bool true])∧w'=w):=HC
  have h3:=H.out.ok.iform _ (fi_mem hf)
  simp only at h3
  clear HC
  by_cases hk:k=1
  ·have e1:Hid (a.appE t=120):=by show _=_;simp[Ad.appE,hf,hk]
   have e2:Hid (a.appS t=a):=by show _=_;simp[Ad.appS,e1.out]
   subst hk
   clear hf h3
   go_enter func40,ntmps40
   go_wp2_with (go_at_call 94;refine HC'.out.mono ?_;rintro e w' ⟨rfl,rfl⟩)
   go_ret
   exact⟨by rw[e1.out];rfl,by rw[e2.out];exact H.out.mono (Nat.le_succ _),Kept.refl _ _⟩
  ·have h0:k≠0:=by omega
   have HG:Hid (_):=lg_app hf h0 hk
   have hb:(k == 1)=false:=by rw[beq_eq_false_iff_ne];exact hk
   have HF:Hid (fi t a.I=some (f,k)):=hf
   clear hf h3 hk
   go_enter func40,ntmps40
   go_wp2_with (first | (go_at_call 94;refine HC'.out.mono ?_;rintro e w' ⟨rfl,rfl⟩) | (go_at_call 95;refine (L.append_at H.out.rm H.out.ok.lok hn ht).mono ?_;rintro e w2 ⟨rfl,h1,h2⟩;have HR:Hid (L.LAt w2 F.lb F.lm (n+1) (L.appS a.lg t)∧Kept (L.LF F.lb F.lm) _ w2):=⟨h1,h2⟩;clear h1 h2))
   go_ret
   refine⟨by rw[HG.out.2.2,← HG.out.1];rfl,?_,HR.out.2.wider fun x _ e=>PL.hasL F e⟩
   have hr:=HR.out.1
   rw[HG.out.2.1] at hr
   have hok:=H.out.ok.app t
   unfold Ad.appS at hr hok ⊢
   rw[if_pos HG.out.2.2] at hr hok ⊢
   refine H.out.led HR.out.2 hr (Nat.le_succ _) rfl rfl (it_dec t a.I) rfl rfl (fun x hx=>?_) hok
   have e3:({ a with used:=a.used+1,I:=decI t a.I }:Ad).fl=a.fl:=by simp only[Ad.fl,dec_forms]
   rw[e3] at hx
   exact hx
def OF (F:Ft)(b:Nat):Prop:=b=F.mb∨b=F.q2∨blk F.v2=some b∨b=F.lb∨b=F.lm
theorem OF.has {F:Ft}{b:Nat}(h:OF F b):F.has b:=by
 rcases h with rfl | rfl | e | rfl | rfl
 ·exact .inr (.inr (.inr (.inr (.inr (.inl rfl)))))
 ·exact .inr (.inr (.inl rfl))
 ·exact .inr (.inr (.inr (.inr (.inl e))))
 ·exact .inr (.inr (.inr (.inr (.inr (.inr (.inl rfl))))))
 ·exact .inr (.inr (.inr (.inr (.inr (.inr (.inr rfl))))))
theorem out_at {M:Int→Option Value}{zs:List Int}{m:Int}{s:L.Lg}{k:Nat}(N:Ne F)(c7:w.cell? ⟨F.Q,7,none⟩=some (qp F.q2))(c8:w.cell? ⟨F.Q,8,none⟩=some (.map (some F.mb)))(c9:w.cell? ⟨F.Q,9,none⟩=some (qp F.lb))(hm:VMp w F.mb n M)(hq:QAt 211 w F.q2 F.v2 zs m)(hr:L.LAt w F.lb F.lm k s)(ok:L.Ok s){t:Int}(hu:L.U64 t)(ht:t∈zs)(hl:zs.length≤1000) :
  Calls prog 96 #[qp F.Q,.int .u64 t] w fun e w'=>e=.returned (.int .i64 (L.clsE s t))∧VMp w' F.mb n (fun u=>if u=t then none else M u)∧(∃v',QAt 211 w' F.q2 v' (zs.erase t) m∧blk v'=blk F.v2)∧L.LAt w' F.lb F.lm (k+1) (L.clsS s t)∧Kept (OF F) w w':=by
 have HM:Hid (VMp w F.mb n M):=hm
 have HQ:Hid (QAt 211 w F.q2 F.v2 zs m):=hq
 have HR:Hid (L.LAt w F.lb F.lm k s):=hr
 have hQlt:F.Q<w.heap.size:=World.block_lt_of_cell? w _ c7
 have C7:Hid (_):=c7
 have C9:Hid (_):=c9
 clear hm hq hr c7 c9
 go_enter func96,ntmps96
 go_wp2_with (first
  | (at_delete;refine wpList_delete_v rfl (.tmp 8) (.tmp 9) rfl M rfl HM.out t hu rfl ?_;intro w1 h1 h2;have H1:Hid (VMp w1 F.mb n (fun u=>if u=t then none else M u)∧Kept (·=F.mb) w w1):=⟨h1,h2⟩;clear h1 h2;have d7:w1.cell? ⟨F.Q,7,none⟩=some (qp F.q2):=(World.cell?_of_block (w:=w) (a:=⟨F.Q,7,none⟩) (H1.out.2.block _ hQlt N.Qm)).trans C7.out;have Q1:Hid (QAt 211 w1 F.q2 F.v2 zs m):=HQ.out.far H1.out.2 N.q2m (fun g hg=>(N.v2 g hg).2.2.2.1);have R1:Hid (L.LAt w1 F.lb F.lm k s):=HR.out.kept (H1.out.2.block _ HR.out.lt (Ne.symm N.ml)) (H1.out.2.block _ HR.out.mp.lt (Ne.symm N.mn)))
  | (go_at_call 162;refine (drop_in Q1.out t ht (by omega)).mono ?_;rintro e w2 ⟨rfl,v',h1,h2,h3⟩;have H2:Hid (QAt 211 w2 F.q2 v' (zs.erase t) m∧blk v'=blk F.v2∧Kept (fun b=>b=F.q2∨blk F.v2=some b) w1 w2):=⟨h1,h2,h3⟩;clear h1 h2 h3;have hQ1:F.Q<w1.heap.size:=Nat.lt_of_lt_of_le hQlt H1.out.2.size;have d9:w2.cell? ⟨F.Q,9,none⟩=some (qp F.lb):=(World.cell?_of_block (w:=w1) (a:=⟨F.Q,9,none⟩) (H2.out.2.2.block _ hQ1 (by rintro (e | e);exact N.Qq2 e;exact (N.v2 _ e).1 rfl))).trans ((World.cell?_of_block (w:=w) (a:=⟨F.Q,9,none⟩) (H1.out.2.block _ hQlt N.Qm)).trans C9.out);have R2:Hid (L.LAt w2 F.lb F.lm k s):=R1.out.kept (H2.out.2.2.block _ R1.out.lt (by rintro (e | e);exact N.q2l e.symm;exact (N.v2 _ e).2.2.2.2.1 rfl)) (H2.out.2.2.block _ R1.out.mp.lt (by rintro (e | e);exact N.q2n e.symm;exact (N.v2 _ e).2.2.2.2.2 rfl)))
  | (go_at_call 163;refine (L.close_at R2.out ok hu).mono ?_;rintro e w3 ⟨rfl,h1,h2⟩;have H3:Hid (L.LAt w3 F.lb F.lm (k+1) (L.clsS s t)∧Kept (L.LF F.lb F.lm) w2 w3):=⟨h1,h2⟩;clear h1 h2))
 go_ret
 refine⟨rfl,?_,⟨v',?_,H2.out.2.1⟩,H3.out.1,?_⟩
 ·refine (H1.out.1.kept (H2.out.2.2.block _ H1.out.1.lt (by rintro (e | e);exact N.q2m e.symm;exact (N.v2 _ e).2.2.2.1 rfl))).kept (H3.out.2.block _ (Nat.lt_of_lt_of_le H1.out.1.lt H2.out.2.2.size) (by rintro (e | e);exact N.ml e;exact N.mn e))
 ·exact H2.out.1.far H3.out.2 (by rintro (e | e);exact N.q2l e;exact N.q2n e) (fun g hg=>by rw[H2.out.2.1] at hg;rintro (e | e);exact (N.v2 g hg).2.2.2.2.1 e;exact (N.v2 g hg).2.2.2.2.2 e)
 ·refine ((H1.out.2.wider (T:=OF F) (fun x _ e=>.inl e)).trans H2.out.2.2 (fun x _ e=>?_)).trans H3.out.2 (fun x _ e=>?_)
  ·rcases e with e | e
   ·exact .inr (.inl e)
   ·exact .inr (.inr (.inl e))
  ·rcases e with e | e
   ·exact .inr (.inr (.inr (.inl e)))
   ·exact .inr (.inr (.inr (.inr e)))
theorem cutI_ne {t:Int}:∀{I:List (Int × List Int × Int)},(it I).Nodup→∀x∈cutI t I,x.1≠t
 | [],_,x,hx=>by simp[cutI] at hx
 | y :: ys,h,x,hx=>by
  have h2:=List.nodup_cons.1 h
  by_cases e:y.1=t
  ·simp only[cutI,if_pos e] at hx
   intro e2
   exact h2.1 (by rw[e,← e2];exact List.mem_map.2 ⟨x,hx,rfl⟩)
  ·simp only[cutI,if_neg e,List.mem_cons] at hx
   rcases hx with rfl | hx
   ·exact e
   ·exact cutI_ne h2.2 x hx
theorem fi_it {t:Int}{I:List (Int × List Int × Int)}{x:List Int × Int}(h:fi t I=some x):t∈it I:=List.mem_map.2 ⟨(t,x.1,x.2),fi_mem h,rfl⟩
theorem PL.outd {t u:Int}{k:Nat}{v':Value}{M:Int→Option Value}(h:PL w F n a)(_hm:VMp w F.mb n M)(hs:∀t v,M t=some v→∃p n c,v=.slice p n c)(hf:∀x∈a.fl,∃v,M x.1=some v∧Frm w v x.2∧∀g,blk v=some g→F.G g){f:List Int}{x:Int}(hfi:fi t a.I=some (f,x))(hk:Kept (OF F) w w')(hn:n≤k)
  (hm':VMp w' F.mb n (fun u=>if u=t then none else M u)) (hq:QAt 211 w' F.q2 v' ((it a.I).erase t) a.got) (hb:blk v'=blk F.v2) (hr:L.LAt w' F.lb F.lm k ({ a with used:=u,I:=cutI t a.I }:Ad).lg) (ok:({ a with used:=u,I:=cutI t a.I }:Ad).Ok) :
  PL w' { F with v2:=v' } k { a with used:=u,I:=cutI t a.I }:=by
 have N:=h.ne
 have hint:∀g,kd w g=3→¬OF F g:=fun g hg e=>h.noInts hg e.has
 have hnd:(it a.I).Nodup:=nd_of h.ok.irise
 refine⟨?_,?_,?_,?_,hr,ok,h.q12,fun g hg=>by rw[hb];exact h.v12 g hg,h.mm⟩
 ·exact (hk.block _ (h.lt (.inl rfl)) (by rintro (e | e | e | e | e);exact N.Qm e;exact N.Qq2 e;exact (N.v2 _ e).1 rfl;exact N.Ql e;exact N.Qn e)).trans h.st
 ·exact h.l1.far hk (by rintro (e | e | e | e | e);exact N.q1m e;exact N.q12 e;exact (N.v2 _ e).2.1 rfl;exact N.q1l e;exact N.q1n e) (fun g hg=>by have e1:=N.v1 g hg;rintro (e | e | e | e | e);exact e1.2.2.2.1 e;exact e1.2.2.1 e;exact N.v12 g hg e;exact e1.2.2.2.2.1 e;exact e1.2.2.2.2.2 e)
 ·show QAt _ _ _ _ (it (cutI t a.I)) _
  rw[it_cut]
  exact hq
 ·refine⟨_,hm'.mono hn,fun y v hv=>?_,fun y hy=>?_⟩
  ·by_cases e:y=t
   ·rw[if_pos e] at hv;cases hv
   ·rw[if_neg e] at hv;exact hs y v hv
  ·have hy':y∈a.fl∧y.1≠t:=by
    rcases List.mem_append.1 hy with hy | hy
    ·refine⟨List.mem_append.2 (.inl hy),fun e=>?_⟩
     have h1:=h.ok.win y hy
     have h2:=h.ok.iin _ (fi_mem hfi)
     simp only at h2
     omega
    ·obtain ⟨z,hz,rfl⟩:=List.mem_map.1 hy
     exact⟨List.mem_append.2 (.inr (List.mem_map.2 ⟨z,(cutI_sub t a.I).subset hz,rfl⟩)),cutI_ne hnd z hz⟩
   obtain ⟨v,hv,hfr,hG⟩:=hf y hy'.1
   exact⟨v,by rw[if_neg hy'.2];exact hv,hfr.far hk (fun g _=>hint g),hG⟩
theorem cut_set (t v:Int):∀l:List (Int × Int),L.cut t (L.set t v l)=L.cut t l
 | []=>rfl
 | x :: xs=>by
  by_cases e:x.1=t
  ·simp[L.cut,L.set,e]
  ·simp[L.cut,L.set,e,cut_set t v xs]
theorem done_at (h:PL w F n a)(hn:n<10000)(hN:a.next≤1000){t:Int}(ht:L.U64 t):Calls prog 42 #[qp F.Q,.int .u64 t] w fun e w'=>e=.returned (.int .i64 (a.donE t))∧∃v',PL w' { F with v2:=v' } (n+2) (a.donS t)∧blk v'=blk F.v2∧Kept F.has w w':=by
 have c9:w.cell? ⟨F.Q,9,none⟩=some (qp F.lb):=h.c 9
 have H:Hid (PL w F n a):=h
 clear h
 cases hf:fi t a.I with
 | none =>
  have e0:L.look t a.lg.L=none:=by show L.look t (lefts a.I)=_;rw[look_lefts,hf];rfl
  have e1:Hid (a.donE t=110∧a.donS t=a∧L.appE a.lg t=110∧L.appS a.lg t=a.lg):=⟨by simp[Ad.donE,hf],by simp[Ad.donS,Ad.donE,hf],by simp[L.appE,e0],by simp[L.appS,e0]⟩
  clear hf e0
  go_enter func42,ntmps42
  go_wp2_with (go_at_call 95;refine (L.append_at H.out.rm H.out.ok.lok hn ht).mono ?_;rw[e1.out.2.2.1,e1.out.2.2.2];rintro e w2 ⟨rfl,h1,h2⟩;have HR:Hid (L.LAt w2 F.lb F.lm (n+1) a.lg∧Kept (L.LF F.lb F.lm) _ w2):=⟨h1,h2⟩;clear h1 h2)
  go_ret
  exact⟨by rw[e1.out.1];rfl,F.v2,by rw[e1.out.2.1];exact (H.out.led HR.out.2 HR.out.1 (Nat.le_succ _) rfl rfl rfl rfl rfl (fun x hx=>hx) H.out.ok).mono (by omega),rfl,HR.out.2.wider fun x _ e=>PL.hasL F e⟩
 | some x =>
  obtain ⟨f,k⟩:=x
  have h3:=H.out.ok.iform _ (fi_mem hf)
  simp only at h3
  have h0:k≠0:=by omega
  have e0:L.look t a.lg.L=some k:=by show L.look t (lefts a.I)=_;rw[look_lefts,hf];rfl
  have e1:Hid (a.donE t=0∧a.donS t={ a with used:=a.used+1,I:=cutI t a.I }∧L.appE a.lg t=0∧L.appS a.lg t={ a.lg with used:=a.used+1,L:=L.set t (k-1) (lefts a.I) }):=⟨by simp[Ad.donE,hf],by simp[Ad.donS,Ad.donE,hf],by simp[L.appE,e0,h0],by simp[L.appS,e0,h0];exact⟨rfl,rfl⟩⟩
  have HF:Hid (fi t a.I=some (f,k)):=hf
  have hmem:Hid (t∈it a.I):=fi_it hf
  have hl:Hid ((it a.I).length≤1000):=by show _≤_;have:=H.out.ok.ilen;simp only[it,List.length_map];omega
  clear hf e0 h3 h0
  obtain ⟨M,hm,hms,hmf⟩:=H.out.fm
  have HM:Hid (VMp w F.mb n M∧(∀t v,M t=some v→∃p n c,v=.slice p n c)∧∀x∈a.fl,∃v,M x.1=some v∧Frm w v x.2∧∀g,blk v=some g→F.G g):=⟨hm,hms,hmf⟩
  clear hm hms hmf
  have N:=H.out.ne
  go_enter func42,ntmps42
  go_wp2_with (first
   | (go_at_call 95;refine (L.append_at H.out.rm H.out.ok.lok hn ht).mono ?_;rw[e1.out.2.2.1];rintro e w2 ⟨rfl,h1,h2⟩;have HR:Hid (L.LAt w2 F.lb F.lm (n+1) (L.appS a.lg t)∧Kept (L.LF F.lb F.lm) w w2∧L.Ok (L.appS a.lg t)):=⟨h1,h2,H.out.ok.lok.app t⟩;clear h1 h2;have HP:Hid (w2.heap[F.Q]?=some (.cells (lcells F a) 115 (0,0))∧QAt 211 w2 F.q2 F.v2 (it a.I) a.got∧VMp w2 F.mb n M):=⟨(HR.out.2.1.block _ (H.out.lt (.inl rfl)) (by rintro (e | e);exact N.Ql e;exact N.Qn e)).trans H.out.st,H.out.l2.far HR.out.2.1 (by rintro (e | e);exact N.q2l e;exact N.q2n e) (fun g hg=>by rintro (e | e);exact (N.v2 g hg).2.2.2.2.1 e;exact (N.v2 g hg).2.2.2.2.2 e),HM.out.1.kept (HR.out.2.1.block _ HM.out.1.lt (by rintro (e | e);exact N.ml e;exact N.mn e))⟩)
   | (go_at_call 96;refine (out_at N (cell_of_row _ F.Q 7 _ 115 (0,0) HP.out.1) (cell_of_row _ F.Q 8 _ 115 (0,0) HP.out.1) (cell_of_row _ F.Q 9 _ 115 (0,0) HP.out.1) HP.out.2.2 HP.out.2.1 HR.out.1 HR.out.2.2 ht hmem.out hl.out).mono ?_;rintro e w3 ⟨rfl,h1,⟨v',h2,h2'⟩,h3,h4⟩;have HO:Hid (VMp w3 F.mb n (fun u=>if u=t then none else M u)∧QAt 211 w3 F.q2 v' ((it a.I).erase t) a.got∧blk v'=blk F.v2∧L.LAt w3 F.lb F.lm (n+1+1) (L.clsS (L.appS a.lg t) t)∧Kept (OF F) w2 w3):=⟨h1,h2,h2',h3,h4⟩;clear h1 h2 h2' h3 h4))
  go_ret
  have hkk:Kept (OF F) w w3:=(HR.out.2.1.wider (T:=OF F) (fun x _ e=>by rcases e with e | e;exact .inr (.inr (.inr (.inl e)));exact .inr (.inr (.inr (.inr e))))).trans HO.out.2.2.2.2 (fun _ _ e=>e)
  have ecl:L.clsE (L.appS a.lg t) t=0:=by
   rw[e1.out.2.2.2]
   have:L.look t (L.set t (k-1) (lefts a.I))=some (k-1):=by rw[L.look_set (n:=k) (by rw[look_lefts,HF.out];rfl)];simp
   simp[L.clsE,this]
  have els:L.clsS (L.appS a.lg t) t=({ a with used:=a.used+1,I:=cutI t a.I }:Ad).lg:=by
   rw[e1.out.2.2.2]
   simp only[L.clsS,cut_set,Ad.lg,lefts_cut]
  have hok:=H.out.ok.don t
  rw[e1.out.2.1] at hok
  refine⟨by rw[e1.out.1,← ecl];rfl,v',?_,HO.out.2.2.1,hkk.wider fun x _ e=>e.has⟩
  rw[e1.out.2.1]
  have hr:=HO.out.2.2.2.1
  rw[els] at hr
  exact H.out.outd HM.out.1 HM.out.2.1 HM.out.2.2 HF.out hkk (by omega) HO.out.1 HO.out.2.1 HO.out.2.2.1 hr hok
end
abbrev cfgV (bl lc mr hi cl:Int):Value:=.agg #[.int .i64 bl,.int .i64 lc,.int .i64 mr,.int .i64 hi,.int .i64 cl]
abbrev cfgO (bl lc mr hi cl:Int):Obj:=.cells #[.int .i64 bl,.int .i64 lc,.int .i64 mr,.int .i64 hi,.int .i64 cl] 23
theorem form0 {bl mr:Int}(h:B.mayS bl mr=true):B.formS [0] bl mr=([0],0):=by
 have h':1≤bl∧bl≤64∧1≤mr∧mr≤16∧mr≤bl:=by simpa [B.mayS] using h
 have e1:B.belS [0] bl=true:=by simp[B.belS];omega
 have e2:B.diffS [0]=[0]:=rfl
 unfold B.formS
 rw[if_neg (by rw[h];simp)]
 simp[e1,e2]
 omega
section
variable {bl lc mr hi cl:Int}
theorem roomOf_fit (w:World)(h:B.mayS bl mr=true)(h2:L.mayNew lc hi)(h3:1≤cl)(h4:cl≤8):Calls prog 120 #[cfgV bl lc mr hi cl] w fun e w'=>∃lb lm,e=.returned (.tuple #[qp lb,.bool (decide (mr+1≤lc))])∧L.LAt w' lb lm 0 (L.newS lc hi)∧w.heap.size≤lb∧w.heap.size≤lm∧Below w.heap.size w w':=by
 have h':1≤bl∧bl≤64∧1≤mr∧mr≤16∧mr≤bl:=by simpa [B.mayS] using h
 have HF:Hid (B.formS [0] bl mr=([0],0)):=form0 h
 have H2:Hid (L.mayNew lc hi):=h2
 have hw:IntKind.i64.wrap (mr+1)=mr+1:=by rw[IntKind.wrap_i64];omega
 have HE:Hid (L.fitsS (L.newS lc hi) (mr+1)=decide (mr+1≤lc)):=by
  show _=_
  simp only[L.fitsS,L.newS,L.total]
  congr 1
  exact propext ⟨fun h=>by omega,fun h=>by omega⟩
 clear h h2 h'
 have HI:Hid (B.IIn ((w.alloc (cfgO bl lc mr hi cl)).alloc (.cells #[.int .i64 0] 3)) (some ⟨w.heap.size+1,0,none⟩) 1 [0]):=by
  have:=B.lit_in (w.alloc (cfgO bl lc mr hi cl)) [0] 1 rfl
  rw[World.size_alloc] at this
  exact this
 go_enter func120,ntmps120
 go_wp2_with (first
  | (go_at_call 85;refine (B.form_is _ 1 1 [0] bl mr [0] 0 HF.out _ (by omega) HI.out).mono ?_;rintro e w2 ⟨q,d,rfl,hm⟩;have HB:Hid (Below w.heap.size w w2):=below_then (below_alloc w _) (below_then (below_alloc _ _) hm.below);have cc:∀o,w2.cell? ⟨w.heap.size,o,none⟩=(#[Value.int .i64 bl,.int .i64 lc,.int .i64 mr,.int .i64 hi,.int .i64 cl]:Array Value)[o]?:=fun o=>((hm.below.cell (p:=⟨w.heap.size,o,none⟩) (by simp;omega)).trans ((below_alloc (w.alloc (cfgO bl lc mr hi cl)) (.cells #[.int .i64 0] 3)).cell (p:=⟨w.heap.size,o,none⟩) (by simp))).trans (cell_of_row _ w.heap.size o _ 23 (0,0) (heap_alloc_new w _));have c1:w2.cell? ⟨w.heap.size,1,none⟩=some (.int .i64 lc):=cc 1;have c2:w2.cell? ⟨w.heap.size,2,none⟩=some (.int .i64 mr):=cc 2;have c3:w2.cell? ⟨w.heap.size,3,none⟩=some (.int .i64 hi):=cc 3;have c4:w2.cell? ⟨w.heap.size,4,none⟩=some (.int .i64 cl):=cc 4;have hlt2:w.heap.size<w2.heap.size:=World.block_lt_of_cell? w2 _ c1;clear hm cc)
  | (go_at_call 181;refine (L.new_ok _ H2.out).mono ?_;rintro e w3 ⟨rfl,h3',h4'⟩;have HR:Hid (L.LAt w3 (w2.heap.size+1) w2.heap.size 0 (L.newS lc hi)∧w.heap.size≤w2.heap.size∧Below w.heap.size w w3):=⟨h3',Nat.le_of_lt hlt2,below_then HB.out h4'⟩;have d4:w3.cell? ⟨w.heap.size,4,none⟩=some (.int .i64 cl):=(h4'.cell (p:=⟨w.heap.size,4,none⟩) hlt2).trans c4;have d2:w3.cell? ⟨w.heap.size,2,none⟩=some (.int .i64 mr):=(h4'.cell (p:=⟨w.heap.size,2,none⟩) hlt2).trans c2;clear h3' h4')
  | (go_at_call 154;refine (L.fits_at HR.out.1 (L.Ok.new H2.out) (mr+1)).mono ?_;rw[HE.out];rintro e w4 ⟨rfl,nq,rfl⟩))
 go_ret2
 exact⟨_,_,rfl,HR.out.1.drawn _,by have:=HR.out.2.1;omega,HR.out.2.1,below_then HR.out.2.2 (below_drawn _)⟩
theorem mayC_iff:mayC bl lc mr hi cl↔B.mayS bl mr=true∧L.mayNew lc hi∧(1≤cl∧cl≤8)∧mr+1≤lc:=by
 simp only[mayC,B.mayS,L.mayNew,decide_eq_true_eq]
 omega
theorem roomOf_ok (w:World)(h:mayC bl lc mr hi cl):Calls prog 120 #[cfgV bl lc mr hi cl] w fun e w'=>∃lb lm,e=.returned (.tuple #[qp lb,.bool true])∧L.LAt w' lb lm 0 (L.newS lc hi)∧w.heap.size≤lb∧w.heap.size≤lm∧Below w.heap.size w w':=by
 obtain ⟨h1,h2,h3,h4⟩:=mayC_iff.1 h
 have:=roomOf_fit w h1 h2 h3.1 h3.2
 rwa [decide_eq_true h4] at this
theorem new_ok (w:World)(h:mayC bl lc mr hi cl):Calls prog 58 #[cfgV bl lc mr hi cl] w fun e w'=>∃F,e=.returned (.tuple #[qp F.Q,.int .i64 0])∧PL w' F 0 (newA bl lc mr hi cl)∧(∀b,F.has b→w.heap.size≤b)∧Below w.heap.size w w':=by
 have HM:Hid (mayC bl lc mr hi cl):=h
 have hmm:=@run_makeMap prog
 clear h
 go_enter func58,ntmps58
 go_wp2_with (go_at_call 120;refine (roomOf_ok _ HM.out).mono ?_;rintro e w2 ⟨lb,lm,rfl,hr,h1,h2,hb⟩;have HB:Hid (Below w.heap.size w w2∧L.LAt w2 lb lm 0 (L.newS lc hi)∧w.heap.size≤lb∧w.heap.size≤lm):=⟨below_then (below_alloc w _) hb,hr,by simp at h1;omega,by simp at h2;omega⟩;have cc:∀o,w2.cell? ⟨w.heap.size,o,none⟩=(#[Value.int .i64 bl,.int .i64 lc,.int .i64 mr,.int .i64 hi,.int .i64 cl]:Array Value)[o]?:=fun o=>(hb.cell (p:=⟨w.heap.size,o,none⟩) (by simp)).trans (cell_of_row _ w.heap.size o _ 23 (0,0) (heap_alloc_new w _));have c0:w2.cell? ⟨w.heap.size,0,none⟩=some (.int .i64 bl):=cc 0;have c1:w2.cell? ⟨w.heap.size,1,none⟩=some (.int .i64 lc):=cc 1;have c2:w2.cell? ⟨w.heap.size,2,none⟩=some (.int .i64 mr):=cc 2;have c3:w2.cell? ⟨w.heap.size,3,none⟩=some (.int .i64 hi):=cc 3;have c4:w2.cell? ⟨w.heap.size,4,none⟩=some (.int .i64 cl):=cc 4;have hlt2:w.heap.size<w2.heap.size:=World.block_lt_of_cell? w2 _ c1;clear hr h1 h2 hb cc)
 go_ret2
 have hs2:=HB.out.1.size
 refine⟨⟨w2.heap.size+1+1+1,w2.heap.size,w2.heap.size+1,w2.heap.size+1+1,lb,lm,nils,nils,fun _=>False⟩,rfl,?_,?_,?_⟩
 ·obtain ⟨V,hV⟩:∃V,((w2.alloc (.cells #[nils,.int .u64 0] 211)).alloc (.cells #[nils,.int .u64 0] 211)).alloc (.map #[] 0)=V:=⟨_,rfl⟩
  have hVs:V.heap.size=w2.heap.size+1+1+1:=by rw[← hV];simp
  have q1:=QAt.new w2 211 (m:=0) (Row.empty w2)
  have q2:=QAt.new (w2.alloc (.cells #[nils,.int .u64 0] 211)) 211 (m:=0) (Row.empty _)
  have m1:=VMp.made ((w2.alloc (.cells #[nils,.int .u64 0] 211)).alloc (.cells #[nils,.int .u64 0] 211))
  have b1:Below (w2.alloc (.cells #[nils,.int .u64 0] 211)).heap.size (w2.alloc (.cells #[nils,.int .u64 0] 211)) V:=by rw[← hV];exact below_then (below_alloc _ _) (below_alloc _ _)
  have b2:Below ((w2.alloc (.cells #[nils,.int .u64 0] 211)).alloc (.cells #[nils,.int .u64 0] 211)).heap.size ((w2.alloc (.cells #[nils,.int .u64 0] 211)).alloc (.cells #[nils,.int .u64 0] 211)) V:=by rw[← hV];exact below_alloc _ _
  have b0:Below w2.heap.size w2 V:=below_then (below_alloc w2 _) b1
  have bV:=below_alloc V (.cells #[.int .i64 bl,.int .i64 lc,.int .i64 mr,.int .i64 hi,.int .i64 cl,.int .u64 1,qp w2.heap.size,qp (w2.heap.size+1),.map (some (w2.heap.size+1+1)),qp lb] 115)
  have st:=heap_alloc_new V (.cells #[.int .i64 bl,.int .i64 lc,.int .i64 mr,.int .i64 hi,.int .i64 cl,.int .u64 1,qp w2.heap.size,qp (w2.heap.size+1),.map (some (w2.heap.size+1+1)),qp lb] 115)
  rw[hV] at m1
  rw[hVs] at st
  simp only[World.size_alloc] at q2 m1
  have hlm:=HB.out.2.1.mp.lt
  refine⟨by rw[hV];exact st,by rw[hV];exact (q1.later b1).later bV,by rw[hV];exact (q2.later b2).later bV,?_,by rw[hV];exact (HB.out.2.1.later b0).later bV,Ad.Ok.new HM.out,by show w2.heap.size≠w2.heap.size+1;omega,fun g hg=>(by cases hg),by show w2.heap.size+1+1≠lm;omega⟩
  rw[hV]
  exact⟨_,m1.kept (bV.block _ (by rw[hVs];omega)),fun t v hv=>(by cases hv),fun x hx=>(by cases hx)⟩
 ·rintro b (rfl | rfl | rfl | e | e | rfl | rfl | rfl)
  ·show w.heap.size≤w2.heap.size+1+1+1;omega
  ·exact hs2
  ·show w.heap.size≤w2.heap.size+1;omega
  ·cases e
  ·cases e
  ·show w.heap.size≤w2.heap.size+1+1;omega
  ·exact HB.out.2.2.1
  ·exact HB.out.2.2.2
 ·exact below_then HB.out.1 (below_then (below_alloc _ _) (below_then (below_alloc _ _) (below_then (below_alloc _ _) (below_alloc _ _))))
end
section
variable {w w':World} {F:Ft} {n:Nat} {a:Ad}
theorem below_drew (w:World):Below w.heap.size w w.drew:=(Below.refl _ w).drew
theorem begin_bad (h:PL w F n a){p:Option Addr}{m c:Nat}{xs f:List Int}{E:Int}(hI:B.IIn w p m xs)(hm:m+80≤17592186044416)(hf:B.formS xs a.bl a.mr=(f,E))(hE:E≠0) :
  Calls prog 37 #[qp F.Q,.slice p m c] w fun e w'=>e=.returned (.tuple #[.int .u64 0,nils,.int .i64 E])∧Below w.heap.size w w':=by
 have HI:Hid (B.IIn w.drew p m xs):=⟨hI.len,hI.cells⟩
 have HF:Hid (B.formS xs a.bl a.mr=(f,E)):=hf
 have hEb:(E != 0)=true:=by simpa using hE
 have c0:w.drew.cell? ⟨F.Q,0,none⟩=some (.int .i64 a.bl):=h.c 0
 have c2:w.drew.cell? ⟨F.Q,2,none⟩=some (.int .i64 a.mr):=h.c 2
 clear hI hf h hE
 go_enter func37,ntmps37
 go_wp2_with fail
 go_region_with (go_at_call 85;refine (B.form_is p m c xs a.bl a.mr f E HF.out w.drew (by omega) HI.out).mono ?_;rintro e w2 ⟨q,d,rfl,hmade⟩;have HB:Hid (B.Made w.drew w2 q f.length d f):=hmade;clear hmade)
 all_goals (go_wp2;go_ret3;exact⟨rfl,below_then (below_drew w) HB.out.below⟩)
theorem own_blk {w:World}{base:Nat}{e:TypeId}{size:Nat}{v:Value}{n:Nat}{xs:List Value}(h:w.ownsRow base e size v n xs){g:Nat}(hg:blk v=some g):base≤g:=by
 rcases h.2 with ⟨rfl,_⟩ | ⟨g',cap,cur,rfl,h1,_⟩
 ·cases hg
 ·cases hg;exact h1
theorem u64_small {t:Int}(h0:0≤t)(h1:t≤1000):L.U64 t:=by
 have e1:IntKind.u64.min=0:=by decide
 have e2:IntKind.u64.max=18446744073709551615:=by decide
 simp only[L.U64,Lit.wf,e1,e2,Bool.and_eq_true,decide_eq_true_eq]
 omega
theorem form_len (xs:List Int)(b m:Int):(B.formS xs b m).1.length≤16:=B.formS_len xs b m
end
section
variable {w w':World} {F:Ft} {n:Nat} {a:Ad}
theorem enter_no (h:PL w F n a)(hN:a.next≤1000)(hW:a.isW=false):Calls prog 38 #[qp F.Q] w fun e w'=>e=.returned (.tuple #[.int .u64 0,nils,.int .i64 110])∧Below w.heap.size w w':=by
 have HC:=first_at h hN
 rw[hW] at HC
 have HC':Hid (Calls prog 88 #[qp F.Q] w fun e w'=>∃v,e=.returned (.tuple #[.int .u64 a.fT,v,.bool false])∧Frm w' v a.fF∧Below w.heap.size w w'):=HC
 clear HC h hW
 go_enter func38,ntmps38
 go_wp2_with (go_at_call 88;refine HC'.out.mono ?_;rintro e w1 ⟨v,rfl,hfr,hb⟩;have HB:Hid (Below w.heap.size w w1):=hb;clear hfr hb)
 go_ret3
 exact⟨rfl,HB.out⟩
theorem fi_new {a:Ad}(h:a.Ok){x:Int × List Int}{r:List (Int × List Int)}(hW:a.W=x :: r):L.look x.1 (lefts a.I)=none∧x.1≠0:=by
 have h1:=h.win x (by rw[hW];exact List.mem_cons_self ..)
 have h0:=h.got0
 refine⟨?_,by omega⟩
 rw[look_lefts,fi_none.2]
 ·rfl
 ·intro hx
  obtain ⟨y,hy,e⟩:=List.mem_map.1 hx
  have:=h.iin y hy
  omega
theorem rsv_yes {a:Ad}(h:a.Ok){x:Int × List Int}{r:List (Int × List Int)}(hW:a.W=x :: r)(hf:a.fits=true):L.rsvE a.lg x.1 ((x.2.length:Int)+1)=0∧L.rsvS a.lg x.1 ((x.2.length:Int)+1)=({ a with W:=r,I:=a.I++[(x.1,x.2,(x.2.length:Int)+1)],got:=x.1 }:Ad).lg:=by
 obtain ⟨h1,h2⟩:=fi_new h hW
 have e1:L.fitsS a.lg ((x.2.length:Int)+1)=true:=by
  have:=fits_lg (a:=a) (by simp[Ad.isW,hW])
  rw[show a.fF=x.2 by simp[Ad.fF,hW]] at this
  rw[this,hf]
 have e2:L.rsvE a.lg x.1 ((x.2.length:Int)+1)=0:=by
  have e3:¬(x.1=0∨(x.2.length:Int)+1<1):=by omega
  have e4:L.look x.1 a.lg.L=none:=h1
  exact L.rsvE_ok e3 e4 e1
 refine⟨e2,?_⟩
 rw[L.rsvS_ok e2]
 simp only[Ad.lg,lefts_app]
theorem rsv_no {a:Ad}(h:a.Ok){x:Int × List Int}{r:List (Int × List Int)}(hW:a.W=x :: r)(hf:a.fits=false):L.rsvE a.lg x.1 ((x.2.length:Int)+1)=120∧L.rsvS a.lg x.1 ((x.2.length:Int)+1)=a.lg:=by
 obtain ⟨h1,h2⟩:=fi_new h hW
 have e1:L.fitsS a.lg ((x.2.length:Int)+1)=false:=by
  have:=fits_lg (a:=a) (by simp[Ad.isW,hW])
  rw[show a.fF=x.2 by simp[Ad.fF,hW]] at this
  rw[this,hf]
 have e2:L.rsvE a.lg x.1 ((x.2.length:Int)+1)=120:=by
  have e3:¬(x.1=0∨(x.2.length:Int)+1<1):=by omega
  have e4:L.look x.1 a.lg.L=none:=h1
  exact L.rsvE_room e3 e4 e1
 exact⟨e2,L.rsvS_not (by rw[e2];decide)⟩
theorem enter_room (h:PL w F n a)(hn:n<10000)(hN:a.next≤1000){x:Int × List Int}{r:List (Int × List Int)}(hW:a.W=x :: r)(hf:a.fits=false):Calls prog 38 #[qp F.Q] w fun e w'=>e=.returned (.tuple #[.int .u64 0,nils,.int .i64 120])∧PL w' F (n+1) a∧Kept F.has w w':=by
 have HC:=first_at h hN
 have hl:=h.ok.flen
 have HU:Hid (L.U64 x.1):=by have h1:=h.ok.win x (by rw[hW];exact List.mem_cons_self ..);have h0:=h.ok.got0;exact u64_small (by omega) (by omega)
 rw[show a.isW=true by simp[Ad.isW,hW],show a.fT=x.1 by simp[Ad.fT,hW],show a.fF=x.2 by simp[Ad.fF,hW]] at HC
 rw[show a.fF=x.2 by simp[Ad.fF,hW]] at hl
 have HC':Hid (Calls prog 88 #[qp F.Q] w fun e w'=>∃v,e=.returned (.tuple #[.int .u64 x.1,v,.bool true])∧Frm w' v x.2∧Below w.heap.size w w'):=HC
 have HR:Hid (_):=rsv_no h.ok hW hf
 have H:Hid (PL w F n a):=h
 clear HC h hW hf
 go_enter func38,ntmps38
 go_wp2_with (go_at_call 88;refine HC'.out.mono ?_;rintro e w1 ⟨v,rfl,hfr,hb⟩;obtain ⟨p,c,rfl,-⟩:=hfr.read;have HB:Hid (Below w.heap.size w w1):=hb;clear hfr hb;have hP1:Hid (PL w1.drew F n a):=(H.out.later HB.out).later (below_drew _);have c9:w1.drew.cell? ⟨F.Q,9,none⟩=some (qp F.lb):=hP1.out.c 9)
 go_region_with (first | (go_at_call 90;refine (reservation_is _ _ _ (by omega) _).mono ?_;rintro e w' ⟨rfl,rfl⟩) | (go_at_call 89;refine (L.reserve_at hP1.out.rm hP1.out.ok.lok hn HU.out ((x.2.length:Int)+1)).mono ?_;rw[HR.out.1,HR.out.2];rintro e w2 ⟨rfl,h1,h2⟩;have H2:Hid (L.LAt w2 F.lb F.lm (n+1) a.lg∧Kept (L.LF F.lb F.lm) w1.drew w2):=⟨h1,h2⟩;clear h1 h2))
 all_goals (
  clear c9
  go_wp2
  go_ret3
  exact⟨rfl,hP1.out.led H2.out.2 H2.out.1 (Nat.le_succ _) rfl rfl rfl rfl rfl (fun x hx=>hx) hP1.out.ok,((Kept.of_below _ HB.out).trans (Kept.of_below (fun _=>False) (below_drew w1)) (fun _ _ e=>e.elim)).trans H2.out.2 (fun x _ e=>PL.hasL F e)⟩)
theorem PL.entered {w2 w3 w4:World}{x:Int × List Int}{r:List (Int × List Int)}{v1' v2':Value}(h:PL w F n a)(N:Ne F)(hW:a.W=x :: r)(hk2:Kept (L.LF F.lb F.lm) w w2)(hr2:L.LAt w2 F.lb F.lm (n+1) ({ a with W:=r,I:=a.I++[(x.1,x.2,(x.2.length:Int)+1)],got:=x.1 }:Ad).lg)
  (hQ1:QAt 211 w3 F.q1 v1' (wt r) (a.next-1)) (hb1:blk v1'=blk F.v1) (hk3:Kept (fun b=>b=F.q1∨blk F.v1=some b) w2 w3) (hQ2:QAt 211 w4 F.q2 v2' (it a.I++[x.1]) x.1) (hk4:Kept (fun b=>b=F.q2∨blk F.v2=some b) w3 w4) (hv2:blk v2'=blk F.v2∨∃g,blk v2'=some g∧w.heap.size≤g)
  (ok:({ a with W:=r,I:=a.I++[(x.1,x.2,(x.2.length:Int)+1)],got:=x.1 }:Ad).Ok) :
  PL w4 { F with v1:=v1',v2:=v2' } (n+1) { a with W:=r,I:=a.I++[(x.1,x.2,(x.2.length:Int)+1)],got:=x.1 }∧Kept F.has w w4:=by
 have hlt:∀b,F.has b→b<w.heap.size:=fun b hb=>h.lt hb
 have kAll:Kept F.has w w4:=((hk2.wider (T:=F.has) (fun x _ e=>PL.hasL F e)).trans hk3 (fun x _ e=>by rcases e with e | e;exact .inr (.inl e);exact .inr (.inr (.inr (.inl e))))).trans hk4 (fun x _ e=>by rcases e with e | e;exact .inr (.inr (.inl e));exact .inr (.inr (.inr (.inr (.inl e)))))
 have kB:Kept (fun b=>F.has b∧b≠F.mb) w w4:=((hk2.wider (T:=fun b=>F.has b∧b≠F.mb) (fun x _ e=>⟨PL.hasL F e,by rcases e with rfl | rfl;exact Ne.symm N.ml;exact Ne.symm N.mn⟩)).trans hk3 (fun x _ e=>by rcases e with rfl | e;exact⟨.inr (.inl rfl),N.q1m⟩;exact⟨.inr (.inr (.inr (.inl e))),(N.v1 _ e).2.2.2.1⟩)).trans hk4 (fun x _ e=>by rcases e with rfl | e;exact⟨.inr (.inr (.inl rfl)),N.q2m⟩;exact⟨.inr (.inr (.inr (.inr (.inl e)))),(N.v2 _ e).2.2.2.1⟩)
 have s2:=hk2.size
 have s3:=hk3.size
 refine⟨⟨?_,?_,?_,?_,?_,ok,h.q12,fun g hg=>?_,h.mm⟩,kAll⟩
 ·show w4.heap[F.Q]?=_
  refine (hk4.block _ (by have:=hlt F.Q (.inl rfl);omega) (by rintro (e | e);exact N.Qq2 e;exact (N.v2 _ e).1 rfl)).trans ((hk3.block _ (by have:=hlt F.Q (.inl rfl);omega) (by rintro (e | e);exact N.Qq1 e;exact (N.v1 _ e).1 rfl)).trans ((hk2.block _ (hlt _ (.inl rfl)) (by rintro (e | e);exact N.Ql e;exact N.Qn e)).trans h.st))
 ·exact hQ1.far hk4 (by rintro (e | e);exact N.q12 e;exact (N.v2 _ e).2.1 rfl) (fun g hg=>by rw[hb1] at hg;rintro (e | e);exact (N.v1 g hg).2.2.1 e;exact N.v12 g hg e)
 ·show QAt _ _ _ _ (it (a.I++[_])) _
  rw[it_app]
  exact hQ2
 ·refine (((h.fm.far kB (fun e=>e.2 rfl) (fun g _ hg e=>h.noInts hg e.1)).mono (Nat.le_succ n)).sub fun y hy=>?_)
  ·simp only[Ad.fl,List.mem_append,List.map_append,List.map_cons,List.map_nil,hW,List.mem_cons,List.not_mem_nil,or_false] at hy ⊢
   rcases hy with hy | hy | hy
   ·exact .inl (.inr hy)
   ·exact .inr hy
   ·exact .inl (.inl hy)
 ·exact (hr2.kept (hk3.block _ hr2.lt (by rintro (e | e);exact N.q1l e.symm;exact (N.v1 _ e).2.2.2.2.1 rfl)) (hk3.block _ hr2.mp.lt (by rintro (e | e);exact N.q1n e.symm;exact (N.v1 _ e).2.2.2.2.2 rfl))).kept (hk4.block _ (by have:=hr2.lt;omega) (by rintro (e | e);exact N.q2l e.symm;exact (N.v2 _ e).2.2.2.2.1 rfl)) (hk4.block _ (by have:=hr2.mp.lt;omega) (by rintro (e | e);exact N.q2n e.symm;exact (N.v2 _ e).2.2.2.2.2 rfl))
 ·rw[show ({ F with v1:=v1',v2:=v2' }:Ft).v1=v1' from rfl,hb1] at hg
  show ¬blk v2'=some g
  rcases hv2 with e | ⟨g',e,hg'⟩
  ·rw[e];exact h.v12 g hg
  ·rw[e]
   intro e2
   cases e2
   have:=hlt g (.inr (.inr (.inr (.inl hg))))
   omega
theorem enter_ok (h:PL w F n a)(hn:n<10000)(hN:a.next≤1000){x:Int × List Int}{r:List (Int × List Int)}(hW:a.W=x :: r)(hf:a.fits=true)(ok:({ a with W:=r,I:=a.I++[(x.1,x.2,(x.2.length:Int)+1)],got:=x.1 }:Ad).Ok) :
  Calls prog 38 #[qp F.Q] w fun e w'=>∃q d v1' v2',e=.returned (.tuple #[.int .u64 x.1,.slice q x.2.length d,.int .i64 0])∧w'.ownsRow w.heap.size 3 1 (.slice q x.2.length d) x.2.length (B.I64 x.2)∧PL w' { F with v1:=v1',v2:=v2' } (n+1) { a with W:=r,I:=a.I++[(x.1,x.2,(x.2.length:Int)+1)],got:=x.1 }∧blk v1'=blk F.v1∧(blk v2'=blk F.v2∨∃g,blk v2'=some g∧w.heap.size≤g)∧Kept F.has w w':=by
 have HC:=first_at h hN
 have hl:=h.ok.flen
 have h1:=h.ok.win x (by rw[hW];exact List.mem_cons_self ..)
 have h0:=h.ok.got0
 have HU:Hid (L.U64 x.1):=u64_small (by omega) (by omega)
 have hgt:¬x.1≤a.got:=by omega
 have hwl:(wt a.W).length≤1000:=by have:=h.ok.wlen;simp only[wt,List.length_map];omega
 have hil:(it a.I).length≤1000:=by have:=h.ok.ilen;simp only[it,List.length_map];omega
 rw[show a.isW=true by simp[Ad.isW,hW],show a.fT=x.1 by simp[Ad.fT,hW],show a.fF=x.2 by simp[Ad.fF,hW]] at HC
 rw[show a.fF=x.2 by simp[Ad.fF,hW]] at hl
 have HC':Hid (Calls prog 88 #[qp F.Q] w fun e w'=>∃v,e=.returned (.tuple #[.int .u64 x.1,v,.bool true])∧Frm w' v x.2∧Below w.heap.size w w'):=HC
 have HR:Hid (_):=rsv_yes h.ok hW hf
 have H:Hid (PL w F n a):=h
 have N:Hid (Ne F):=h.ne
 have HW:Hid (a.W=x :: r):=hW
 have HO:Hid (({ a with W:=r,I:=a.I++[(x.1,x.2,(x.2.length:Int)+1)],got:=x.1 }:Ad).Ok):=ok
 clear HC h hW hf ok h1 h0
 go_enter func38,ntmps38
 go_wp2_with (go_at_call 88;refine HC'.out.mono ?_;rintro e w1 ⟨v,rfl,hfr,hb⟩;obtain ⟨p,c,rfl,-⟩:=hfr.read;have HB:Hid (Below w.heap.size w w1∧Frm w1 (.slice p x.2.length c) x.2):=⟨hb,hfr⟩;clear hfr hb;have hP1:Hid (PL w1.drew F n a):=(H.out.later HB.out.1).later (below_drew _);have c9:w1.drew.cell? ⟨F.Q,9,none⟩=some (qp F.lb):=hP1.out.c 9)
 go_region_with (first | (go_at_call 90;refine (reservation_is _ _ _ (by omega) _).mono ?_;rintro e w' ⟨rfl,rfl⟩) | (go_at_call 89;refine (L.reserve_at hP1.out.rm hP1.out.ok.lok hn HU.out ((x.2.length:Int)+1)).mono ?_;rw[HR.out.1];rintro e w2 ⟨rfl,h1,h2⟩;have H2:Hid (L.LAt w2 F.lb F.lm (n+1) (L.rsvS a.lg x.1 ((x.2.length:Int)+1))∧Kept (L.LF F.lb F.lm) w1.drew w2):=⟨h1,h2⟩;clear h1 h2))
 all_goals (
  clear c9
  have hst2:Hid (w2.heap[F.Q]?=some (.cells (lcells F a) 115 (0,0))):=(H2.out.2.block _ (hP1.out.lt (.inl rfl)) (by rintro (e | e);exact N.out.Ql e;exact N.out.Qn e)).trans hP1.out.st
  have hQ12:Hid (QAt 211 w2 F.q1 F.v1 (x.1 :: wt r) (a.next-1)):=by
   have:=hP1.out.l1.far H2.out.2 (by rintro (e | e);exact N.out.q1l e;exact N.out.q1n e) (fun g hg=>by rintro (e | e);exact (N.out.v1 g hg).2.2.2.2.1 e;exact (N.out.v1 g hg).2.2.2.2.2 e)
   rw[HW.out] at this
   exact this
  have hQ22:Hid (QAt 211 w2 F.q2 F.v2 (it a.I) a.got):=hP1.out.l2.far H2.out.2 (by rintro (e | e);exact N.out.q2l e;exact N.out.q2n e) (fun g hg=>by rintro (e | e);exact (N.out.v2 g hg).2.2.2.2.1 e;exact (N.out.v2 g hg).2.2.2.2.2 e)
  have d6:w2.cell? ⟨F.Q,6,none⟩=some (qp F.q1):=cell_of_row _ F.Q 6 _ 115 (0,0) hst2.out
  go_wp2_with fail
  clear d6
  refine (take_some hQ12.out (by rw[HW.out] at hwl;simp[wt] at hwl ⊢;omega)).mono ?_
  rintro e w3 ⟨rfl,v1',h1,h2,h3⟩
  have H3:Hid (QAt 211 w3 F.q1 v1' (wt r) (a.next-1)∧blk v1'=blk F.v1∧Kept (fun b=>b=F.q1∨blk F.v1=some b) w2 w3):=⟨h1,h2,h3⟩
  clear h1 h2 h3
  have hQlt:Hid (F.Q<w2.heap.size):=(Array.getElem?_eq_some_iff.1 hst2.out).1
  have hst3:Hid (w3.heap[F.Q]?=some (.cells (lcells F a) 115 (0,0))):=(H3.out.2.2.block _ hQlt.out (by rintro (e | e);exact N.out.Qq1 e;exact (N.out.v1 _ e).1 rfl)).trans hst2.out
  have hQ23:Hid (QAt 211 w3 F.q2 F.v2 (it a.I) a.got):=hQ22.out.far H3.out.2.2 (by rintro (e | e);exact N.out.q12 e.symm;exact (N.out.v1 _ e).2.2.1 rfl) (fun g hg=>by rintro (e | e);exact (N.out.v2 g hg).2.1 e;exact N.out.v12 g e hg)
  have d7:w3.cell? ⟨F.Q,7,none⟩=some (qp F.q2):=cell_of_row _ F.Q 7 _ 115 (0,0) hst3.out
  go_wp2_with fail
  clear d7
  refine (put_high hQ23.out x.1 (by omega) (by omega)).mono ?_
  rintro e w4 ⟨rfl,v2',h1,h2,h3⟩
  have H4:Hid (QAt 211 w4 F.q2 v2' (it a.I++[x.1]) x.1∧Kept (fun b=>b=F.q2∨blk F.v2=some b) w3 w4∧(blk v2'=blk F.v2∨∃g,blk v2'=some g∧w3.heap.size≤g)):=⟨h1,h2,h3⟩
  clear h1 h2 h3
  have hs1:Hid (w.heap.size≤w1.drew.heap.size∧w1.drew.heap.size≤w3.heap.size):=⟨(below_then HB.out.1 (below_drew w1)).size,Nat.le_trans H2.out.2.size H3.out.2.2.size⟩
  have HV:Hid (blk v2'=blk F.v2∨∃g,blk v2'=some g∧w1.drew.heap.size≤g):=by
   rcases H4.out.2.2 with e | ⟨g,e,hg⟩
   ·exact .inl e
   ·exact .inr ⟨g,e,Nat.le_trans hs1.out.2 hg⟩
  have HPL:Hid (PL w4 { F with v1:=v1',v2:=v2' } (n+1) { a with W:=r,I:=a.I++[(x.1,x.2,(x.2.length:Int)+1)],got:=x.1 }∧Kept F.has w1.drew w4):=by
   have hr:=H2.out.1
   rw[HR.out.2] at hr
   exact hP1.out.entered N.out HW.out H2.out.2 hr H3.out.1 H3.out.2.1 H3.out.2.2 H4.out.1 H4.out.2.1 HV.out HO.out
  have hfr4:Hid (Frm w4 (.slice p x.2.length c) x.2):=(HB.out.2.later (below_drew w1)).far HPL.out.2 (fun g _ hg=>hP1.out.noInts hg)
  clear hst2 hst3 hQ12 hQ22 hQ23
  go_wp2_with fail
  refine (cloneI_at hfr4.out (by omega)).mono ?_
  rintro e w6 ⟨q',d',rfl,hm6⟩
  have H6:Hid (B.Made w4 w6 q' x.2.length d' x.2):=hm6
  clear hm6
  go_wp2
  go_ret3
  refine⟨q',d',v1',v2',rfl,B.own_mono H6.out.own (Nat.le_trans hs1.out.1 HPL.out.2.size),HPL.out.1.later H6.out.below,H3.out.2.1,?_,(((Kept.of_below _ HB.out.1).trans (Kept.of_below (fun _=>False) (below_drew w1)) (fun _ _ e=>e.elim)).trans HPL.out.2 (fun _ _ e=>e)).trans (Kept.of_below (fun _=>False) H6.out.below) (fun _ _ e=>e.elim)⟩
  rcases HV.out with e | ⟨g,e,hg⟩
  ·exact .inl e
  ·exact .inr ⟨g,e,Nat.le_trans hs1.out.1 hg⟩)
end
end Go.Proofs.YtcdjepkhdjpjcaaGreatDoor.E
