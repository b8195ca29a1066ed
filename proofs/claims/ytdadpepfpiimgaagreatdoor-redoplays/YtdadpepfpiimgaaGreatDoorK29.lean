import Derived.Test.YtdadpepfpiimgaaGreatDoorK28
set_option maxHeartbeats 20000000
set_option maxRecDepth 100000
namespace Go.Proofs.YtdadpepfpiimgaaGreatDoor.Q
open Go.Proofs.Tryz
open Go.RowKit
theorem wcl_od {k m:Nat}(hk:k<2)(hm:m=1-k)(a:Hf)(o:Ot)(vg vw v:Value):(wcl k a o vg vw).set (2+m) v=wcl k a { o with d:=v } vg vw:=by
 rcases (by omega:k=0∨k=1) with rfl | rfl <;> (subst hm;rfl)
theorem wcl_or {k m:Nat}(hk:k<2)(hm:m=1-k)(a:Hf)(o:Ot)(vg vw v:Value):(wcl k a o vg vw).set m v=wcl k a { o with r:=v } vg vw:=by
 rcases (by omega:k=0∨k=1) with rfl | rfl <;> (subst hm;rfl)
theorem wcl_ox {k m:Nat}(hk:k<2)(hm:m=1-k)(a:Hf)(o:Ot)(vg vw v:Value):(wcl k a o vg vw).set (4+m) v=wcl k a { o with x:=v } vg vw:=by
 rcases (by omega:k=0∨k=1) with rfl | rfl <;> (subst hm;rfl)
theorem wcl_flip {k m:Nat}(hk:k<2)(hm:m=1-k)(a a':Hf)(vg vw:Value):wcl k a ⟨qp a'.P,qp a'.d,qp a'.Q⟩ vg vw=wcl m a' ⟨qp a.P,qp a.d,qp a.Q⟩ vg vw:=by
 rcases (by omega:k=0∨k=1) with rfl | rfl <;> (subst hm;rfl)
section
variable {w:World} {W k m:Nat} {a:Hf} {o:Ot} {vg vw:Value}
theorem wo_r (h:LAt 84 w W (wcl k a o vg vw))(hk:k<2)(hm:m=1-k):w.cell? ⟨W,m,none⟩=some o.r:=by
 rcases (by omega:k=0∨k=1) with rfl | rfl <;> subst hm
 ·rw[LAt.cell h 1];rfl
 ·rw[LAt.cell h 0];rfl
theorem wo_d (h:LAt 84 w W (wcl k a o vg vw))(hk:k<2)(hm:m=1-k):w.cell? ⟨W,2+m,none⟩=some o.d:=by
 rcases (by omega:k=0∨k=1) with rfl | rfl <;> subst hm
 ·rw[LAt.cell h 3];rfl
 ·rw[LAt.cell h 2];rfl
theorem wo_x (h:LAt 84 w W (wcl k a o vg vw))(hk:k<2)(hm:m=1-k):w.cell? ⟨W,4+m,none⟩=some o.x:=by
 rcases (by omega:k=0∨k=1) with rfl | rfl <;> subst hm
 ·rw[LAt.cell h 5];rfl
 ·rw[LAt.cell h 4];rfl
end
abbrev Hf.kds (n:Nat)(a:Hf):List Kd:=[kr a.P (some a.d) a.x,kd a.d n a.D,ks a.Q (some a.e) a.x,ke a.e n a.D]
abbrev Hf.ot (a:Hf):Ot:=⟨qp a.P,qp a.d,qp a.Q⟩
def P2 (w0 w:World)(W k n:Nat)(c:Sup)(b:Nat):Prop:=∃a':Hf,a'.x.Ok n∧a'.x.c=c∧a'.D.ws.length≤b∧Pl w0 w W k n c a'.ot b (a'.kds n)
section
variable {w0 w:World} {A B C D E F G H I J K X1:Kd} {Y:List Kd}
theorem Fz.onpick (h:Fz w0 w (A :: B :: C :: D :: K :: E :: F :: G :: H :: I :: J :: X1 :: Y)):Fz w0 w (E :: F :: G :: H :: I :: J :: X1 :: [B,D,A,C]):=by
 refine h.pick (fun i=>match i with | 7=>1 | 8=>3 | 9=>0 | 10=>2 | i=>i+5) (fun i hi=>?_) (fun i j hi hj e=>?_)
 ·match i,hi with
  | 0,_ | 1,_ | 2,_ | 3,_ | 4,_ | 5,_ | 6,_ | 7,_ | 8,_ | 9,_ | 10,_=>exact⟨by simp,rfl⟩
 ·have hi:i<11:=hi
  have hj:j<11:=hj
  match i,j,hi,hj with
  | 0,j,_,hj | 1,j,_,hj | 2,j,_,hj | 3,j,_,hj | 4,j,_,hj | 5,j,_,hj | 6,j,_,hj | 7,j,_,hj | 8,j,_,hj | 9,j,_,hj | 10,j,_,hj =>
   match j,hj with
   | 0,_ | 1,_ | 2,_ | 3,_ | 4,_ | 5,_ | 6,_ | 7,_ | 8,_ | 9,_ | 10,_=>first | rfl | (exfalso;simp at e)
theorem Fz.flippick (h:Fz w0 w (E :: F :: G :: H :: I :: J :: K :: [A,B,C,D])):Fz w0 w (E :: A :: B :: C :: D :: J :: K :: [F,G,H,I]):=by
 refine h.pick (fun i=>match i with | 0=>0 | 1=>7 | 2=>8 | 3=>9 | 4=>10 | 5=>5 | 6=>6 | i=>i-6) (fun i hi=>?_) (fun i j hi hj e=>?_)
 ·match i,hi with
  | 0,_ | 1,_ | 2,_ | 3,_ | 4,_ | 5,_ | 6,_ | 7,_ | 8,_ | 9,_ | 10,_=>exact⟨by simp,rfl⟩
 ·have hi:i<11:=hi
  have hj:j<11:=hj
  match i,j,hi,hj with
  | 0,j,_,hj | 1,j,_,hj | 2,j,_,hj | 3,j,_,hj | 4,j,_,hj | 5,j,_,hj | 6,j,_,hj | 7,j,_,hj | 8,j,_,hj | 9,j,_,hj | 10,j,_,hj =>
   match j,hj with
   | 0,_ | 1,_ | 2,_ | 3,_ | 4,_ | 5,_ | 6,_ | 7,_ | 8,_ | 9,_ | 10,_=>first | rfl | (exfalso;simp at e)
theorem P2.flip {W k n b m:Nat}{c:Sup}(h:P2 w0 w W k n c b)(hk:k<2)(hm:m=1-k):P2 w0 w W m n c b:=by
 obtain ⟨a',ok',hc',hw',a,vg,vw,us,ux,fs,h,ok,hc,hws,hus⟩:=h
 refine⟨a,ok,hc,hws,a',vg,vw,us,ux,fs,?_,ok',hc',hw',hus⟩
 have:=Fz.flippick h
 rwa [wcl_flip hk hm] at this
end
section
variable {w0 w:World} {W k n b:Nat} {c:Sup} {o:Ot} {Y:List Kd} {a:Hf} {vg vw:Value} {us ux:List Value} {fs:List (List Im)}
theorem none_at (ht:Tab w0)(h:Fz w0 w (XP W k n a o vg vw us ux fs Y))(ok:a.x.Ok n)(hk:k<2):Calls prog 62 #[qp W,.int .i64 k] w fun e w'=>e=.returned (.bool true)∧Fz w0 w' (XP W k n a o vg vw us ux fs Y):=by
 have OK:Hid (a.x.Ok n):=ok
 have H1:Hid (Fz w0 w.drew (XP W k n a o vg vw us ux fs Y)):=h.later (below_drawn 1)
 have k0:(0:Int)≤(k:Int):=by omega
 have k1:(k:Int)<2:=by omega
 obtain ⟨er,her⟩:∃er,(if a.x.st=6 then (190:Int) else 1)=er:=⟨_,rfl⟩
 have HER:Hid ((if a.x.st=6 then (190:Int) else 1)=er):=her
 clear h ok her
 go_enter func62,ntmps62
 go_wp2_with fail
 refine wp_region_noPanic ?_
 refine wp_region_held_drew (S:=fun Z=>LAt 84 Z W (wcl k a o vg vw)) (by kernel_rfl) (H1.out.atb (i:=0) rfl).1 (fun hHeld=>?_)
 generalize w.drew=w1 at *
 refine tk 0 hHeld ?_
 refine tk 1 hHeld ?_
 refine tk 2 hHeld ?_
 refine tk 3 hHeld ?_
 refine tk 4 hHeld ?_
 refine tkl 5 hHeld (fun _ s=>wc_r s hk) ?_
 refine tk 7 hHeld ?_
 refine tk 8 hHeld ?_
 refine tk 9 hHeld ?_
 refine tk 10 hHeld ?_
 refine tk 11 hHeld ?_
 refine tkl 12 hHeld (fun _ s=>wc_x s hk) ?_
 refine tkr 6 fun Kc hKc=>?_
 go_simp
 refine (on_at (i:=1) H1.out rfl none).mono ?_
 rintro e w2 ⟨R,rfl,h2⟩
 have H2:Hid (Fz w0 w2 (kr R none a.x :: XP W k n a o vg vw us ux fs Y)):=h2
 clear h2 H1
 refine hKc.out _ _ (H2.out.atb (i:=1) rfl).1 (fun hHeld=>?_)
 clear hKc Kc
 refine tkr 13 fun Kc hKc=>?_
 go_simp
 refine (ron_at (i:=4) H2.out rfl none).mono ?_
 rintro e w3 ⟨R',rfl,h3⟩
 have H3:Hid (Fz w0 w3 (ks R' none a.x :: kr R none a.x :: XP W k n a o vg vw us ux fs Y)):=h3
 clear h3 H2
 refine hKc.out _ _ (H3.out.atb (i:=2) rfl).1 (fun hHeld=>?_)
 clear hKc Kc
 refine tk 14 hHeld ?_
 refine tk 15 hHeld ?_
 clear hHeld
 refine wpAnyH_done (by kernel_rfl) (NoPanic.normal ?_) _
 clear k0 k1
 go_wp2_with fail
 refine (step_none ht (i:=1) H3.out rfl OK.out).mono ?_
 rintro e w4 ⟨rfl,h4⟩
 rw[HER.out]
 obtain ⟨wa7,wb7,hab,hsb,hk7⟩:=Fz.keeprow (r:=⟨0,0,zv,0,0⟩) h4 (zs_len 32)
 obtain ⟨b7,hb7⟩:∃B,w4.heap.size=B:=⟨_,rfl⟩
 rw[hb7] at hab hsb hk7
 have HA7:Hid (_):=hab
 have HS7:Hid (_):=hsb
 have H4:Hid (Fz w0 wb7 (kb b7 42 (rowc ⟨0,0,zv,0,0⟩) :: ks R' none a.x :: kr R none a.x :: XP W k n a o vg vw us ux fs Y)):=hk7
 clear hab hsb hk7 hb7 h4 H3
 go_wp2_with ((with_reducible refine at_ops ?_);(first | (refine wpList_alloc_is (by rfl) 42 rfl HA7.out ?_) | (refine wpList_store_is (by rfl) 42 rfl rfl rfl HS7.out ?_));simp only[Act.put,zA,zB,zC])
 clear HA7 HS7
 refine (rstep_none (i:=1) H4.out rfl).mono ?_
 rintro e w5 ⟨rfl,h5⟩
 rw[HER.out]
 obtain ⟨wa9,wb9,hab,hsb,hk9⟩:=Fz.keeprow (r:=⟨0,0,zv,0,0⟩) h5 (zs_len 32)
 obtain ⟨b9,hb9⟩:∃B,w5.heap.size=B:=⟨_,rfl⟩
 rw[hb9] at hab hsb hk9
 have HA9:Hid (_):=hab
 have HS9:Hid (_):=hsb
 have H5:Hid (Fz w0 wb9.drew (kb b9 42 (rowc ⟨0,0,zv,0,0⟩) :: kb b7 42 (rowc ⟨0,0,zv,0,0⟩) :: ks R' none a.x :: kr R none a.x :: XP W k n a o vg vw us ux fs Y)):=Fz.later (X:=kb b9 42 (rowc ⟨0,0,zv,0,0⟩) :: kb b7 42 (rowc ⟨0,0,zv,0,0⟩) :: ks R' none a.x :: kr R none a.x :: XP W k n a o vg vw us ux fs Y) hk9 (below_drawn 1)
 clear hab hsb hk9 hb9 h5 H4 HER
 go_wp2_with ((with_reducible refine at_ops ?_);(first | (refine wpList_alloc_is (by rfl) 42 rfl HA9.out ?_) | (refine wpList_store_is (by rfl) 42 rfl rfl rfl HS9.out ?_));simp only[Act.put,zA,zB,zC])
 clear HA9 HS9
 refine wp_region_noPanic ?_
 refine wp_region_held_drew (S:=fun Z=>Fz w0 Z (kb b9 42 (rowc ⟨0,0,zv,0,0⟩) :: kb b7 42 (rowc ⟨0,0,zv,0,0⟩) :: ks R' none a.x :: kr R none a.x :: XP W k n a o vg vw us ux fs Y)) (by kernel_rfl) H5.out (fun hHeld=>?_)
 generalize wb9.drew=w6 at *
 clear H5
 refine tk 0 hHeld ?_
 refine tk 1 hHeld ?_
 refine tk 2 hHeld ?_
 refine tk 3 hHeld ?_
 refine tkm 4 hHeld (fun _ s=>loadRow (zs_len 32) (s.atb (i:=1) rfl).1) ?_
 refine tkm 5 hHeld (fun _ s=>loadRow (zs_len 32) (s.atb (i:=0) rfl).1) ?_
 refine tkr 6 fun Kc hKc=>?_
 go_simp
 refine (sameRow_eq ⟨0,0,zv,0,0⟩ (zs_len 32) _).mono ?_
 rintro e w8 ⟨rfl,hb⟩
 have hH:=hHeld.later hb
 clear hb
 refine hKc.out _ _ hH (fun hHeld=>?_)
 clear hKc Kc
 refine tk 7 hHeld ?_
 refine tk 8 hHeld ?_
 refine tk 9 hHeld ?_
 refine tk 11 hHeld ?_
 refine tk 12 hHeld ?_
 refine tk 13 hHeld ?_
 refine tkl 14 hHeld (fun _ s=>(s.rv (i:=2) rfl).c6) ?_
 refine tkr 10 fun Kc hKc=>?_
 go_simp
 refine (state_at (i:=3) hHeld rfl).mono ?_
 rintro e' w'' ⟨rfl,hw'⟩
 rw[hw']
 clear hw' w''
 refine hKc.out _ _ hHeld (fun hHeld=>?_)
 clear hKc Kc
 refine tk 15 hHeld ?_
 refine tk 16 hHeld ?_
 refine tk 17 hHeld ?_
 have HZ:Hid (Fz w0 _ (kb b9 42 (rowc ⟨0,0,zv,0,0⟩) :: kb b7 42 (rowc ⟨0,0,zv,0,0⟩) :: ks R' none a.x :: kr R none a.x :: XP W k n a o vg vw us ux fs Y)):=hHeld
 clear hHeld
 refine wpAnyH_done (by kernel_rfl) (NoPanic.normal ?_) _
 have HY:=HZ.out.pop.pop.pop.pop
 have HY2:Hid (Fz w0 _ (XP W k n a o vg vw us ux fs Y)):=HY
 clear HY HZ
 go_wp2
 go_ret
 exact⟨rfl,HY2.out⟩
theorem plays_nodisk (ht:Tab w0)(h:Pl w0 w W k n c o b Y)(hk:k<2)(hb:b≤200){v:OpV}(hv:v.wh % 2=(k:Int))(hd:v.kd=3):Calls prog 25 #[qp W,.agg (ocells v).toArray] w fun e w'=>e=.returned (.bool true)∧Pl w0 w' W k n c o (b+1) Y:=by
 obtain ⟨a,vg,vw,us,ux,fs,h0,hok,hcc,hws,hus⟩:=h
 have OK:Hid (a.x.Ok n):=hok
 have HCC:Hid (a.x.c=c):=hcc
 have HWS:Hid (a.D.ws.length≤b):=hws
 have HUS:Hid (us.length≤2*b):=hus
 have h1:=h0.newa (ocells v) 87
 obtain ⟨B,hB⟩:∃B,w.heap.size=B:=⟨_,rfl⟩
 rw[hB] at h1
 obtain ⟨w1,hw1⟩:∃Z,w.alloc (.cells (ocells v).toArray 87)=Z:=⟨_,rfl⟩
 rw[hw1] at h1
 have H1:Hid (Fz w0 w1 (kb B 87 (ocells v) :: XP W k n a o vg vw us ux fs Y)):=h1
 have o0:=oc0 (h1.atb (i:=0) rfl).1
 have o1:=oc1 (h1.atb (i:=0) rfl).1
 have t1:-2<v.wh.tmod 2∧v.wh.tmod 2<2:=⟨Int.lt_tmod_of_pos _ (by omega),Int.tmod_lt_of_pos _ (by omega)⟩
 have t2:(v.wh.tmod 2+2).tmod 2=(k:Int):=by rw[tmod_fix _ _ (by omega)];exact hv
 have t3:IntKind.i64.wrap (v.wh.tmod 2)=v.wh.tmod 2:=by rw[IntKind.wrap_i64];omega
 have t4:IntKind.i64.wrap (v.wh.tmod 2+2)=v.wh.tmod 2+2:=by rw[IntKind.wrap_i64];omega
 have t5:IntKind.i64.wrap (k:Int)=(k:Int):=by rw[IntKind.wrap_i64];omega
 have k0:(0:Int)≤(k:Int):=by omega
 have k1:(k:Int)<2:=by omega
 clear h0 hok hcc hws hus h1
 rw[hd] at o0
 have H2:Hid (Fz w0 w1 (XP W k n a o vg vw us ux fs Y)):=H1.out.pop
 clear H1
 go_enter func25,ntmps25
 go_wp2_with fail
 refine (none_at ht H2.out OK.out hk).mono ?_
 rintro e w2 ⟨rfl,h3⟩
 have H3:Hid (Fz w0 w2 (XP W k n a o vg vw us ux fs Y)):=h3
 clear h3 H2
 go_wp2_with fail
 refine (tells_at H3.out OK.out hk (Nat.le_trans (by have:=HWS.out;omega) (show b+1≤100000 by omega)) (by have:=HUS.out;omega)).mono ?_
 rintro e w8 ⟨rfl,vg9,vw9,us9,ux9,fs9,hl9,h9⟩
 have HZ:Hid (Pl w0 w8 W k n c o (b+1) Y):=⟨_,_,_,_,_,_,h9,OK.out,HCC.out,(by have:=HWS.out;omega),by have:=HUS.out;omega⟩
 clear h9
 go_wp2
 go_ret
 exact⟨rfl,HZ.out⟩
end
section
variable {w0 w:World} {W k n b:Nat} {c:Sup} {o:Ot} {Y:List Kd}
theorem plays_on (_ht:Tab w0)(h:Pl w0 w W k n c o b Y)(hk:k<2)(hb:b≤200){v:OpV}(hv:v.wh % 2=(k:Int))(hd:v.kd=2):Calls prog 25 #[qp W,.agg (ocells v).toArray] w fun e w'=>e=.returned (.bool true)∧P2 w0 w' W k n c (b+1):=by
 obtain ⟨a,vg,vw,us,ux,fs,h0,hok,hcc,hws,hus⟩:=h
 have OK:Hid (a.x.Ok n):=hok
 have HCC:Hid (a.x.c=c):=hcc
 have HWS:Hid (a.D.ws.length≤b):=hws
 have HUS:Hid (us.length≤2*b):=hus
 have h1:=h0.newa (ocells v) 87
 obtain ⟨B,hB⟩:∃B,w.heap.size=B:=⟨_,rfl⟩
 rw[hB] at h1
 obtain ⟨w1,hw1⟩:∃Z,w.alloc (.cells (ocells v).toArray 87)=Z:=⟨_,rfl⟩
 rw[hw1] at h1
 have H1:Hid (Fz w0 w1 (kb B 87 (ocells v) :: XP W k n a o vg vw us ux fs Y)):=h1
 have o0:=oc0 (h1.atb (i:=0) rfl).1
 have o1:=oc1 (h1.atb (i:=0) rfl).1
 have t1:-2<v.wh.tmod 2∧v.wh.tmod 2<2:=⟨Int.lt_tmod_of_pos _ (by omega),Int.tmod_lt_of_pos _ (by omega)⟩
 have t2:(v.wh.tmod 2+2).tmod 2=(k:Int):=by rw[tmod_fix _ _ (by omega)];exact hv
 have t3:IntKind.i64.wrap (v.wh.tmod 2)=v.wh.tmod 2:=by rw[IntKind.wrap_i64];omega
 have t4:IntKind.i64.wrap (v.wh.tmod 2+2)=v.wh.tmod 2+2:=by rw[IntKind.wrap_i64];omega
 have t5:IntKind.i64.wrap (k:Int)=(k:Int):=by rw[IntKind.wrap_i64];omega
 have k0:(0:Int)≤(k:Int):=by omega
 have k1:(k:Int)<2:=by omega
 clear h0 hok hcc hws hus h1
 rw[hd] at o0
 obtain ⟨m,hm⟩:∃m,1-k=m:=⟨_,rfl⟩
 have HMK:Hid (m=1-k):=hm.symm
 have tm:IntKind.i64.wrap (1-(k:Int))=(m:Int):=by rw[IntKind.wrap_i64];omega
 have m0:(0:Int)≤(m:Int):=by omega
 have m1:(m:Int)<2:=by omega
 have H1d:Hid (Fz w0 w1.drew (kb B 87 (ocells v) :: XP W k n a o vg vw us ux fs Y)):=H1.out.later (below_drawn 1)
 clear H1 hm
 go_enter func25,ntmps25
 go_wp2_with fail
 refine wp_region_noPanic ?_
 refine wp_region_held_drew (S:=fun Z=>LAt 84 Z W (wcl k a o vg vw)∧Rdv a.Q (some a.e) a.x Z) (by kernel_rfl) ⟨(H1d.out.atb (i:=1) rfl).1,H1d.out.rv (i:=4) rfl⟩ (fun hHeld=>?_)
 generalize w1.drew=w1' at *
 refine tk 0 hHeld ?_
 refine tk 1 hHeld ?_
 refine tk 2 hHeld ?_
 refine tk 3 hHeld ?_
 refine tk 4 hHeld ?_
 refine tkl 5 hHeld (fun _ s=>wc_d s.1 hk) ?_
 refine tk 7 hHeld ?_
 refine tk 8 hHeld ?_
 refine tk 9 hHeld ?_
 refine tk 10 hHeld ?_
 refine tk 11 hHeld ?_
 refine tkl 12 hHeld (fun _ s=>wc_x s.1 hk) ?_
 refine tk 13 hHeld ?_
 refine tk 14 hHeld ?_
 refine tkl 15 hHeld (fun _ s=>s.2.c0) ?_
 refine tkr 6 fun Kc hKc=>?_
 go_simp
 refine (p_copy (j:=3) H1d.out rfl (by have:=HWS.out;omega)).mono ?_
 rintro e w2 ⟨d',rfl,h2⟩
 have H2:Hid (Fz w0 w2 (kd d' n a.D :: kb B 87 (ocells v) :: XP W k n a o vg vw us ux fs Y)):=h2
 clear h2 H1d
 refine hKc.out _ _ ⟨(H2.out.atb (i:=2) rfl).1,H2.out.rv (i:=5) rfl⟩ (fun hHeld=>?_)
 clear hKc Kc
 refine tkr 16 fun Kc hKc=>?_
 go_simp
 refine (r_copy (j:=6) H2.out rfl (by have:=HWS.out;omega)).mono ?_
 rintro e w3 ⟨e',rfl,h3⟩
 have H3:Hid (Fz w0 w3 (ke e' n a.D :: kd d' n a.D :: kb B 87 (ocells v) :: XP W k n a o vg vw us ux fs Y)):=h3
 clear h3 H2
 refine hKc.out _ _ ⟨(H3.out.atb (i:=3) rfl).1,H3.out.rv (i:=6) rfl⟩ (fun hHeld=>?_)
 clear hKc Kc
 refine tk 17 hHeld ?_
 refine tk 18 hHeld ?_
 clear hHeld
 refine wpAnyH_done (by kernel_rfl) (NoPanic.normal ?_) _
 have H4:Hid (Fz w0 w3.drew (ke e' n a.D :: kd d' n a.D :: kb B 87 (ocells v) :: XP W k n a o vg vw us ux fs Y)):=H3.out.later (below_drawn 1)
 clear H3
 go_wp2_with fail
 refine wp_region_noPanic ?_
 refine wp_region_held_drew (S:=fun Z=>Z.cell? ⟨W,k,none⟩=some (qp a.P)∧Z.cell? ⟨W,4+k,none⟩=some (qp a.Q)) (by kernel_rfl) ⟨wc_r (H4.out.atb (i:=3) rfl).1 hk,wc_x (H4.out.atb (i:=3) rfl).1 hk⟩ (fun hHeld=>?_)
 generalize w3.drew=w4 at *
 refine tk 0 hHeld ?_
 refine tk 1 hHeld ?_
 refine tk 2 hHeld ?_
 refine tk 3 hHeld ?_
 refine tk 4 hHeld ?_
 refine tk 5 hHeld ?_
 refine tk 6 hHeld ?_
 refine tk 7 hHeld ?_
 refine tk 8 hHeld ?_
 refine tk 9 hHeld ?_
 refine tk 10 hHeld ?_
 refine tk 11 hHeld ?_
 refine tk 12 hHeld ?_
 refine tk 13 hHeld ?_
 refine tk 14 hHeld ?_
 refine tkl 15 hHeld (fun _ s=>s.1) ?_
 refine tk 16 hHeld ?_
 refine tk 18 hHeld ?_
 refine tk 19 hHeld ?_
 refine tk 20 hHeld ?_
 refine tk 21 hHeld ?_
 refine tk 22 hHeld ?_
 refine tkl 23 hHeld (fun _ s=>s.2) ?_
 refine tk 24 hHeld ?_
 refine tk 26 hHeld ?_
 refine tk 27 hHeld ?_
 refine tk 30 hHeld ?_
 refine tk 31 hHeld ?_
 refine tk 34 hHeld ?_
 refine tk 35 hHeld ?_
 refine tkr 17 fun Kc hKc=>?_
 go_simp
 refine (on_at (i:=4) H4.out rfl (some d')).mono ?_
 rintro e wx1 ⟨R,rfl,hx⟩
 have HD1:Hid (Fz w0 wx1 (kr R (some d') a.x :: ke e' n a.D :: kd d' n a.D :: kb B 87 (ocells v) :: kb W 84 (wcl k a o vg vw) :: kr a.P (some a.d) a.x :: kd a.d n a.D :: ks a.Q (some a.e) a.x :: ke a.e n a.D :: kl vg us fs :: kl vw ux fs :: Y)):=hx
 clear hx H4
 refine hKc.out _ _ (⟨wc_r (HD1.out.atb (i:=4) rfl).1 hk,wc_x (HD1.out.atb (i:=4) rfl).1 hk⟩) (fun hHeld=>?_)
 clear hKc Kc
 refine tkr 25 fun Kc hKc=>?_
 go_simp
 refine (ron_at (i:=7) HD1.out rfl (some e')).mono ?_
 rintro e wx2 ⟨R',rfl,hx⟩
 have HD2:Hid (Fz w0 wx2 (ks R' (some e') a.x :: kr R (some d') a.x :: ke e' n a.D :: kd d' n a.D :: kb B 87 (ocells v) :: kb W 84 (wcl k a o vg vw) :: kr a.P (some a.d) a.x :: kd a.d n a.D :: ks a.Q (some a.e) a.x :: ke a.e n a.D :: kl vg us fs :: kl vw ux fs :: Y)):=hx
 clear hx HD1
 refine hKc.out _ _ (⟨wc_r (HD2.out.atb (i:=5) rfl).1 hk,wc_x (HD2.out.atb (i:=5) rfl).1 hk⟩) (fun hHeld=>?_)
 clear hKc Kc
 refine tk 28 hHeld ?_
 refine tkr 29 fun Kc hKc=>?_
 have hla:=(HD2.out.atb (i:=5) rfl).1
 have z0:=wo_d hla hk HMK.out
 have z1:=wc_f hla (2+m)
 have hx:=Fz.cell (i:=5) HD2.out rfl (2+m) (qp d')
 rw[wcl_od hk HMK.out] at hx
 have HD3:Hid (Fz w0 (wx2.setCell ⟨W,2+m,none⟩ (qp d')) (ks R' (some e') a.x :: kr R (some d') a.x :: ke e' n a.D :: kd d' n a.D :: kb B 87 (ocells v) :: kb W 84 (wcl k a { o with d:=qp d' } vg vw) :: kr a.P (some a.d) a.x :: kd a.d n a.D :: ks a.Q (some a.e) a.x :: ke a.e n a.D :: kl vg us fs :: kl vw ux fs :: Y)):=hx
 clear hx HD2 hla
 go_simp
 clear z0 z1
 generalize wx2.setCell ⟨W,2+m,none⟩ (qp d')=wx3 at *
 refine hKc.out _ _ (⟨wc_r (HD3.out.atb (i:=5) rfl).1 hk,wc_x (HD3.out.atb (i:=5) rfl).1 hk⟩) (fun hHeld=>?_)
 clear hKc Kc
 refine tk 32 hHeld ?_
 refine tkr 33 fun Kc hKc=>?_
 have hla:=(HD3.out.atb (i:=5) rfl).1
 have z0:=wo_r hla hk HMK.out
 have z1:=wc_f hla (m)
 have hx:=Fz.cell (i:=5) HD3.out rfl (m) (qp R)
 rw[wcl_or hk HMK.out] at hx
 have HD4:Hid (Fz w0 (wx3.setCell ⟨W,m,none⟩ (qp R)) (ks R' (some e') a.x :: kr R (some d') a.x :: ke e' n a.D :: kd d' n a.D :: kb B 87 (ocells v) :: kb W 84 (wcl k a { o with d:=qp d',r:=qp R } vg vw) :: kr a.P (some a.d) a.x :: kd a.d n a.D :: ks a.Q (some a.e) a.x :: ke a.e n a.D :: kl vg us fs :: kl vw ux fs :: Y)):=hx
 clear hx HD3 hla
 go_simp
 clear z0 z1
 generalize wx3.setCell ⟨W,m,none⟩ (qp R)=wx4 at *
 refine hKc.out _ _ (⟨wc_r (HD4.out.atb (i:=5) rfl).1 hk,wc_x (HD4.out.atb (i:=5) rfl).1 hk⟩) (fun hHeld=>?_)
 clear hKc Kc
 refine tk 36 hHeld ?_
 refine tkr 37 fun Kc hKc=>?_
 have hla:=(HD4.out.atb (i:=5) rfl).1
 have z0:=wo_x hla hk HMK.out
 have z1:=wc_f hla (4+m)
 have hx:=Fz.cell (i:=5) HD4.out rfl (4+m) (qp R')
 rw[wcl_ox hk HMK.out] at hx
 have HD5:Hid (Fz w0 (wx4.setCell ⟨W,4+m,none⟩ (qp R')) (ks R' (some e') a.x :: kr R (some d') a.x :: ke e' n a.D :: kd d' n a.D :: kb B 87 (ocells v) :: kb W 84 (wcl k a ⟨qp R,qp d',qp R'⟩ vg vw) :: kr a.P (some a.d) a.x :: kd a.d n a.D :: ks a.Q (some a.e) a.x :: ke a.e n a.D :: kl vg us fs :: kl vw ux fs :: Y)):=hx
 clear hx HD4 hla
 go_simp
 clear z0 z1
 generalize wx4.setCell ⟨W,4+m,none⟩ (qp R')=wx5 at *
 refine hKc.out _ _ (⟨wc_r (HD5.out.atb (i:=5) rfl).1 hk,wc_x (HD5.out.atb (i:=5) rfl).1 hk⟩) (fun hHeld=>?_)
 clear hKc Kc
 clear hHeld
 refine wpAnyH_done (by kernel_rfl) (NoPanic.normal ?_) _
 have H5:Hid (Fz w0 wx5 (ks R' (some e') a.x :: kr R (some d') a.x :: ke e' n a.D :: kd d' n a.D :: kb B 87 (ocells v) :: kb W 84 (wcl k a ⟨qp R,qp d',qp R'⟩ vg vw) :: kr a.P (some a.d) a.x :: kd a.d n a.D :: ks a.Q (some a.e) a.x :: ke a.e n a.D :: kl vg us fs :: kl vw ux fs :: Y)):=HD5.out
 clear HD5
 generalize wx5=w5 at *
 have c_m:=wo_r (H5.out.atb (i:=5) rfl).1 hk HMK.out
 have H6:Hid (Fz w0 w5 (XP W k n a (Hf.ot ⟨R,d',R',e',a.x,a.D⟩) vg vw us ux fs (Hf.kds n ⟨R,d',R',e',a.x,a.D⟩))):=Fz.onpick H5.out
 clear H5
 go_wp2_with fail
 refine (tells_at H6.out OK.out hk (by have:=HWS.out;omega) (by have:=HUS.out;omega)).mono ?_
 rintro e w8 ⟨rfl,vg9,vw9,us9,ux9,fs9,hl9,h9⟩
 have HZ:Hid (P2 w0 w8 W k n c (b+1)):=⟨⟨R,d',R',e',a.x,a.D⟩,OK.out,HCC.out,(by have:=HWS.out;show a.D.ws.length≤b+1;omega),_,_,_,_,_,_,h9,OK.out,HCC.out,(by have:=HWS.out;omega),by have:=HUS.out;omega⟩
 clear h9
 go_wp2
 go_ret
 exact⟨rfl,HZ.out⟩
end
theorem wcl_ar {k:Nat}(hk:k<2){P d Q e:Nat}{x:Rc}{D:Dd}{o:Ot}{vg vw:Value}{R:Nat}:(wcl k ⟨P,d,Q,e,x,D⟩ o vg vw).set k (qp R)=wcl k ⟨R,d,Q,e,x,D⟩ o vg vw:=by
 rcases (by omega:k=0∨k=1) with rfl | rfl <;> rfl
theorem wcl_ax {k:Nat}(hk:k<2){P d Q e:Nat}{x:Rc}{D:Dd}{o:Ot}{vg vw:Value}{R:Nat}:(wcl k ⟨P,d,Q,e,x,D⟩ o vg vw).set (4+k) (qp R)=wcl k ⟨P,d,R,e,x,D⟩ o vg vw:=by
 rcases (by omega:k=0∨k=1) with rfl | rfl <;> rfl
section
variable {w0 w:World} {A B C D E F G H I J:Kd} {Y:List Kd}
theorem Fz.crpick (h:Fz w0 w (A :: B :: C :: D :: E :: F :: G :: H :: I :: J :: Y)):Fz w0 w (D :: B :: F :: A :: H :: I :: J :: Y):=by
 refine h.pick (fun i=>match i with | 0=>3 | 1=>1 | 2=>5 | 3=>0 | 4=>7 | 5=>8 | 6=>9 | i+7=>i+10) (fun i hi=>?_) (fun i j hi hj e=>?_)
 ·match i,hi with
  | 0,_ | 1,_ | 2,_ | 3,_ | 4,_ | 5,_ | 6,_=>exact⟨by simp,rfl⟩
  | i+7,hi=>exact⟨by simpa using hi,rfl⟩
 ·match i,j with
  | 0,j | 1,j | 2,j | 3,j | 4,j | 5,j | 6,j =>
   match j with
   | 0 | 1 | 2 | 3 | 4 | 5 | 6=>first | rfl | (exfalso;simp at e)
   | j+7=>exfalso;simp at e <;> omega
  | i+7,j =>
   match j with
   | 0 | 1 | 2 | 3 | 4 | 5 | 6=>exfalso;simp at e <;> omega
   | j+7=>have e:i+10=j+10:=e;omega
end
section
variable {w0 w:World} {W k n b:Nat} {c:Sup} {o:Ot} {Y:List Kd}
theorem plays_break (_ht:Tab w0)(h:Pl w0 w W k n c o b Y)(hk:k<2)(hb:b≤200){v:OpV}(hv:v.wh % 2=(k:Int))(hoi:OpIn w0 v)(hd:v.kd=5):Calls prog 25 #[qp W,.agg (ocells v).toArray] w fun e w'=>e=.returned (.bool true)∧Pl w0 w' W k n c o (b+1) Y:=by
 obtain ⟨a,vg,vw,us,ux,fs,h0,hok,hcc,hws,hus⟩:=h
 have OK:Hid (a.x.Ok n):=hok
 have HCC:Hid (a.x.c=c):=hcc
 have HWS:Hid (a.D.ws.length≤b):=hws
 have HUS:Hid (us.length≤2*b):=hus
 have h1:=h0.newa (ocells v) 87
 obtain ⟨B,hB⟩:∃B,w.heap.size=B:=⟨_,rfl⟩
 rw[hB] at h1
 obtain ⟨w1,hw1⟩:∃Z,w.alloc (.cells (ocells v).toArray 87)=Z:=⟨_,rfl⟩
 rw[hw1] at h1
 have H1:Hid (Fz w0 w1 (kb B 87 (ocells v) :: XP W k n a o vg vw us ux fs Y)):=h1
 have o0:=oc0 (h1.atb (i:=0) rfl).1
 have o1:=oc1 (h1.atb (i:=0) rfl).1
 have t1:-2<v.wh.tmod 2∧v.wh.tmod 2<2:=⟨Int.lt_tmod_of_pos _ (by omega),Int.tmod_lt_of_pos _ (by omega)⟩
 have t2:(v.wh.tmod 2+2).tmod 2=(k:Int):=by rw[tmod_fix _ _ (by omega)];exact hv
 have t3:IntKind.i64.wrap (v.wh.tmod 2)=v.wh.tmod 2:=by rw[IntKind.wrap_i64];omega
 have t4:IntKind.i64.wrap (v.wh.tmod 2+2)=v.wh.tmod 2+2:=by rw[IntKind.wrap_i64];omega
 have t5:IntKind.i64.wrap (k:Int)=(k:Int):=by rw[IntKind.wrap_i64];omega
 have k0:(0:Int)≤(k:Int):=by omega
 have k1:(k:Int)<2:=by omega
 clear h0 hok hcc hws hus h1
 rw[hd] at o0
 have HOI:Hid (OpIn w0 v):=hoi
 have HKL:Hid (∀b,v.ka=some b→0<v.kn→b.block<w0.heap.size):=fun b e h0=>by
  obtain ⟨b',o',e',hc⟩:=hoi.kin.cells h0
  rw[e] at e'
  cases e'
  exact World.block_lt_of_cell? w0 _ (hc 0 h0)
 have H1d:Hid (Fz w0 w1.drew (kb B 87 (ocells v) :: XP W k n a o vg vw us ux fs Y)):=H1.out.later (below_drawn 1)
 clear H1 hoi
 go_enter func25,ntmps25
 go_wp2_with fail
 refine wp_region_noPanic ?_
 refine wp_region_held_drew (S:=fun Z=>LAt 84 Z W (wcl k a o vg vw)∧LAt 87 Z B (ocells v)) (by kernel_rfl) ⟨(H1d.out.atb (i:=1) rfl).1,(H1d.out.atb (i:=0) rfl).1⟩ (fun hHeld=>?_)
 generalize w1.drew=w1' at *
 refine tk 0 hHeld ?_
 refine tk 1 hHeld ?_
 refine tk 2 hHeld ?_
 refine tk 3 hHeld ?_
 refine tk 4 hHeld ?_
 refine tkl 5 hHeld (fun _ s=>wc_d s.1 hk) ?_
 refine tk 6 hHeld ?_
 refine tkl 7 hHeld (fun _ s=>oc3 s.2) ?_
 refine tkr 8 fun Kc hKc=>?_
 go_simp
 refine (p_crash (j:=3) H1d.out rfl (by have:=HWS.out;omega) (HOI.out.kin.later H1d.out.below) HOI.out.kl).mono ?_
 rintro e w2 ⟨rfl,h2⟩
 have H2:Hid (Fz w0 w2 (kb B 87 (ocells v) :: kb W 84 (wcl k a o vg vw) :: kr a.P (some a.d) a.x :: kd a.d n (a.D.crs v.K) :: ks a.Q (some a.e) a.x :: ke a.e n a.D :: kl vg us fs :: kl vw ux fs :: Y)):=h2
 clear h2 H1d
 refine hKc.out _ _ ⟨(H2.out.atb (i:=1) rfl).1,(H2.out.atb (i:=0) rfl).1⟩ (fun hHeld=>?_)
 clear hKc Kc
 refine tk 9 hHeld ?_
 refine tk 10 hHeld ?_
 refine tk 11 hHeld ?_
 refine tk 12 hHeld ?_
 refine tk 13 hHeld ?_
 clear hHeld
 refine wpAnyH_done (by kernel_rfl) (NoPanic.normal ?_) _
 have H3:Hid (Fz w0 w2.drew (kb B 87 (ocells v) :: kb W 84 (wcl k a o vg vw) :: kr a.P (some a.d) a.x :: kd a.d n (a.D.crs v.K) :: ks a.Q (some a.e) a.x :: ke a.e n a.D :: kl vg us fs :: kl vw ux fs :: Y)):=H2.out.later (below_drawn 1)
 clear H2
 go_wp2_with fail
 refine wp_region_noPanic ?_
 refine wp_region_held_drew (S:=fun Z=>LAt 84 Z W (wcl k a o vg vw)∧LAt 87 Z B (ocells v)∧Rdv a.Q (some a.e) a.x Z) (by kernel_rfl) ⟨(H3.out.atb (i:=1) rfl).1,(H3.out.atb (i:=0) rfl).1,H3.out.rv (i:=4) rfl⟩ (fun hHeld=>?_)
 generalize w2.drew=w3 at *
 refine tk 0 hHeld ?_
 refine tk 1 hHeld ?_
 refine tk 2 hHeld ?_
 refine tk 3 hHeld ?_
 refine tk 4 hHeld ?_
 refine tk 5 hHeld ?_
 refine tk 6 hHeld ?_
 refine tk 7 hHeld ?_
 refine tk 8 hHeld ?_
 refine tkl 9 hHeld (fun _ s=>wc_x s.1 hk) ?_
 refine tk 10 hHeld ?_
 refine tk 11 hHeld ?_
 refine tkl 12 hHeld (fun _ s=>s.2.2.c0) ?_
 refine tk 13 hHeld ?_
 refine tkl 14 hHeld (fun _ s=>oc3 s.2.1) ?_
 refine tkr 15 fun Kc hKc=>?_
 go_simp
 refine (r_crash (j:=5) H3.out rfl (by have:=HWS.out;omega) (HOI.out.kin.later H3.out.below) HKL.out HOI.out.kl).mono ?_
 rintro e w4 ⟨rfl,h4⟩
 have H4:Hid (Fz w0 w4 (kb B 87 (ocells v) :: XP W k n ⟨a.P,a.d,a.Q,a.e,a.x,a.D.crs v.K⟩ o vg vw us ux fs Y)):=h4
 clear h4 H3
 refine hKc.out _ _ ⟨(H4.out.atb (i:=1) rfl).1,(H4.out.atb (i:=0) rfl).1,H4.out.rv (i:=4) rfl⟩ (fun hHeld=>?_)
 clear hKc Kc
 refine tk 16 hHeld ?_
 refine tk 17 hHeld ?_
 clear hHeld
 refine wpAnyH_done (by kernel_rfl) (NoPanic.normal ?_) _
 have p0:=oc0 (H4.out.atb (i:=0) rfl).1
 rw[hd] at p0
 have H5:Hid (Fz w0 w4 (XP W k n ⟨a.P,a.d,a.Q,a.e,a.x,a.D.crs v.K⟩ o vg vw us ux fs Y)):=H4.out.pop
 clear H4
 go_wp2_with fail
 refine (tells_at H5.out OK.out hk (Nat.le_trans (show (a.D.crs v.K).ws.length≤b+1 from Nat.zero_le _) (show b+1≤100000 by omega)) (by have:=HUS.out;omega)).mono ?_
 rintro e w8 ⟨rfl,vg9,vw9,us9,ux9,fs9,hl9,h9⟩
 have HZ:Hid (Pl w0 w8 W k n c o (b+1) Y):=⟨_,_,_,_,_,_,h9,OK.out,HCC.out,(show (a.D.crs v.K).ws.length≤b+1 from Nat.zero_le _),by have:=HUS.out;omega⟩
 clear h9
 go_wp2
 go_ret
 exact⟨rfl,HZ.out⟩
theorem plays_crash (_ht:Tab w0)(h:Pl w0 w W k n c o b Y)(hk:k<2)(hb:b≤200){v:OpV}(hv:v.wh % 2=(k:Int))(hoi:OpIn w0 v)(hd:v.kd=4):Calls prog 25 #[qp W,.agg (ocells v).toArray] w fun e w'=>e=.returned (.bool true)∧Pl w0 w' W k n c o (b+1) Y:=by
 obtain ⟨a,vg,vw,us,ux,fs,h0,hok,hcc,hws,hus⟩:=h
 have OK:Hid (a.x.Ok n):=hok
 have HCC:Hid (a.x.c=c):=hcc
 have HWS:Hid (a.D.ws.length≤b):=hws
 have HUS:Hid (us.length≤2*b):=hus
 have h1:=h0.newa (ocells v) 87
 obtain ⟨B,hB⟩:∃B,w.heap.size=B:=⟨_,rfl⟩
 rw[hB] at h1
 obtain ⟨w1,hw1⟩:∃Z,w.alloc (.cells (ocells v).toArray 87)=Z:=⟨_,rfl⟩
 rw[hw1] at h1
 have H1:Hid (Fz w0 w1 (kb B 87 (ocells v) :: XP W k n a o vg vw us ux fs Y)):=h1
 have o0:=oc0 (h1.atb (i:=0) rfl).1
 have o1:=oc1 (h1.atb (i:=0) rfl).1
 have t1:-2<v.wh.tmod 2∧v.wh.tmod 2<2:=⟨Int.lt_tmod_of_pos _ (by omega),Int.tmod_lt_of_pos _ (by omega)⟩
 have t2:(v.wh.tmod 2+2).tmod 2=(k:Int):=by rw[tmod_fix _ _ (by omega)];exact hv
 have t3:IntKind.i64.wrap (v.wh.tmod 2)=v.wh.tmod 2:=by rw[IntKind.wrap_i64];omega
 have t4:IntKind.i64.wrap (v.wh.tmod 2+2)=v.wh.tmod 2+2:=by rw[IntKind.wrap_i64];omega
 have t5:IntKind.i64.wrap (k:Int)=(k:Int):=by rw[IntKind.wrap_i64];omega
 have k0:(0:Int)≤(k:Int):=by omega
 have k1:(k:Int)<2:=by omega
 clear h0 hok hcc hws hus h1
 rw[hd] at o0
 have HOI:Hid (OpIn w0 v):=hoi
 have HKL:Hid (∀b,v.ka=some b→0<v.kn→b.block<w0.heap.size):=fun b e h0=>by
  obtain ⟨b',o',e',hc⟩:=hoi.kin.cells h0
  rw[e] at e'
  cases e'
  exact World.block_lt_of_cell? w0 _ (hc 0 h0)
 have H1d:Hid (Fz w0 w1.drew (kb B 87 (ocells v) :: XP W k n a o vg vw us ux fs Y)):=H1.out.later (below_drawn 1)
 clear H1 hoi
 go_enter func25,ntmps25
 go_wp2_with fail
 refine wp_region_noPanic ?_
 refine wp_region_held_drew (S:=fun Z=>LAt 84 Z W (wcl k a o vg vw)∧LAt 87 Z B (ocells v)) (by kernel_rfl) ⟨(H1d.out.atb (i:=1) rfl).1,(H1d.out.atb (i:=0) rfl).1⟩ (fun hHeld=>?_)
 generalize w1.drew=w1' at *
 refine tk 0 hHeld ?_
 refine tk 1 hHeld ?_
 refine tk 2 hHeld ?_
 refine tk 3 hHeld ?_
 refine tk 4 hHeld ?_
 refine tkl 5 hHeld (fun _ s=>wc_d s.1 hk) ?_
 refine tk 6 hHeld ?_
 refine tkl 7 hHeld (fun _ s=>oc3 s.2) ?_
 refine tkr 8 fun Kc hKc=>?_
 go_simp
 refine (p_crash (j:=3) H1d.out rfl (by have:=HWS.out;omega) (HOI.out.kin.later H1d.out.below) HOI.out.kl).mono ?_
 rintro e w2 ⟨rfl,h2⟩
 have H2:Hid (Fz w0 w2 (kb B 87 (ocells v) :: kb W 84 (wcl k a o vg vw) :: kr a.P (some a.d) a.x :: kd a.d n (a.D.crs v.K) :: ks a.Q (some a.e) a.x :: ke a.e n a.D :: kl vg us fs :: kl vw ux fs :: Y)):=h2
 clear h2 H1d
 refine hKc.out _ _ ⟨(H2.out.atb (i:=1) rfl).1,(H2.out.atb (i:=0) rfl).1⟩ (fun hHeld=>?_)
 clear hKc Kc
 refine tk 9 hHeld ?_
 refine tk 10 hHeld ?_
 refine tk 11 hHeld ?_
 refine tk 12 hHeld ?_
 refine tk 13 hHeld ?_
 clear hHeld
 refine wpAnyH_done (by kernel_rfl) (NoPanic.normal ?_) _
 have H3:Hid (Fz w0 w2.drew (kb B 87 (ocells v) :: kb W 84 (wcl k a o vg vw) :: kr a.P (some a.d) a.x :: kd a.d n (a.D.crs v.K) :: ks a.Q (some a.e) a.x :: ke a.e n a.D :: kl vg us fs :: kl vw ux fs :: Y)):=H2.out.later (below_drawn 1)
 clear H2
 go_wp2_with fail
 refine wp_region_noPanic ?_
 refine wp_region_held_drew (S:=fun Z=>LAt 84 Z W (wcl k a o vg vw)∧LAt 87 Z B (ocells v)∧Rdv a.Q (some a.e) a.x Z) (by kernel_rfl) ⟨(H3.out.atb (i:=1) rfl).1,(H3.out.atb (i:=0) rfl).1,H3.out.rv (i:=4) rfl⟩ (fun hHeld=>?_)
 generalize w2.drew=w3 at *
 refine tk 0 hHeld ?_
 refine tk 1 hHeld ?_
 refine tk 2 hHeld ?_
 refine tk 3 hHeld ?_
 refine tk 4 hHeld ?_
 refine tk 5 hHeld ?_
 refine tk 6 hHeld ?_
 refine tk 7 hHeld ?_
 refine tk 8 hHeld ?_
 refine tkl 9 hHeld (fun _ s=>wc_x s.1 hk) ?_
 refine tk 10 hHeld ?_
 refine tk 11 hHeld ?_
 refine tkl 12 hHeld (fun _ s=>s.2.2.c0) ?_
 refine tk 13 hHeld ?_
 refine tkl 14 hHeld (fun _ s=>oc3 s.2.1) ?_
 refine tkr 15 fun Kc hKc=>?_
 go_simp
 refine (r_crash (j:=5) H3.out rfl (by have:=HWS.out;omega) (HOI.out.kin.later H3.out.below) HKL.out HOI.out.kl).mono ?_
 rintro e w4 ⟨rfl,h4⟩
 have H4:Hid (Fz w0 w4 (kb B 87 (ocells v) :: XP W k n ⟨a.P,a.d,a.Q,a.e,a.x,a.D.crs v.K⟩ o vg vw us ux fs Y)):=h4
 clear h4 H3
 refine hKc.out _ _ ⟨(H4.out.atb (i:=1) rfl).1,(H4.out.atb (i:=0) rfl).1,H4.out.rv (i:=4) rfl⟩ (fun hHeld=>?_)
 clear hKc Kc
 refine tk 16 hHeld ?_
 refine tk 17 hHeld ?_
 clear hHeld
 refine wpAnyH_done (by kernel_rfl) (NoPanic.normal ?_) _
 have p0:=oc0 (H4.out.atb (i:=0) rfl).1
 rw[hd] at p0
 have H5:Hid (Fz w0 w4.drew (kb B 87 (ocells v) :: XP W k n ⟨a.P,a.d,a.Q,a.e,a.x,a.D.crs v.K⟩ o vg vw us ux fs Y)):=H4.out.later (below_drawn 1)
 clear H4
 go_wp2_with fail
 refine wp_region_noPanic ?_
 refine wp_region_held_drew (S:=fun Z=>LAt 84 Z W (wcl k ⟨a.P,a.d,a.Q,a.e,a.x,a.D.crs v.K⟩ o vg vw)∧Rdv a.Q (some a.e) a.x Z) (by kernel_rfl) ⟨(H5.out.atb (i:=1) rfl).1,H5.out.rv (i:=4) rfl⟩ (fun hHeld=>?_)
 generalize w4.drew=w5 at *
 refine tk 0 hHeld ?_
 refine tk 1 hHeld ?_
 refine tk 2 hHeld ?_
 refine tk 3 hHeld ?_
 refine tk 4 hHeld ?_
 refine tkl 5 hHeld (fun _ s=>wc_d s.1 hk) ?_
 refine tk 6 hHeld ?_
 refine tk 7 hHeld ?_
 refine tk 8 hHeld ?_
 refine tk 9 hHeld ?_
 refine tk 10 hHeld ?_
 refine tkl 11 hHeld (fun _ s=>wc_x s.1 hk) ?_
 refine tk 12 hHeld ?_
 refine tk 13 hHeld ?_
 refine tkm 14 hHeld (fun _ s=>s.2.loadC) ?_
 refine tkr 15 fun Kc hKc=>?_
 go_simp
 refine (new_ok (j:=3) a.x.c OK.out.mc H5.out rfl OK.out.n).mono ?_
 rintro e w6 ⟨R,rfl,h6⟩
 have H6:Hid (Fz w0 w6 (kr R (some a.d) (r0 a.x.c) :: kb B 87 (ocells v) :: XP W k n ⟨a.P,a.d,a.Q,a.e,a.x,a.D.crs v.K⟩ o vg vw us ux fs Y)):=h6
 clear h6 H5
 refine hKc.out _ _ ⟨(H6.out.atb (i:=2) rfl).1,H6.out.rv (i:=5) rfl⟩ (fun hHeld=>?_)
 clear hKc Kc
 refine tk 16 hHeld ?_
 refine tk 17 hHeld ?_
 refine tk 18 hHeld ?_
 refine tk 19 hHeld ?_
 refine tk 20 hHeld ?_
 clear hHeld
 refine wpAnyH_done (by kernel_rfl) (NoPanic.normal ?_) _
 have H7:Hid (Fz w0 w6.drew (kr R (some a.d) (r0 a.x.c) :: kb B 87 (ocells v) :: XP W k n ⟨a.P,a.d,a.Q,a.e,a.x,a.D.crs v.K⟩ o vg vw us ux fs Y)):=H6.out.later (below_drawn 1)
 clear H6
 go_wp2_with fail
 refine wp_region_noPanic ?_
 refine wp_region_held_drew (S:=fun Z=>LAt 84 Z W (wcl k ⟨a.P,a.d,a.Q,a.e,a.x,a.D.crs v.K⟩ o vg vw)∧Rdv a.Q (some a.e) a.x Z) (by kernel_rfl) ⟨(H7.out.atb (i:=2) rfl).1,H7.out.rv (i:=5) rfl⟩ (fun hHeld=>?_)
 generalize w6.drew=w7 at *
 refine tk 0 hHeld ?_
 refine tk 1 hHeld ?_
 refine tk 2 hHeld ?_
 refine tk 3 hHeld ?_
 refine tk 4 hHeld ?_
 refine tkl 5 hHeld (fun _ s=>wc_x s.1 hk) ?_
 refine tk 6 hHeld ?_
 refine tk 7 hHeld ?_
 refine tkl 8 hHeld (fun _ s=>s.2.c0) ?_
 refine tk 9 hHeld ?_
 refine tk 10 hHeld ?_
 refine tk 11 hHeld ?_
 refine tk 12 hHeld ?_
 refine tk 13 hHeld ?_
 refine tkl 14 hHeld (fun _ s=>wc_x s.1 hk) ?_
 refine tk 15 hHeld ?_
 refine tk 16 hHeld ?_
 refine tkm 17 hHeld (fun _ s=>s.2.loadC) ?_
 refine tkr 18 fun Kc hKc=>?_
 go_simp
 refine (rnew_ok (j:=6) a.x.c OK.out.mc H7.out rfl OK.out.n).mono ?_
 rintro e w8 ⟨R',rfl,h8⟩
 have H8:Hid (Fz w0 w8 (ks R' (some a.e) (r0 a.x.c) :: kr R (some a.d) (r0 a.x.c) :: kb B 87 (ocells v) :: XP W k n ⟨a.P,a.d,a.Q,a.e,a.x,a.D.crs v.K⟩ o vg vw us ux fs Y)):=h8
 clear h8 H7
 refine hKc.out _ _ ⟨(H8.out.atb (i:=3) rfl).1,H8.out.rv (i:=6) rfl⟩ (fun hHeld=>?_)
 clear hKc Kc
 refine tk 19 hHeld ?_
 refine tk 20 hHeld ?_
 refine tk 21 hHeld ?_
 refine tk 22 hHeld ?_
 refine tk 23 hHeld ?_
 clear hHeld
 refine wpAnyH_done (by kernel_rfl) (NoPanic.normal ?_) _
 have H9:Hid (Fz w0 w8.drew (ks R' (some a.e) (r0 a.x.c) :: kr R (some a.d) (r0 a.x.c) :: kb B 87 (ocells v) :: kb W 84 (wcl k ⟨a.P,a.d,a.Q,a.e,a.x,a.D.crs v.K⟩ o vg vw) :: kr a.P (some a.d) a.x :: kd a.d n (a.D.crs v.K) :: ks a.Q (some a.e) a.x :: ke a.e n (a.D.crs v.K) :: kl vg us fs :: kl vw ux fs :: Y)):=H8.out.later (below_drawn 1)
 clear H8
 go_wp2_with fail
 refine wp_region_noPanic ?_
 refine wp_region_held_drew (S:=fun _=>True) (by kernel_rfl) trivial (fun hHeld=>?_)
 generalize w8.drew=w9 at *
 refine tk 0 hHeld ?_
 refine tk 1 hHeld ?_
 refine tk 2 hHeld ?_
 refine tk 3 hHeld ?_
 refine tk 4 hHeld ?_
 refine tk 5 hHeld ?_
 refine tk 6 hHeld ?_
 refine tk 7 hHeld ?_
 refine tk 8 hHeld ?_
 refine tk 10 hHeld ?_
 refine tk 11 hHeld ?_
 refine tkr 9 fun Kc hKc=>?_
 have hla:=(H9.out.atb (i:=3) rfl).1
 have z0:=wc_r hla hk
 have z1:=wc_f hla (k)
 have hx:=Fz.cell (i:=3) H9.out rfl (k) (qp R)
 rw[wcl_ar hk] at hx
 have HD1:Hid (Fz w0 (w9.setCell ⟨W,k,none⟩ (qp R)) (ks R' (some a.e) (r0 a.x.c) :: kr R (some a.d) (r0 a.x.c) :: kb B 87 (ocells v) :: kb W 84 (wcl k ⟨R,a.d,a.Q,a.e,a.x,a.D.crs v.K⟩ o vg vw) :: kr a.P (some a.d) a.x :: kd a.d n (a.D.crs v.K) :: ks a.Q (some a.e) a.x :: ke a.e n (a.D.crs v.K) :: kl vg us fs :: kl vw ux fs :: Y)):=hx
 clear hx H9 hla
 go_simp
 clear z0 z1
 generalize w9.setCell ⟨W,k,none⟩ (qp R)=wx1 at *
 refine hKc.out _ _ (trivial) (fun hHeld=>?_)
 clear hKc Kc
 refine tk 12 hHeld ?_
 refine tkr 13 fun Kc hKc=>?_
 have hla:=(HD1.out.atb (i:=3) rfl).1
 have z0:=wc_x hla hk
 have z1:=wc_f hla (4+k)
 have hx:=Fz.cell (i:=3) HD1.out rfl (4+k) (qp R')
 rw[wcl_ax hk] at hx
 have HD2:Hid (Fz w0 (wx1.setCell ⟨W,4+k,none⟩ (qp R')) (ks R' (some a.e) (r0 a.x.c) :: kr R (some a.d) (r0 a.x.c) :: kb B 87 (ocells v) :: kb W 84 (wcl k ⟨R,a.d,R',a.e,a.x,a.D.crs v.K⟩ o vg vw) :: kr a.P (some a.d) a.x :: kd a.d n (a.D.crs v.K) :: ks a.Q (some a.e) a.x :: ke a.e n (a.D.crs v.K) :: kl vg us fs :: kl vw ux fs :: Y)):=hx
 clear hx HD1 hla
 go_simp
 clear z0 z1
 generalize wx1.setCell ⟨W,4+k,none⟩ (qp R')=wx2 at *
 refine hKc.out _ _ (trivial) (fun hHeld=>?_)
 clear hKc Kc
 clear hHeld
 refine wpAnyH_done (by kernel_rfl) (NoPanic.normal ?_) _
 have H10:Hid (Fz w0 wx2 (ks R' (some a.e) (r0 a.x.c) :: kr R (some a.d) (r0 a.x.c) :: kb B 87 (ocells v) :: kb W 84 (wcl k ⟨R,a.d,R',a.e,a.x,a.D.crs v.K⟩ o vg vw) :: kr a.P (some a.d) a.x :: kd a.d n (a.D.crs v.K) :: ks a.Q (some a.e) a.x :: ke a.e n (a.D.crs v.K) :: kl vg us fs :: kl vw ux fs :: Y)):=HD2.out
 clear HD2
 generalize wx2=w10 at *
 have H11:Hid (Fz w0 w10 (XP W k n ⟨R,a.d,R',a.e,r0 a.x.c,a.D.crs v.K⟩ o vg vw us ux fs Y)):=Fz.crpick H10.out
 clear H10
 have HR0:Hid ((r0 a.x.c).Ok n):=start_ok OK.out.mc OK.out.n
 go_wp2_with fail
 refine (tells_at H11.out HR0.out hk (Nat.le_trans (show (a.D.crs v.K).ws.length≤b+1 from Nat.zero_le _) (show b+1≤100000 by omega)) (by have:=HUS.out;omega)).mono ?_
 rintro e w8 ⟨rfl,vg9,vw9,us9,ux9,fs9,hl9,h9⟩
 have HZ:Hid (Pl w0 w8 W k n c o (b+1) Y):=⟨_,_,_,_,_,_,h9,HR0.out,HCC.out,(show (a.D.crs v.K).ws.length≤b+1 from Nat.zero_le _),by have:=HUS.out;omega⟩
 clear h9
 go_wp2
 go_ret
 exact⟨rfl,HZ.out⟩
end
def Th.bin (g m:Nat)(xs:List Int):Th:=⟨fun w _=>BIn w (some ⟨g,0,none⟩) m xs∧g<w.heap.size,fun b=>b=g,fun _ _ b h hb=>by have:b=g:=hb;rw[this];exact h.2,fun w w' _ _ _ h hk hf _ _=>⟨⟨h.1.len,h.1.byte,fun h0=>by
 obtain ⟨b,o,e,hc⟩:=h.1.cells h0
 cases e
 exact⟨g,0,rfl,fun i hi=>(World.cell?_of_block (w:=w) (w':=w') (a:=⟨g,0+i,none⟩) (hk.block g h.2 (hf g rfl))).trans (hc i hi)⟩⟩,Nat.lt_of_lt_of_le h.2 hk.size⟩⟩
def kbn (g m:Nat)(xs:List Int):Kd:=fun t=>t=Th.bin g m xs
section
variable {w0 w:World} {X:List Kd} {i:Nat}
theorem Fz.atbn (h:Fz w0 w X){g m:Nat}{xs:List Int}(hi:X[i]?=some (kbn g m xs)):BIn w (some ⟨g,0,none⟩) m xs:=by
 obtain ⟨t,G,rfl,ha,-,-⟩:=h.at hi
 exact ha.1
end
section
variable {w0 w:World} {W k n b:Nat} {c:Sup} {o:Ot} {Y:List Kd}
theorem plays_write (_ht:Tab w0)(h:Pl w0 w W k n c o b Y)(hk:k<2)(hb:b≤200){v:OpV}(hv:v.wh % 2=(k:Int))(hoi:OpIn w0 v)(hd:v.kd=6):Calls prog 25 #[qp W,.agg (ocells v).toArray] w fun e w'=>e=.returned (.bool true)∧Pl w0 w' W k n c o (b+1) Y:=by
 obtain ⟨a,vg,vw,us,ux,fs,h0,hok,hcc,hws,hus⟩:=h
 have OK:Hid (a.x.Ok n):=hok
 have HCC:Hid (a.x.c=c):=hcc
 have HWS:Hid (a.D.ws.length≤b):=hws
 have HUS:Hid (us.length≤2*b):=hus
 have h1:=h0.newa (ocells v) 87
 obtain ⟨B,hB⟩:∃B,w.heap.size=B:=⟨_,rfl⟩
 rw[hB] at h1
 obtain ⟨w1,hw1⟩:∃Z,w.alloc (.cells (ocells v).toArray 87)=Z:=⟨_,rfl⟩
 rw[hw1] at h1
 have H1:Hid (Fz w0 w1 (kb B 87 (ocells v) :: XP W k n a o vg vw us ux fs Y)):=h1
 have o0:=oc0 (h1.atb (i:=0) rfl).1
 have o1:=oc1 (h1.atb (i:=0) rfl).1
 have t1:-2<v.wh.tmod 2∧v.wh.tmod 2<2:=⟨Int.lt_tmod_of_pos _ (by omega),Int.tmod_lt_of_pos _ (by omega)⟩
 have t2:(v.wh.tmod 2+2).tmod 2=(k:Int):=by rw[tmod_fix _ _ (by omega)];exact hv
 have t3:IntKind.i64.wrap (v.wh.tmod 2)=v.wh.tmod 2:=by rw[IntKind.wrap_i64];omega
 have t4:IntKind.i64.wrap (v.wh.tmod 2+2)=v.wh.tmod 2+2:=by rw[IntKind.wrap_i64];omega
 have t5:IntKind.i64.wrap (k:Int)=(k:Int):=by rw[IntKind.wrap_i64];omega
 have k0:(0:Int)≤(k:Int):=by omega
 have k1:(k:Int)<2:=by omega
 clear h0 hok hcc hws hus h1
 rw[hd] at o0
 have h2a:=H1.out.later (below_alloc w1 (.cells #[] 5))
 have d4:=oc4 (h2a.atb (i:=0) rfl).1
 obtain ⟨g5,c5,w5,g9,c9,w9,r5,r9,hc9,hY,hg9,hb9⟩:=fill_run (hoi.din.later H1.out.below) hoi.dno hoi.dl
 have HA5:Hid (_):=r5
 have HA9:Hid (_):=r9
 have H3':Hid (Fz w0 w9 (kbn g9 64 (fil v.bs) :: kb B 87 (ocells v) :: XP W k n a o vg vw us ux fs Y)):=H1.out.push hb9 (u:=.bin g9 64 (fil v.bs)) (fun _=>⟨hY,World.block_lt_of_cell? w9 _ (by
  obtain ⟨b',o',e',hc⟩:=hY.cells (by omega)
  cases e'
  exact hc 0 (by omega))⟩) (fun b hb=>by have:b=g9:=hb;omega) rfl
 have H3d:Hid (Fz w0 w9.drew (kbn g9 64 (fil v.bs) :: kb B 87 (ocells v) :: XP W k n a o vg vw us ux fs Y)):=H3'.out.later (below_drawn 1)
 clear h2a r5 r9 hY hg9 hb9 H1 hoi H3'
 go_enter func25,ntmps25
 go_wp2_with ((with_reducible refine at_ops ?_);(first | (refine wpList_append_is (by rfl) rfl rfl rfl rfl HA5.out ?_) | (refine wpList_append2_is (by rfl) rfl rfl rfl rfl HA9.out ?_));simp only[Act.put,zA,zB,zC])
 clear HA5 HA9 d4
 refine wp_region_noPanic ?_
 refine wp_region_held_drew (S:=fun Z=>LAt 84 Z W (wcl k a o vg vw)∧LAt 87 Z B (ocells v)) (by kernel_rfl) ⟨(H3d.out.atb (i:=2) rfl).1,(H3d.out.atb (i:=1) rfl).1⟩ (fun hHeld=>?_)
 generalize w9.drew=w3 at *
 have H3:Hid (Fz w0 w3 (kbn g9 64 (fil v.bs) :: kb B 87 (ocells v) :: XP W k n a o vg vw us ux fs Y)):=H3d.out
 clear H3d
 refine tk 0 hHeld ?_
 refine tk 1 hHeld ?_
 refine tk 2 hHeld ?_
 refine tk 3 hHeld ?_
 refine tk 4 hHeld ?_
 refine tkl 5 hHeld (fun _ s=>wc_d s.1 hk) ?_
 refine tk 6 hHeld ?_
 refine tkl 7 hHeld (fun _ s=>oc2 s.2) ?_
 refine tk 8 hHeld ?_
 refine tkr 9 fun Kc hKc=>?_
 go_simp
 refine (p_write64 (j:=4) H3.out rfl (by have:=HWS.out;omega) v.bk (H3.out.atbn (i:=0) rfl)).mono ?_
 rintro e w4 ⟨rfl,h4⟩
 have H4:Hid (Fz w0 w4 (kbn g9 64 (fil v.bs) :: kb B 87 (ocells v) :: kb W 84 (wcl k a o vg vw) :: kr a.P (some a.d) a.x :: kd a.d n ⟨a.D.d,wrU n a.D.ws v.bk (fil v.bs)⟩ :: ks a.Q (some a.e) a.x :: ke a.e n a.D :: kl vg us fs :: kl vw ux fs :: Y)):=h4
 clear h4 H3
 refine hKc.out _ _ ⟨(H4.out.atb (i:=2) rfl).1,(H4.out.atb (i:=1) rfl).1⟩ (fun hHeld=>?_)
 clear hKc Kc
 refine tk 10 hHeld ?_
 clear hHeld
 refine wpAnyH_done (by kernel_rfl) (NoPanic.normal ?_) _
 have H5:Hid (Fz w0 w4.drew (kbn g9 64 (fil v.bs) :: kb B 87 (ocells v) :: kb W 84 (wcl k a o vg vw) :: kr a.P (some a.d) a.x :: kd a.d n ⟨a.D.d,wrU n a.D.ws v.bk (fil v.bs)⟩ :: ks a.Q (some a.e) a.x :: ke a.e n a.D :: kl vg us fs :: kl vw ux fs :: Y)):=H4.out.later (below_drawn 1)
 clear H4
 go_wp2_with fail
 refine wp_region_noPanic ?_
 refine wp_region_held_drew (S:=fun Z=>LAt 84 Z W (wcl k a o vg vw)∧LAt 87 Z B (ocells v)∧Rdv a.Q (some a.e) a.x Z) (by kernel_rfl) ⟨(H5.out.atb (i:=2) rfl).1,(H5.out.atb (i:=1) rfl).1,H5.out.rv (i:=5) rfl⟩ (fun hHeld=>?_)
 generalize w4.drew=w5' at *
 refine tk 0 hHeld ?_
 refine tk 1 hHeld ?_
 refine tk 2 hHeld ?_
 refine tk 3 hHeld ?_
 refine tk 4 hHeld ?_
 refine tk 5 hHeld ?_
 refine tkl 6 hHeld (fun _ s=>wc_x s.1 hk) ?_
 refine tk 7 hHeld ?_
 refine tk 8 hHeld ?_
 refine tkl 9 hHeld (fun _ s=>s.2.2.c0) ?_
 refine tk 10 hHeld ?_
 refine tkl 11 hHeld (fun _ s=>oc2 s.2.1) ?_
 refine tk 12 hHeld ?_
 refine tkr 13 fun Kc hKc=>?_
 go_simp
 refine (r_write (j:=6) H5.out rfl (by have:=HWS.out;omega) v.bk (H5.out.atbn (i:=0) rfl)).mono ?_
 rintro e w6 ⟨rfl,h6⟩
 have H6:Hid (Fz w0 w6 (kbn g9 64 (fil v.bs) :: kb B 87 (ocells v) :: XP W k n ⟨a.P,a.d,a.Q,a.e,a.x,⟨a.D.d,wrU n a.D.ws v.bk (fil v.bs)⟩⟩ o vg vw us ux fs Y)):=h6
 clear h6 H5
 refine hKc.out _ _ ⟨(H6.out.atb (i:=2) rfl).1,(H6.out.atb (i:=1) rfl).1,H6.out.rv (i:=5) rfl⟩ (fun hHeld=>?_)
 clear hKc Kc
 refine tk 14 hHeld ?_
 clear hHeld
 refine wpAnyH_done (by kernel_rfl) (NoPanic.normal ?_) _
 have H7:Hid (Fz w0 w6 (XP W k n ⟨a.P,a.d,a.Q,a.e,a.x,⟨a.D.d,wrU n a.D.ws v.bk (fil v.bs)⟩⟩ o vg vw us ux fs Y)):=H6.out.pop.pop
 have HWL:Hid ((wrU n a.D.ws v.bk (fil v.bs)).length≤b+1):=by have:=wrU_length n a.D.ws v.bk (fil v.bs);have:=HWS.out;show _≤_;omega
 clear H6
 go_wp2_with fail
 refine (tells_at H7.out OK.out hk (Nat.le_trans HWL.out (show b+1≤100000 by omega)) (by have:=HUS.out;omega)).mono ?_
 rintro e w8 ⟨rfl,vg9,vw9,us9,ux9,fs9,hl9,h9⟩
 have HZ:Hid (Pl w0 w8 W k n c o (b+1) Y):=⟨_,_,_,_,_,_,h9,OK.out,HCC.out,HWL.out,by have:=HUS.out;omega⟩
 clear h9
 go_wp2
 go_ret
 exact⟨rfl,HZ.out⟩
end
section
variable {w w':World}
theorem kept_grown {v:Value}(h:w.grownBy w' v.ownBlock):Kept (fun k=>v.ownBlock=some k) w w':=(Kept.refl _ w).grown h fun _ e _=>e
theorem own_nq {B C s1 s2 n m:Nat}{e1 e2:TypeId}{u v:Value}{xs ys:List Value}(h:w.ownsRow B e1 s1 u n xs)(k:w.ownsRow C e2 s2 v m ys)(hne:e1≠e2){b:Nat}(hu:u.ownBlock=some b)(hv:v.ownBlock=some b):False:=by
 rcases own_ne h k hne with e | e
 ·rw[e] at hu;cases hu
 ·exact e (hu.trans hv.symm)
end
namespace Ap
open Go.Proofs.Tryz
structure Stay (W W':World) (u:Value) (n:Nat):Prop where
 old:∀k cur,u.ownBlock=some k→W.heap[k]?=some (.cells cur 155 (0,0))→∃cur',W'.heap[k]?=some (.cells cur' 155 (0,0))∧cur'.size=cur.size∧cur'.toList.take (n*33)=cur.toList.take (n*33)
theorem Stay.row {W W':World}{u u0:Value}{n:Nat}{l0:List Im}(h:Stay W W' u n)(h0:IOwn W 0 u0 l0)(he:u0.ownBlock=u.ownBlock)(hn:l0.length≤n):IOwn W' 0 u0 l0:=by
 rcases h0.2 with ⟨e1,e2⟩ | ⟨g,cap,cur,e,hb,hg,h1,h2,h3,h4⟩
 ·exact⟨h0.1,.inl ⟨e1,e2⟩⟩
 ·subst e
  obtain ⟨cur',k1,k2,k3⟩:=h.old g cur he.symm hg
  refine⟨h0.1,.inr ⟨g,cap,cur',rfl,hb,k1,h1,h2,by rw[k2];exact h3,?_⟩⟩
  have e:∀l:List Value,l.take (l0.length*33)=(l.take (n*33)).take (l0.length*33):=fun l=>by rw[List.take_take,Nat.min_eq_left (Nat.mul_le_mul_right _ hn)]
  rw[e,k3,← e]
  exact h4
theorem app_stay {W:World}{u:Value}{l:List Im}{x:Im}(h:IOwn W 0 u l)(hx:x.Wf)(hn:l.length≤5000) :
  ∃g cap W',(Builtin.append_ #[92,92] 92 #[u,.slice (some ⟨W.heap.size,0,none⟩) 1 1]).run prog (W.alloc (.cells (icells x).toArray 155))=.ok (.slice (some ⟨g,0,none⟩) (l.length+1) cap) W'∧IOwn W' 0 (.slice (some ⟨g,0,none⟩) (l.length+1) cap) (l++[x])∧(W.alloc (.cells (icells x).toArray 155)).grownBy W' u.ownBlock∧(u.ownBlock=some g∨g=(W.alloc (.cells (icells x).toArray 155)).heap.size)∧Stay (W.alloc (.cells (icells x).toArray 155)) W' u l.length:=by
 obtain ⟨i,hi,hz,hsize,hby⟩:=info_parts infoI
 have hml:10000≤maxLen:=by decide
 have hxl:(icells x).length=1*33:=by rw[icells_len hx.len]
 have hnews:∀j v,(icells x)[j]?=some v→(W.alloc (.cells (icells x).toArray 155)).cell? ((⟨W.heap.size,0,none⟩:Addr).add j)=some v:=fun j u hu=>by rw[Addr.add_mid,Nat.zero_add,LAt.cell (LAt.new 155 W (icells x)) j];exact hu
 have hown:=World.ownsRow.alloc h (.cells (icells x).toArray 155)
 obtain ⟨g,cap,w',hr,h2,h3,h4,h5⟩:=run_append_lies (P:=prog) (W.alloc (.cells (icells x).toArray 155)) 92 92 0 155 i _ 33 40 underlying92 hi hz hsize hby rfl (by omega) u l.length (IC l) hown ⟨W.heap.size,0,none⟩ 1 1 (icells x) hxl hnews (icells_ones x) (by omega) (by omega) (by omega) (by simp) _ rfl
 refine⟨g,cap,w',hr,by rw[IOwn,List.length_append,List.length_singleton,IC_snoc];exact h2,h3,h4,⟨fun k cur hk hc=>?_⟩⟩
 rcases hown.2 with ⟨rfl,_⟩ | ⟨g',cap',cur',rfl,hbg,hg,hnc,hcm,hcs,htake⟩
 ·cases hk
 ·obtain rfl:g'=k:=by simpa [Value.ownBlock] using hk
  rw[hg] at hc
  cases hc
  by_cases hroom:l.length+1≤cap'
  ·have hfit:l.length*i.size+(icells x).length≤cur.size:=by rw[hxl,hcs,hsize];have:=Nat.mul_le_mul_right 33 hroom;omega
   have hr2:=run_append_room (P:=prog) _ 92 92 155 i underlying92 hi g' l.length cap' cur hg ⟨W.heap.size,0,none⟩ 1 1 (icells x) (by rw[hsize];exact hxl) hnews (icells_ones x) hroom hfit
   rw[hr2] at hr
   simp only[Result.ok.injEq] at hr
   rw[← hr.2]
   have hlc:cur.toList.length=cap'*33:=by rw[← hcs];exact Array.length_toList
   have h34:=Nat.mul_le_mul_right 33 hnc
   have h35:=Nat.mul_le_mul_right 33 hroom
   refine⟨_,setRow_heap _ g' cur _ 155 _ hg,?_,?_⟩
   ·simp[hsize,hxl]
    omega
   ·simp only[hsize]
    rw[List.append_assoc,List.take_append_of_le_length (by rw[List.length_take];omega),List.take_take,Nat.min_self]
  ·have holds:∀j v,(IC l)[j]?=some v→(W.alloc (.cells (icells x).toArray 155)).cell? ((⟨g',0,none⟩:Addr).add j)=some v:=hown.cells (g:=g') rfl
   have hr2:=run_append_grow (P:=prog) (W.alloc (.cells (icells x).toArray 155)) 92 92 155 i _ underlying92 hi hz ⟨g',0,none⟩ l.length cap' (IC l) (by rw[hsize];exact hown.1) holds ⟨W.heap.size,0,none⟩ 1 1 (icells x) (by rw[hsize];exact hxl) hnews (by omega) (by omega) (growslice_fits (by omega) (by rw[hby];omega))
   rw[hr2] at hr
   simp only[Result.ok.injEq] at hr
   rw[← hr.2]
   have hlt:=(Array.getElem?_eq_some_iff.1 hg).1
   exact⟨cur,(Below.heap_alloc (W.alloc (.cells (icells x).toArray 155)).drew _ g' hlt).trans hg,rfl,rfl⟩
def mkA (j:Nat):Im:=⟨-100-(j:Int),zs 32⟩
theorem mkA_wf {j:Nat}(h:j≤100000):(mkA j).Wf:=⟨by show i64 (-100-(j:Int));unfold i64;omega,zs_len 32,zs_bytes 32⟩
abbrev rp (k j:Nat):List Im:=List.replicate k (mkA j)
structure Lg (W0 W:World) (us vs:List Value) (ns:Nat→Nat):Prop where
 a:∀(j:Nat) u,us[j]?=some u→IOwn W 0 u (rp (ns j) j)
 b:∀(j:Nat) x,vs[j]?=some x→IOwn W 0 x (rp (ns j+16) j)
 kp:Kept (fun k=>∃u∈us,u.ownBlock=some k) W0 W
 vo:∀(j:Nat) y g,vs[j]?=some y→y.ownBlock=some g→(∃u,us[j]?=some u∧u.ownBlock=some g)∨W0.heap.size≤g
structure Cu (W0 W:World) (us vs:List Value) (ns:Nat→Nat) (i b:Nat) (x:Value):Prop where
 lg:Lg W0 W us vs ns
 row:IOwn W 0 x (rp (ns i+b) i)
 own:∀g,x.ownBlock=some g→(∃u,us[i]?=some u∧u.ownBlock=some g)∨W0.heap.size≤g
 sepu:∀(j:Nat) u g,us[j]?=some u→j≠i→x.ownBlock=some g→u.ownBlock≠some g
 sepv:∀(j:Nat) y g,vs[j]?=some y→x.ownBlock=some g→y.ownBlock≠some g
theorem Lg.later {W0 W W':World}{us vs:List Value}{ns:Nat→Nat}(h:Lg W0 W us vs ns)(hb:Below W.heap.size W W'):Lg W0 W' us vs ns :=
 ⟨fun j u hu=>own_later (h.a j u hu) hb,fun j x hx=>own_later (h.b j x hx) hb,h.kp.trans (Kept.of_below (S:=fun _=>False) hb) (fun _ _ e=>e.elim),h.vo⟩
theorem Cu.later {W0 W W':World}{us vs:List Value}{ns:Nat→Nat}{i b:Nat}{x:Value}(h:Cu W0 W us vs ns i b x)(hb:Below W.heap.size W W'):Cu W0 W' us vs ns i b x:=⟨h.lg.later hb,own_later h.row hb,h.own,h.sepu,h.sepv⟩
theorem Cu.app {W0 W:World}{us vs:List Value}{ns:Nat→Nat}{i b:Nat}{x:Value}(h:Cu W0 W us vs ns i b x)(hi:i≤9000)(hb:ns i+b≤5000) :
  ∃g cap W',(Builtin.append_ #[92,92] 92 #[x,.slice (some ⟨W.heap.size,0,none⟩) 1 1]).run prog (W.alloc (.cells (icells (mkA i)).toArray 155))=.ok (.slice (some ⟨g,0,none⟩) (ns i+b+1) cap) W'∧Cu W0 W' us vs ns i (b+1) (.slice (some ⟨g,0,none⟩) (ns i+b+1) cap)∧∀(B:Nat) (t:TypeId) (s:Nat) (v:Value) (n:Nat) (xs:List Value),t≠155→W.ownsRow B t s v n xs→W'.ownsRow B t s v n xs:=by
 have hlen:(rp (ns i+b) i).length=ns i+b:=List.length_replicate
 obtain ⟨g,cap,W',hr,ho,hg,hat,hst⟩:=app_stay h.row (x:=mkA i) (mkA_wf (by omega)) (by rw[hlen];exact hb)
 have hb1:=below_alloc W (.cells (icells (mkA i)).toArray 155)
 have h1:=h.later hb1
 rw[hlen] at hr ho hst
 have hk:=kept_grown hg
 have hsz:W0.heap.size≤(W.alloc (.cells (icells (mkA i)).toArray 155)).heap.size:=h1.lg.kp.size
 refine⟨g,cap,W',hr,⟨⟨fun j u hu=>?_,fun j y hy=>own_far (h1.lg.b j y hy) hk (fun b' hb' e=>h.sepv j y b' hy e hb'),?_,h.lg.vo⟩,?_,fun g' hg'=>?_,fun j u g' hu hj hg' e=>?_,fun j y g' hy hg' e=>?_⟩,fun B t s v n xs hne hv=>own_far (own_later hv hb1) hk (fun b' hb' e=>own_nq hv h.row hne hb' e)⟩
 ·by_cases e:j=i
  ·subst e
   by_cases e2:u.ownBlock=x.ownBlock
   ·exact hst.row (h1.lg.a j u hu) e2 (by rw[List.length_replicate];omega)
   ·exact own_far (h1.lg.a j u hu) hk (fun b' hb' e3=>e2 (hb'.trans e3.symm))
  ·exact own_far (h1.lg.a j u hu) hk (fun b' hb' e3=>h.sepu j u b' hu e e3 hb')
 ·refine h1.lg.kp.trans hk (fun b' hb' e=>?_)
  rcases h.own b' e with ⟨u,hu,hu2⟩ | hge
  ·exact⟨u,List.mem_of_getElem? hu,hu2⟩
  ·omega
 ·have e:rp (ns i+b) i++[mkA i]=rp (ns i+(b+1)) i:=by show _=List.replicate (ns i+b+1) (mkA i);exact List.replicate_succ'.symm
  rw[← e];exact ho
 ·rcases hat with h2 | h2
  ·exact h.own g' (h2.trans hg')
  ·cases hg';exact .inr (h2 ▸ hsz)
 ·rcases hat with h2 | h2
  ·exact h.sepu j u g' hu hj (h2.trans hg') e
  ·cases hg'
   have:=((h1.lg.a j u hu).lt g e).2
   omega
 ·rcases hat with h2 | h2
  ·exact h.sepv j y g' hy (h2.trans hg') e
  ·cases hg'
   have:=((h1.lg.b j y hy).lt g e).2
   omega
theorem Lg.far {W0 W W':World}{us vs:List Value}{ns:Nat→Nat}{t:TypeId}{s n:Nat}{v:Value}{xs:List Value}(h:Lg W0 W us vs ns)(hne:t≠155)(hv:W.ownsRow W0.heap.size t s v n xs)(hk:Kept (fun b=>v.ownBlock=some b) W W'):Lg W0 W' us vs ns :=
 ⟨fun j u hu=>own_far (h.a j u hu) hk (fun _ hg e=>own_nq hv (h.a j u hu) hne e hg),fun j x hx=>own_far (h.b j x hx) hk (fun _ hg e=>own_nq hv (h.b j x hx) hne e hg),h.kp.trans hk (fun b hb e=>by have:=(hv.lt b e).1;omega),h.vo⟩
section
variable {W0 W:World} {us vs:List Value} {ns:Nat→Nat} {i:Nat} {x:Value}
theorem us_apart (hsep:us.Pairwise fun u u'=>∀g,u.ownBlock=some g→u'.ownBlock≠some g){j j':Nat}{u u':Value}{g:Nat}(hu:us[j]?=some u)(hu':us[j']?=some u')(hne:j≠j')(hg:u.ownBlock=some g):u'.ownBlock≠some g:=fun hg'=>by
 obtain ⟨l1,e1⟩:=List.getElem?_eq_some_iff.1 hu
 obtain ⟨l2,e2⟩:=List.getElem?_eq_some_iff.1 hu'
 rcases Nat.lt_or_ge j j' with hlt | hge
 ·exact (List.pairwise_iff_getElem.1 hsep j j' l1 l2 hlt) g (by rw[e1];exact hg) (by rw[e2];exact hg')
 ·exact (List.pairwise_iff_getElem.1 hsep j' j l2 l1 (by omega)) g (by rw[e2];exact hg') (by rw[e1];exact hg)
theorem Lg.start (h:Lg W0 W us vs ns)(hsep:us.Pairwise fun u u'=>∀g,u.ownBlock=some g→u'.ownBlock≠some g)(hlt:∀u∈us,∀g,u.ownBlock=some g→g<W0.heap.size)(hv:vs.length=i)(hx:us[i]?=some x):Cu W0 W us vs ns i 0 x :=
 ⟨h,h.a i x hx,fun g hg=>.inl ⟨x,hx,hg⟩,fun j u g hu hj hg e=>us_apart hsep hu hx hj e hg,fun j y g hy hg e=>by
  have hj:=(List.getElem?_eq_some_iff.1 hy).1
  rcases h.vo j y g hy e with ⟨u,hu,hug⟩ | hge
  ·exact us_apart hsep hu hx (by omega) hug hg
  ·have:=hlt x (List.mem_of_getElem? hx) g hg
   omega⟩
theorem Cu.done (h:Cu W0 W us vs ns i 16 x)(hv:vs.length=i):Lg W0 W us (vs++[x]) ns:=by
 have key:∀(j:Nat) y,(vs++[x])[j]?=some y→vs[j]?=some y∨(j=i∧y=x):=fun j y hy=>by
  rcases Nat.lt_or_ge j vs.length with hlt | hge
  ·rw[List.getElem?_append_left hlt] at hy;exact .inl hy
  ·rw[List.getElem?_append_right hge] at hy
   have hj0:j-vs.length=0:=by have:=(List.getElem?_eq_some_iff.1 hy).1;simp at this;omega
   rw[hj0] at hy
   exact .inr ⟨by omega,by simpa using hy.symm⟩
 refine⟨h.lg.a,fun j y hy=>?_,h.lg.kp,fun j y g hy hg=>?_⟩
 ·rcases key j y hy with h1 | ⟨rfl,rfl⟩
  ·exact h.lg.b j y h1
  ·exact h.row
 ·rcases key j y hy with h1 | ⟨rfl,rfl⟩
  ·exact h.lg.vo j y g h1 hg
  ·exact h.own g hg
end
structure Mkd (ls ls':List (List Im)) (i k:Nat):Prop where
 len:ls'.length=ls.length
 each:∀(j:Nat) l,ls[j]?=some l→∃l',ls'[j]?=some l'∧l'.length=l.length∧ImsWf l'∧(j<i→l'=rp l.length j)∧(j=i→l'.take k=rp k i)
theorem Mkd.start {ls:List (List Im)}(h:∀l∈ls,ImsWf l):Mkd ls ls 0 0:=⟨rfl,fun _ l hl=>⟨l,hl,rfl,h l (List.mem_of_getElem? hl),fun h=>absurd h (Nat.not_lt_zero _),fun _=>rfl⟩⟩
theorem Mkd.set {ls ls':List (List Im)}{i k:Nat}{l l':List Im}(h:Mkd ls ls' i k)(hl:ls[i]?=some l)(hl':ls'[i]?=some l')(hk:k<l.length)(hi:i≤9000):Mkd ls (ls'.set i (l'.set k (mkA i))) i (k+1):=by
 obtain ⟨l2,e2,h1,h2,h3,h4⟩:=h.each i l hl
 rw[hl'] at e2;cases e2
 have hil:=(List.getElem?_eq_some_iff.1 hl').1
 refine⟨by rw[List.length_set];exact h.len,fun j y hy=>?_⟩
 by_cases e:j=i
 ·subst e
  rw[hl] at hy;cases hy
  refine⟨l'.set k (mkA j),List.getElem?_set_self hil,by rw[List.length_set];exact h1,fun x hx=>?_,fun h=>absurd h (Nat.lt_irrefl _),fun _=>?_⟩
  ·rcases List.mem_or_eq_of_mem_set hx with h5 | h5
   ·exact h2 x h5
   ·rw[h5];exact mkA_wf (by omega)
  ·rw[List.take_succ_eq_append_getElem (by simpa [h1] using hk),List.take_set_of_le (Nat.le_refl _),h4 rfl,List.getElem_set_self]
   exact List.replicate_succ'.symm
 ·obtain ⟨y',k1,k2,k3,k4,k5⟩:=h.each j y hy
  exact⟨y',by rw[List.getElem?_set_ne (Ne.symm e)];exact k1,k2,k3,k4,fun e'=>absurd e' e⟩
theorem Mkd.next {ls ls':List (List Im)}{i k:Nat}{l:List Im}(h:Mkd ls ls' i k)(hl:ls[i]?=some l)(hk:l.length≤k):Mkd ls ls' (i+1) 0:=by
 refine⟨h.len,fun j y hy=>?_⟩
 obtain ⟨y',k1,k2,k3,k4,k5⟩:=h.each j y hy
 refine⟨y',k1,k2,k3,fun hlt=>?_,fun _=>rfl⟩
 by_cases e:j=i
 ·subst e
  rw[hl] at hy;cases hy
  have:=k5 rfl
  rw[List.take_of_length_le (by omega)] at this
  have h6:=congrArg List.length this
  rw[List.length_replicate,k2] at h6
  rw[this,h6]
 ·exact k4 (by omega)
theorem mark {w0 w:World}{X:List Kd}{v u:Value}{us:List Value}{ls:List (List Im)}{l:List Im}{m i k:Nat}{x:Im}(h:Fz w0 w X)(hm:X[m]?=some (kl v us ls))(hu:us[i]?=some u)(hl:ls[i]?=some l)(hk:k<l.length)(hx:x.Wf) :
  ∃gb cb W',u=.slice (some ⟨gb,0,none⟩) l.length cb∧(Instr.storeAt 155 (.pointer (some ⟨gb,k*33,none⟩)) (.agg (icells x).toArray)).run prog w=.ok () W'∧Fz w0 W' (X.set m (kl v us (ls.set i (l.set k x)))):=by
 obtain ⟨t,G,rfl,ha,hf,hL⟩:=h.at hm
 have hLs:Ls w v us ls:=ha
 have hr:IOwn w 0 u l:=hLs.each i u l hu hl
 have hw:=(hLs.wf l (List.mem_of_getElem? hl)).1
 obtain ⟨gb,cb,rfl⟩:∃gb cb,u=.slice (some ⟨gb,0,none⟩) l.length cb:=by
  rcases hr.2 with ⟨_,e⟩ | ⟨g,cap,cur,e,_⟩
  ·omega
  ·exact⟨g,cap,e⟩
 obtain ⟨W',hst,ho,hgr⟩:=IOwn.put hr hw x hx k hk
 have hset:l.take k++[x]++l.drop (k+1)=l.set k x:=by rw[List.set_eq_take_append_cons_drop,if_pos hk];simp
 rw[hset] at ho
 have hkk:=kept_grown (v:=.slice (some ⟨gb,0,none⟩) l.length cb) hgr
 have hil:=(List.getElem?_eq_some_iff.1 hl).1
 refine⟨gb,cb,W',rfl,hst,hL W' (.ls v us (ls.set i (l.set k x))) G (fun b=>(Value.slice (some ⟨gb,0,none⟩) l.length cb).ownBlock=some b) _ ⟨?_,?_,?_,?_,hLs.sep,hLs.off⟩ hkk (fun b _ hb=>.inr ⟨_,List.mem_of_getElem? hu,hb⟩) (fun b hb=>.inl hb) (fun _ hg=>hg) (fun _ hg=>.inl hg) rfl⟩
 ·exact own_far hLs.row hkk (fun b hb hs=>own_nq hLs.row hr (by decide) hb hs)
 ·rw[List.length_set];exact hLs.len
 ·intro j y f hy hf
  by_cases e:j=i
  ·subst e
   rw[hu] at hy
   cases hy
   rw[List.getElem?_set_self hil] at hf
   cases hf
   have:=ho
   rw[IOwn,List.length_set] at this
   show World.ownsRow _ _ _ _ _ _ _
   rw[List.length_set]
   exact this
  ·rw[List.getElem?_set_ne (Ne.symm e)] at hf
   refine own_far (hLs.each j y f hy hf) hkk (fun b hb hs=>?_)
   exact us_apart hLs.sep hy hu e hb hs
 ·intro f hf
  rcases List.mem_or_eq_of_mem_set hf with h5 | h5
  ·exact hLs.wf f h5
  ·rw[h5]
   refine⟨fun y hy=>?_,by rw[List.length_set];exact (hLs.wf l (List.mem_of_getElem? hl)).2⟩
   rcases List.mem_or_eq_of_mem_set hy with h6 | h6
   ·exact hw y h6
   ·rw[h6];exact hx
end Ap
end Go.Proofs.YtdadpepfpiimgaaGreatDoor.Q
