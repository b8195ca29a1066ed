import Derived.Test.YtdadpepfpiimgaaGreatDoorK29
set_option maxHeartbeats 20000000
set_option maxRecDepth 100000
namespace Go.Proofs.YtdadpepfpiimgaaGreatDoor.Q
open Go.Proofs.Tryz
open Go.RowKit
theorem buildIb (w:World)(b:Int):(Instr.build 155 #[(0,.int .i64 b)]).run prog w=.ok (.agg (icells ⟨b,zs 32⟩).toArray) w:=by
 refine run_build w 155 _ _ ((built_of 155 _ _ _ placesI zeroI).trans ?_)
 show Instr.fill (plI.toArray[·]?) (icells im0).toArray [(0,.int .i64 b)]=_
 rw[fill_ib im0 (zs_len 32)];rfl
def kno:Kd:=fun t=>t=Th.no
section
variable {w0 w w':World} {X:List Kd} {i:Nat} {v x:Value} {us xs:List Value} {fs:List (List Im)}
theorem Fz.lsloose (h:Fz w0 w X)(hi:X[i]?=some (kl v us fs))(hK:Kept (fun k=>∃u∈us,u.ownBlock=some k) w w'):Fz w0 w' (X.set i kno)∧w'.ownsRow 0 92 1 v us.length us:=by
 obtain ⟨t,G,rfl,ha,hf,hL⟩:=h.at hi
 have hl:Ls w v us fs:=ha
 exact⟨hL w' Th.no G (fun k=>∃u∈us,u.ownBlock=some k) kno trivial hK (fun b _ hb=>.inr hb) (fun b hb=>hb.elim) (fun _ a=>a) (fun _ a=>.inl a) rfl,own_far hl.row hK (fun g hg ⟨u,hu,e⟩=>hl.off u hu g e hg)⟩
theorem own_app {B:Nat}(hv:w.ownsRow B 92 1 v xs.length xs)(hx:x.oneCell'=true)(hn:xs.length≤9000)(hB:B≤w.heap.size):∃q c w',(Builtin.append_ #[82,82] 82 #[v,.slice (some ⟨w.heap.size,0,none⟩) 1 1]).run prog (w.alloc (.cells #[x] 92))=.ok (.slice q (xs.length+1) c) w'∧w'.ownsRow B 92 1 (.slice q (xs.length+1) c) (xs.length+1) (xs++[x])∧Kept (fun k=>v.ownBlock=some k) w w':=by
 obtain ⟨i1,hi1,hy0,hy1,hy2⟩:=info_parts infoL
 have hmx:(4000000:Nat)≤maxLen:=by decide
 have ho3:=own_later hv (below_alloc w (.cells #[x] 92))
 obtain ⟨v4,w4,hrun4,hown4,hgrow4,_,h5⟩:=run_append_own_at (P:=prog) (w.alloc (.cells #[x] 92)) B 82 82 92 i1 _ 1 24 underlying82 hi1 hy0 hy1 hy2 rfl (by decide) v xs.length xs ho3 ⟨w.heap.size,0,none⟩ 1 1 [x] rfl (cell_one_new _ _ _) (fun y hy=>by rw[List.mem_singleton.1 hy];exact hx) (by omega) (by omega) (Nat.le_trans hB (below_alloc w _).size)
 have hk:Kept (fun k=>v.ownBlock=some k) w w4:=((Kept.refl _ w).alloc _).grown hgrow4 fun k e _=>e
 obtain ⟨p,c,e,-⟩:=own_slice hown4
 subst e
 exact⟨p,c,w4,hrun4,hown4,hk⟩
end
namespace Ap
open Go.Proofs.Tryz
section
variable {w0 w:World} {W k n:Nat} {a:Hf} {o:Ot} {us ux:List Value} {fs:List (List Im)} {Y:List Kd}
theorem apart_any {vg vw:Value}(h:Fz w0 w (XP W k n a o vg vw us ux fs Y))(hk:k<2)(hm:us.length≤8000):Calls prog 27 #[qp W] w fun e w'=>e=.returned (.bool true)∧Below w0.heap.size w0 w':=by
 obtain ⟨q5,c5,rfl⟩:=h.lsform (i:=5) rfl
 obtain ⟨q6,c6,rfl⟩:=h.lsform (i:=6) rfl
 have HG5:Hid (0<us.length→∃g,q5=some ⟨g,0,none⟩):=h.lssome (i:=5) rfl
 have HG6:Hid (0<ux.length→∃g,q6=some ⟨g,0,none⟩):=h.lssome (i:=6) rfl
 have hlen:=(h.lsat (i:=5) rfl).len
 have hlen6:=(h.lsat (i:=6) rfl).len
 have HLS:Hid (∀f∈fs,ImsWf f∧f.length≤64):=(h.lsat (i:=5) rfl).wf
 have HP:Hid (Fz w0 w (kb W 84 (wcl k a o (.slice q5 us.length c5) (.slice q6 ux.length c6)) :: kr a.P (some a.d) a.x :: kd a.d n a.D :: ks a.Q (some a.e) a.x :: ke a.e n a.D :: kl (.slice q5 us.length c5) us fs :: kl (.slice q6 ux.length c6) ux fs :: Y)):=h
 clear h
 go_enter func27,ntmps27
 go_wp2_with fail
 go_loopw [3] (fun u Z=>∃i:Nat,u=.int .i64 (i:Int)∧i≤us.length∧Hid (Fz w0 Z (kb W 84 (wcl k a o (.slice q5 us.length c5) (.slice q6 ux.length c6)) :: kr a.P (some a.d) a.x :: kd a.d n a.D :: ks a.Q (some a.e) a.x :: ke a.e n a.D :: kl (.slice q5 us.length c5) us fs :: kl (.slice q6 ux.length c6) ux fs :: Y))) (fun u _=>us.length-(intOf u).toNat)
 case atStart=>exact⟨0,rfl,by omega,HP⟩
 case round =>
  obtain ⟨i,rfl,hi,HPi⟩:=hrel
  clear HP
  have z6:wr.cell? ⟨W,6,none⟩=some (.slice q5 us.length c5):=wc_g (HPi.out.atb (i:=0) rfl).1 hk
  by_cases hlt:i<us.length
  ·obtain ⟨g5,rfl⟩:=HG5.out (by omega)
   obtain ⟨g6,rfl⟩:=HG6.out (by omega)
   obtain ⟨u,hu⟩:∃u,us[i]?=some u:=⟨_,List.getElem?_eq_getElem hlt⟩
   obtain ⟨u6,hu6⟩:∃u6,ux[i]?=some u6:=⟨_,List.getElem?_eq_getElem (by omega)⟩
   obtain ⟨l,hl⟩:∃l,fs[i]?=some l:=⟨_,List.getElem?_eq_getElem (by omega)⟩
   have hl64:=(HLS.out l (List.mem_of_getElem? hl)).2
   have HPd:Hid (Fz w0 wr.drew (kb W 84 (wcl k a o (.slice (some ⟨g5,0,none⟩) us.length c5) (.slice (some ⟨g6,0,none⟩) ux.length c6)) :: kr a.P (some a.d) a.x :: kd a.d n a.D :: ks a.Q (some a.e) a.x :: ke a.e n a.D :: kl (.slice (some ⟨g5,0,none⟩) us.length c5) us fs :: kl (.slice (some ⟨g6,0,none⟩) ux.length c6) ux fs :: Y)):=HPi.out.later (below_drawn 1)
   obtain ⟨pu,cu,hue,hE5⟩:=HPd.out.lsin (i:=5) rfl hu hl
   obtain ⟨pu6,cu6,hue6,hE6⟩:=HPd.out.lsin (i:=6) rfl hu6 hl
   subst hue;subst hue6
   have HI5:Hid (MIn wr.drew pu l.length l):=hE5
   have HI6:Hid (MIn wr.drew pu6 l.length l):=hE6
   have HU:Hid (us[i]?=some (.slice pu l.length cu)):=hu
   have HU6:Hid (ux[i]?=some (.slice pu6 l.length cu6)):=hu6
   have i1:(i:Int)<(us.length:Int):=by omega
   have i6:(i:Int)<(ux.length:Int):=by omega
   clear hE5 hE6 HPi hu hu6 hl
   go_wp2_with fail
   refine wp_region_noPanic ?_
   refine wp_region_held_drew (S:=fun Z=>Fz w0 Z (kb W 84 (wcl k a o (.slice (some ⟨g5,0,none⟩) us.length c5) (.slice (some ⟨g6,0,none⟩) ux.length c6)) :: kr a.P (some a.d) a.x :: kd a.d n a.D :: ks a.Q (some a.e) a.x :: ke a.e n a.D :: kl (.slice (some ⟨g5,0,none⟩) us.length c5) us fs :: kl (.slice (some ⟨g6,0,none⟩) ux.length c6) ux fs :: Y)) (by kernel_rfl) HPd.out (fun hHeld=>?_)
   generalize wr.drew=wD at *
   clear HPd
   refine tk 0 hHeld ?_
   refine tk 1 hHeld ?_
   refine tk 2 hHeld ?_
   refine tkl 3 hHeld (fun _ s=>wc_g (s.atb (i:=0) rfl).1 hk) ?_
   refine tk 4 hHeld ?_
   refine tk 5 hHeld ?_
   refine tkl 6 hHeld (fun _ s=>s.lscell (i:=5) rfl HU.out) ?_
   refine tk 7 hHeld ?_
   refine tk 8 hHeld ?_
   refine tk 9 hHeld ?_
   refine tkl 10 hHeld (fun _ s=>wc_w (s.atb (i:=0) rfl).1 hk) ?_
   refine tk 11 hHeld ?_
   refine tk 12 hHeld ?_
   refine tkl 13 hHeld (fun _ s=>s.lscell (i:=6) rfl HU6.out) ?_
   refine tkr 14 fun Kc hKc=>?_
   go_simp
   refine (sameImages_eq pu pu6 l.length cu cu6 l _ HI5.out HI6.out (by omega)).mono ?_
   rintro e w2 ⟨rfl,hb⟩
   have hH:Fz w0 w2 (kb W 84 (wcl k a o (.slice (some ⟨g5,0,none⟩) us.length c5) (.slice (some ⟨g6,0,none⟩) ux.length c6)) :: kr a.P (some a.d) a.x :: kd a.d n a.D :: ks a.Q (some a.e) a.x :: ke a.e n a.D :: kl (.slice (some ⟨g5,0,none⟩) us.length c5) us fs :: kl (.slice (some ⟨g6,0,none⟩) ux.length c6) ux fs :: Y):=hHeld.later hb
   clear hb
   refine hKc.out _ _ hH (fun hHeld=>?_)
   clear hKc Kc
   refine tk 15 hHeld ?_
   have HPn:Hid (Fz w0 _ (kb W 84 (wcl k a o (.slice (some ⟨g5,0,none⟩) us.length c5) (.slice (some ⟨g6,0,none⟩) ux.length c6)) :: kr a.P (some a.d) a.x :: kd a.d n a.D :: ks a.Q (some a.e) a.x :: ke a.e n a.D :: kl (.slice (some ⟨g5,0,none⟩) us.length c5) us fs :: kl (.slice (some ⟨g6,0,none⟩) ux.length c6) ux fs :: Y)):=hHeld
   clear hHeld
   refine wpAnyH_done (by kernel_rfl) (NoPanic.normal ?_) _
   clear z6
   go_wp2_with fail
   go_roundw
   case rel=>exact⟨i+1,by congr 1,by omega,HPn⟩
   case measure=>simp[intOf];omega
  ·have HM0:Hid (Mkd fs fs 0 0):=Mkd.start fun l hl=>(HLS.out l hl).1
   have HQ0:Hid (Fz w0 wr (kb W 84 (wcl k a o (.slice q5 us.length c5) (.slice q6 ux.length c6)) :: kr a.P (some a.d) a.x :: kd a.d n a.D :: ks a.Q (some a.e) a.x :: ke a.e n a.D :: kl (.slice q5 us.length c5) us fs :: kl (.slice q6 ux.length c6) ux fs :: Y)):=HPi.out
   clear HPi
   go_wp2_with fail
   clear z6 hlt hi
   go_loopw [4] (fun u Z=>∃(i:Nat) (ls':List (List Im)),u=.int .i64 (i:Int)∧i≤us.length∧Hid (Fz w0 Z (kb W 84 (wcl k a o (.slice q5 us.length c5) (.slice q6 ux.length c6)) :: kr a.P (some a.d) a.x :: kd a.d n a.D :: ks a.Q (some a.e) a.x :: ke a.e n a.D :: kl (.slice q5 us.length c5) us ls' :: kl (.slice q6 ux.length c6) ux fs :: Y))∧Hid (Mkd fs ls' i 0)) (fun u _=>us.length-(intOf u).toNat)
   case atStart=>exact⟨0,fs,rfl,by omega,HQ0,HM0⟩
   case round =>
    obtain ⟨i,ls1,rfl,hi,HPi,HMi⟩:=hrel
    clear HQ0 HM0
    have z6:wr.cell? ⟨W,6,none⟩=some (.slice q5 us.length c5):=wc_g (HPi.out.atb (i:=0) rfl).1 hk
    by_cases hlt:i<us.length
    ·obtain ⟨g5,rfl⟩:=HG5.out (by omega)
     obtain ⟨u,hu⟩:∃u,us[i]?=some u:=⟨_,List.getElem?_eq_getElem hlt⟩
     obtain ⟨l,hl⟩:∃l,fs[i]?=some l:=⟨_,List.getElem?_eq_getElem (by omega)⟩
     have HU:Hid (us[i]?=some u∧fs[i]?=some l):=⟨hu,hl⟩
     have hl64:=(HLS.out l (List.mem_of_getElem? hl)).2
     have i1:(i:Int)<(us.length:Int):=by omega
     have HUS:Hid (∃pu cu,u=.slice pu l.length cu):=by
      obtain ⟨l',k1,k2,k3,-⟩:=HMi.out.each i l hl
      obtain ⟨p',c',e',-⟩:=HPi.out.lsin (i:=5) rfl hu k1
      exact⟨p',c',by rw[← k2];exact e'⟩
     obtain ⟨pu,cu,rfl⟩:=HUS.out
     clear hu hl HUS
     go_wp2_with fail
     clear z6
     go_loopw [5] (fun u Z=>∃(b:Nat) (ls':List (List Im)),u=.int .i64 (b:Int)∧b≤l.length∧Hid (Fz w0 Z (kb W 84 (wcl k a o (.slice (some ⟨g5,0,none⟩) us.length c5) (.slice q6 ux.length c6)) :: kr a.P (some a.d) a.x :: kd a.d n a.D :: ks a.Q (some a.e) a.x :: ke a.e n a.D :: kl (.slice (some ⟨g5,0,none⟩) us.length c5) us ls' :: kl (.slice q6 ux.length c6) ux fs :: Y))∧Hid (Mkd fs ls' i b)) (fun u _=>l.length-(intOf u).toNat)
     case atStart=>exact⟨0,ls1,rfl,by omega,HPi,HMi⟩
     case round =>
      obtain ⟨b,ls2,rfl,hb,HPk,HMk⟩:=hrel
      clear HPi HMi
      have z6:wr.cell? ⟨W,6,none⟩=some (.slice (some ⟨g5,0,none⟩) us.length c5):=wc_g (HPk.out.atb (i:=0) rfl).1 hk
      have y6:wr.cell? ⟨g5,i,none⟩=some (.slice pu l.length cu):=HPk.out.lscell (i:=5) rfl HU.out.1
      by_cases hlk:b<l.length
      ·obtain ⟨l',k1,k2,k3,-⟩:=HMk.out.each i l HU.out.2
       obtain ⟨gb,cb,Z',eu,hst,hPw⟩:=mark (m:=5) HPk.out rfl HU.out.1 k1 (k:=b) (by omega) (x:=mkA i) (mkA_wf (by omega))
       simp only[Value.slice.injEq] at eu
       obtain ⟨rfl,-,rfl⟩:=eu
       have HPw:Hid (Fz w0 Z' (kb W 84 (wcl k a o (.slice (some ⟨g5,0,none⟩) us.length c5) (.slice q6 ux.length c6)) :: kr a.P (some a.d) a.x :: kd a.d n a.D :: ks a.Q (some a.e) a.x :: ke a.e n a.D :: kl (.slice (some ⟨g5,0,none⟩) us.length c5) us (ls2.set i (l'.set b (mkA i))) :: kl (.slice q6 ux.length c6) ux fs :: Y)):=hPw
       have HMw:Hid (Mkd fs (ls2.set i (l'.set b (mkA i))) i (b+1)):=HMk.out.set HU.out.2 k1 hlk (by omega)
       have HST:Hid ((Instr.storeAt 155 (.pointer (some ⟨gb,b*33,none⟩)) (.agg (icells (mkA i)).toArray)).run prog wr=.ok () Z'):=hst
       have HBU:Hid ((Instr.build 155 #[(0,.int .i64 (-100-(i:Int)))]).run prog wr=.ok (.agg (icells (mkA i)).toArray) wr):=buildIb wr _
       have j1:(b:Int)<(l.length:Int):=by omega
       clear hst hPw k1 k2 k3 HPk HMk
       go_wp2_with ((with_reducible refine at_ops ?_);(first | ((refine wpList_build_is (vs:=[(0,.int .i64 (-100-(i:Int)))]) (by rfl) 155 rfl (by rfl) HBU.out ?_);simp only[Act.put,zA,zB,zC]) | (refine stI 155 HST.out ?_)))
       go_roundw
       case rel=>exact⟨b+1,_,by congr 1,by omega,HPw,HMw⟩
       case measure=>simp[intOf];omega
      ·have HMn:Hid (Mkd fs ls2 (i+1) 0):=HMk.out.next HU.out.2 (by omega)
       go_wp2_with fail
       go_roundw
       case rel=>exact⟨i+1,ls2,by congr 1,by omega,HPk,HMn⟩
       case measure=>simp[intOf];omega
    ·obtain ⟨W0,hW0⟩:∃W0,W0=wr:=⟨_,rfl⟩
     rw[← hW0] at HPi z6 ⊢
     clear hW0
     have q4:=HPi.out.lsat (i:=5) rfl
     have HLG:Hid (Lg W0 W0 us [] (fun j=>(fs.getD j []).length)):=by
      refine⟨fun j u hu=>?_,fun j x hx=>by simp at hx,Kept.refl _ _,fun j y g hy=>by simp at hy⟩
      have hjl:=(List.getElem?_eq_some_iff.1 hu).1
      obtain ⟨l,hl⟩:∃l,fs[j]?=some l:=⟨_,List.getElem?_eq_getElem (by omega)⟩
      obtain ⟨l',k1,k2,k3,k4,-⟩:=HMi.out.each j l hl
      have hr:=q4.each j u l' hu k1
      have e:=k4 (by omega)
      rw[show (fs.getD j [])=l by simp[List.getD,hl]]
      rw[e] at hr
      exact hr
     have HSEP:Hid (us.Pairwise fun u u'=>∀g,u.ownBlock=some g→u'.ownBlock≠some g):=q4.sep
     have HLT:Hid (∀u∈us,∀g,u.ownBlock=some g→g<W0.heap.size):=q4.ltu
     have HCL:Hid (∀Z,Kept (fun k=>∃u∈us,u.ownBlock=some k) W0 Z→Z.cell? ⟨W,6,none⟩=some (.slice q5 us.length c5)∧Z.ownsRow 0 92 1 (.slice q5 us.length c5) us.length us):=fun Z hK=>by
      obtain ⟨h1,h2⟩:=HPi.out.lsloose (i:=5) rfl hK
      exact⟨wc_g (h1.atb (i:=0) rfl).1 hk,h2⟩
     have HBW:Hid (∀Z,Kept (fun k=>∃u∈us,u.ownBlock=some k) W0 Z→Below w0.heap.size w0 Z):=fun Z hK=>(HPi.out.lsloose (i:=5) rfl hK).1.below
     obtain ⟨ns,hns⟩:∃ns:Nat→Nat,ns=fun j=>(fs.getD j []).length:=⟨_,rfl⟩
     rw[← hns] at HLG
     have HNS:Hid (∀j,ns j≤64):=fun j=>by
      rw[hns]
      rcases hl:fs[j]? with _ | l
      ·simp[List.getD,hl]
      ·simp only[List.getD,hl];exact (HLS.out l (List.mem_of_getElem? hl)).2
     have HV0:Hid (W0.ownsRow W0.heap.size 92 1 (.slice none 0 0) 0 []):=World.ownsRow_nil _ _ _ _
     clear q4 hns HPi HMi HLS HG6
     go_wp2_with fail
     clear z6 hlt hi
     go_loopw [6,7] (fun v u Z=>∃(i:Nat) (vs:List Value),u=.int .i64 (i:Int)∧i≤us.length∧Hid (vs.length=i)∧Hid (Lg W0 Z us vs ns)∧Hid (Z.ownsRow W0.heap.size 92 1 v vs.length vs)) (fun _ u _=>us.length-(intOf u).toNat)
     case atStart=>exact⟨0,[],rfl,by omega,rfl,HLG,HV0⟩
     case round =>
      obtain ⟨i,vs,rfl,hi,HVL,HL,HV⟩:=hrel
      clear HLG HV0
      have z6:=(HCL.out wr HL.out.kp).1
      by_cases hlt:i<us.length
      ·obtain ⟨g5,rfl⟩:=HG5.out (by omega)
       obtain ⟨u,hu⟩:∃u,us[i]?=some u:=⟨_,List.getElem?_eq_getElem hlt⟩
       have y6:wr.cell? ⟨g5,i,none⟩=some u:=by
        have:=own_range (HCL.out wr HL.out.kp).2 i _ hu
        rwa [Nat.zero_add] at this
       have HCU:Hid (Cu W0 wr us vs ns i 0 u):=HL.out.start HSEP.out HLT.out HVL.out hu
       obtain ⟨pu,cu,hue,-⟩:=own_slice (show wr.ownsRow 0 155 33 u (rp (ns i+0) i).length (IC (rp (ns i+0) i)) from HCU.out.row)
       rw[List.length_replicate,Nat.add_zero] at hue
       subst hue
       have i1:(i:Int)<(us.length:Int):=by omega
       clear hu HL
       go_wp2_with fail
       clear z6 y6
       go_loopw [8,9] (fun x k Z=>∃b:Nat,k=.int .i64 (b:Int)∧b≤16∧Hid (Cu W0 Z us vs ns i b x)∧Hid (Z.ownsRow W0.heap.size 92 1 u6 vs.length vs)) (fun _ k _=>16-(intOf k).toNat)
       case atStart=>exact⟨0,rfl,by omega,HCU,HV⟩
       case round =>
        obtain ⟨b,rfl,hb,HC,HW⟩:=hrel
        clear HCU HV
        by_cases hb16:b<16
        ·obtain ⟨g,cap,w1,hap,hcu,hoth⟩:=HC.out.app (by omega) (by have:=HNS.out i;omega)
         have HAP:Hid ((Builtin.append_ #[92,92] 92 #[u8,.slice (some ⟨wr.heap.size,0,none⟩) 1 1]).run prog (wr.alloc (.cells (icells (mkA i)).toArray 155))=.ok (.slice (some ⟨g,0,none⟩) (ns i+b+1) cap) w1):=hap
         have HBU:Hid ((Instr.build 155 #[(0,.int .i64 (-100-(i:Int)))]).run prog wr=.ok (.agg (icells (mkA i)).toArray) wr):=buildIb wr _
         have HBS:Hid ((Instr.buildSlice 92 1 #[(0,.agg (icells (mkA i)).toArray)]).run prog wr=.ok (.slice (some ⟨wr.heap.size,0,none⟩) 1 1) (wr.alloc (.cells (icells (mkA i)).toArray 155))):=build_im wr _ (zs_len 32)
         have HCn:Hid (Cu W0 w1 us vs ns i (b+1) (.slice (some ⟨g,0,none⟩) (ns i+b+1) cap)):=hcu
         have HWn:Hid (w1.ownsRow W0.heap.size 92 1 u6 vs.length vs):=hoth _ _ _ _ _ _ (by decide) HW.out
         have b1:(b:Int)<16:=by omega
         clear hap hcu hoth HC HW
         go_wp2_with ((with_reducible refine at_ops ?_);(first | ((refine wpList_build_is (vs:=[(0,.int .i64 (-100-(i:Int)))]) (by rfl) 155 rfl (by rfl) HBU.out ?_);simp only[Act.put,zA,zB,zC]) | ((refine wpList_slice_is (u:=.agg (icells (mkA i)).toArray) (by rfl) 92 rfl rfl HBS.out ?_);simp only[Act.put,zA,zB,zC]) | ((refine wpList_append_is (by rfl) rfl rfl rfl rfl HAP.out ?_);simp only[Act.put,zA,zB,zC])))
         go_roundw
         case rel=>exact⟨b+1,by congr 1,by omega,HCn,HWn⟩
         case measure=>simp[intOf];omega
        ·obtain rfl:b=16:=by omega
         have hD:=HC.out.done HVL.out
         obtain ⟨px,cx,hx,-⟩:=own_slice (show wr.ownsRow 0 155 33 u8 (rp (ns i+16) i).length (IC (rp (ns i+16) i)) from HC.out.row)
         rw[List.length_replicate] at hx
         subst hx
         obtain ⟨p',c',w2,hap,hr2,hk2⟩:=own_app HW.out (x:=.slice px (ns i+16) cx) rfl (by rw[HVL.out];omega) hD.kp.size
         have HAP:Hid ((Builtin.append_ #[82,82] 82 #[u6,.slice (some ⟨wr.heap.size,0,none⟩) 1 1]).run prog (wr.alloc (.cells #[.slice px (ns i+16) cx] 92))=.ok (.slice p' (vs.length+1) c') w2):=hap
         have HLn:Hid (Lg W0 w2 us (vs++[Value.slice px (ns i+16) cx]) ns):=hD.far (by decide) HW.out hk2
         have HVn:Hid (w2.ownsRow W0.heap.size 92 1 (.slice p' (vs.length+1) c') (vs++[Value.slice px (ns i+16) cx]).length (vs++[Value.slice px (ns i+16) cx])):=by rw[List.length_append];exact hr2
         have HVLn:Hid ((vs++[Value.slice px (ns i+16) cx]).length=i+1):=by show _=_;rw[List.length_append,HVL.out];rfl
         clear hD hap hr2 hk2 HC HW
         generalize vs++[Value.slice px (ns i+16) cx]=vs' at *
         generalize vs.length+1=m' at *
         go_wp2_with ((with_reducible refine at_ops ?_);(refine wpList_append_is (u1:=u6) (u2:=.slice (some ⟨wr.heap.size,0,none⟩) 1 1) (by rfl) rfl rfl rfl rfl HAP.out ?_);simp only[Act.put,zA,zB,zC])
         go_roundw
         case rel=>exact⟨i+1,vs',by congr 1,by omega,HVLn,HLn,HVn⟩
         case measure=>simp[intOf];omega
      ·obtain ⟨pV,cV,hV,-,hgV⟩:=own_slice HV.out
       have hvl:vs.length=us.length:=by rw[HVL.out];omega
       rw[hvl] at hV
       subst hV
       have HVu:Hid (wr.ownsRow W0.heap.size 92 1 (.slice pV us.length cV) us.length vs):=by
        have hv2:=HV.out
        rw[hvl] at hv2
        exact hv2
       go_wp2_with fail
       clear hlt hi
       go_loop [10] (fun u=>∃j:Nat,u=.int .i64 (j:Int)∧j≤us.length) (fun u=>us.length-(intOf u).toNat)
       case atStart=>exact⟨0,rfl,by omega⟩
       case round =>
        obtain ⟨j,rfl,hj⟩:=hrel
        by_cases hlt:j<us.length
        ·obtain ⟨g5,rfl⟩:=HG5.out (by omega)
         have HGV:Hid (∃gV,pV=some ⟨gV,0,none⟩):=by
          rcases HVu.out.2 with ⟨_,e⟩ | ⟨g,cap,cur,e,_⟩
          ·omega
          ·injection e with e1 _ _;exact⟨g,e1⟩
         obtain ⟨gV,rfl⟩:=HGV.out
         obtain ⟨u,hu⟩:∃u,us[j]?=some u:=⟨_,List.getElem?_eq_getElem hlt⟩
         obtain ⟨x,hx⟩:∃x,vs[j]?=some x:=⟨_,List.getElem?_eq_getElem (by omega)⟩
         have y6:wr.cell? ⟨g5,j,none⟩=some u:=by
          have:=own_range (HCL.out wr HL.out.kp).2 j _ hu
          rwa [Nat.zero_add] at this
         have yV:wr.cell? ⟨gV,j,none⟩=some x:=by
          have:=own_range HVu.out j _ hx
          rwa [Nat.zero_add] at this
         have wfA:∀k,ImsWf (rp k j):=fun k e he=>by rw[List.eq_of_mem_replicate he];exact mkA_wf (by omega)
         obtain ⟨pu,cu,hue,hEu,-,-⟩:=IOwn.in (HL.out.a j u hu) (wfA _)
         obtain ⟨px,cx,hxe,hEx,-,-⟩:=IOwn.in (HL.out.b j x hx) (wfA _)
         rw[List.length_replicate] at hue hEu hxe hEx
         subst hue;subst hxe
         have HEu:Hid (MIn wr pu (ns j) (rp (ns j) j)):=hEu
         have HEx:Hid (MIn wr px (ns j+16) (rp (ns j+16) j)):=hEx
         have n64:=HNS.out j
         have j1:(j:Int)<(us.length:Int):=by omega
         clear hu hx hEu hEx wfA HGV hgV
         generalize ns j=nj at *
         go_wp2_with fail
         go_loop [11] (fun u=>∃k:Nat,u=.int .i64 (k:Int)∧k≤nj+16) (fun u=>nj+16-(intOf u).toNat)
         case atStart=>exact⟨0,rfl,by omega⟩
         case round =>
          obtain ⟨b,rfl,hb⟩:=hrel
          by_cases hlk:b<nj+16
          ·obtain ⟨bx,ox,ex,-⟩:=HEx.out.cells (by omega)
           subst ex
           have cx0:wr.cell? ⟨bx,ox+b*33,none⟩=some (.int .i64 (-100-(j:Int))):=HEx.out.c0 (k:=b) (i:=mkA j) (by simp[rp,hlk])
           by_cases hlu:b<nj
           ·obtain ⟨bu,ou,eu,-⟩:=HEu.out.cells (by omega)
            subst eu
            have cu0:wr.cell? ⟨bu,ou+b*33,none⟩=some (.int .i64 (-100-(j:Int))):=HEu.out.c0 (k:=b) (i:=mkA j) (by simp[rp,hlu])
            go_wp2_with fail
            go_round
            case rel=>exact⟨b+1,by congr 1,by omega⟩
            case measure=>simp[intOf];omega
           ·go_wp2_with fail
            go_round
            case rel=>exact⟨b+1,by congr 1,by omega⟩
            case measure=>simp[intOf];omega
          ·go_wp2_with fail
           go_round
           case rel=>exact⟨j+1,by congr 1,by omega⟩
           case measure=>simp[intOf];omega
        ·go_wp2
         go_ret
         exact⟨rfl,HBW.out wr HL.out.kp⟩
end
end Ap
section
variable {w0 w:World} {W k n b:Nat} {c:Sup}
theorem P2.tells (h:P2 w0 w W k n c b)(hk:k<2)(hb:b≤200):Calls prog 26 #[qp W,.int .i64 k] w fun e w'=>e=.returned (.bool true)∧P2 w0 w' W k n c (b+1):=by
 obtain ⟨a',ok',hc',hw',a,vg,vw,us,ux,fs,h,ok,hc,hws,hus⟩:=h
 refine (tells_at h ok hk (by omega) (by omega)).mono ?_
 rintro e w' ⟨rfl,vg2,vw2,us2,ux2,fs2,hl,h2⟩
 exact⟨rfl,a',ok',hc',by omega,a,vg2,vw2,us2,ux2,fs2,h2,ok,hc,by omega,by omega⟩
theorem P2.apart (h:P2 w0 w W k n c b)(hk:k<2)(hb:b≤200):Calls prog 27 #[qp W] w fun e w'=>e=.returned (.bool true)∧Below w0.heap.size w0 w':=by
 obtain ⟨a',ok',hc',hw',a,vg,vw,us,ux,fs,h,ok,hc,hws,hus⟩:=h
 exact Ap.apart_any h hk (by omega)
theorem P2.plays (ht:Tab w0)(h:P2 w0 w W 0 n c b)(hb:b≤200){v:OpV}(hoi:OpIn w0 v):Calls prog 25 #[qp W,.agg (ocells v).toArray] w fun e w'=>e=.returned (.bool true)∧P2 w0 w' W 0 n c (b+1):=by
 obtain ⟨k,hv⟩:∃k:Nat,v.wh % 2=(k:Int):=⟨(v.wh % 2).toNat,by omega⟩
 have hk:k<2:=by omega
 have h1:P2 w0 w W k n c b:=by
  by_cases e:k=0
  ·rw[e];exact h
  ·have e1:k=1:=by omega
   rw[e1];exact h.flip (by decide) rfl
 have hback:∀w',P2 w0 w' W k n c (b+1)→P2 w0 w' W 0 n c (b+1):=fun w' h=>by
  by_cases e:k=0
  ·rw[e] at h;exact h
  ·have e1:k=1:=by omega
   rw[e1] at h;exact h.flip (by decide) rfl
 obtain ⟨a',ok',hc',hw',hp⟩:=h1
 have mk:∀(e:Ending) (w':World),(e=.returned (.bool true)∧Pl w0 w' W k n c a'.ot (b+1) (a'.kds n))→e=.returned (.bool true)∧P2 w0 w' W 0 n c (b+1):=fun e w' h=>⟨h.1,hback w' ⟨a',ok',hc',by omega,h.2⟩⟩
 by_cases h2:v.kd=2
 ·exact (plays_on ht hp hk hb hv h2).mono fun e w' h=>⟨h.1,hback w' h.2⟩
 ·by_cases h1:v.kd=1
  ·exact (plays_step ht hp hk hb hv h1).mono mk
  ·by_cases h3:v.kd=3
   ·exact (plays_nodisk ht hp hk hb hv h3).mono mk
   ·by_cases h4:v.kd=4
    ·exact (plays_crash ht hp hk hb hv hoi h4).mono mk
    ·by_cases h5:v.kd=5
     ·exact (plays_break ht hp hk hb hv hoi h5).mono mk
     ·by_cases h6:v.kd=6
      ·exact (plays_write ht hp hk hb hv hoi h6).mono mk
      ·exact (plays_none ht hp hk hb hv ⟨h1,h2,h3,h4,h5,h6⟩).mono mk
end
structure OpsIn (w:World) (p:Option Addr) (n:Nat) (vs:List OpV):Prop where
 len:vs.length=n
 rows:0<n→∃b o,p=some ⟨b,o,none⟩∧b<w.heap.size∧∀(i:Nat) v,vs[i]?=some v→w.rangeAt b (o+i*5) (ocells v)
 ins:∀v∈vs,OpIn w v
theorem OpsIn.at {w w':World}{p:Option Addr}{n:Nat}{vs:List OpV}(h:OpsIn w p n vs)(hb:Below w.heap.size w w'){r:Nat}(hr:r<n):∃(b o:Nat) (v:OpV),p=some ⟨b,o,none⟩∧(Instr.loadAt 87 (.pointer (some ⟨b,o+r*5,none⟩))).run prog w'=.ok (.agg (ocells v).toArray) w'∧OpIn w v:=by
 obtain ⟨b,o,e,hl,hc⟩:=h.rows (by omega)
 have hlt:r<vs.length:=by rw[h.len];exact hr
 have hin:=h.ins _ (List.getElem_mem hlt)
 exact⟨b,o,vs[r],e,run_loadAt_mid w' b (o+r*5) 87 (ocells vs[r]) _ (rangeAt_same (hc r _ (List.getElem?_eq_getElem hlt)) (hb.block b hl)) underlying87 rfl (by kernel_rfl),hin⟩
theorem build_r2 (w:World)(P:Nat):(Instr.build 79 #[(0,qp P),(1,.pointer none)]).run prog w=.ok (.agg #[qp P,.pointer none]) w:=run_build w 79 _ _ (by kernel_rfl)
theorem build_d2 (w:World)(P:Nat):(Instr.build 80 #[(0,qp P),(1,.pointer none)]).run prog w=.ok (.agg #[qp P,.pointer none]) w:=run_build w 80 _ _ (by kernel_rfl)
theorem build_x2 (w:World)(P:Nat):(Instr.build 81 #[(0,qp P),(1,.pointer none)]).run prog w=.ok (.agg #[qp P,.pointer none]) w:=run_build w 81 _ _ (by kernel_rfl)
abbrev no3:Ot:=⟨.pointer none,.pointer none,.pointer none⟩
theorem build_world (w:World)(a:Hf):(Instr.build 84 #[(0,.agg #[qp a.P,.pointer none]),(1,.agg #[qp a.d,.pointer none]),(2,.agg #[qp a.Q,.pointer none])]).run prog w=.ok (.agg (wcl 0 a no3 (.slice none 0 0) (.slice none 0 0)).toArray) w:=run_build w 84 _ _ (by kernel_rfl)
abbrev op2:OpV:=⟨2,0,0,none,0,0,[],none,0,0,[]⟩
theorem build_op2 (w:World):(Instr.build 87 #[(0,.int .i64 2)]).run prog w=.ok (.agg (ocells op2).toArray) w:=run_build w 87 _ _ (by kernel_rfl)
section
variable {w0 w:World} {A B C D E F G:Kd} {Y:List Kd}
theorem Fz.stpick (h:Fz w0 w (A :: B :: C :: D :: E :: F :: G :: Y)):Fz w0 w (C :: E :: G :: D :: F :: A :: B :: Y):=by
 refine h.pick (fun i=>match i with | 0=>2 | 1=>4 | 2=>6 | 3=>3 | 4=>5 | 5=>0 | 6=>1 | i+7=>i+7) (fun i hi=>?_) (fun i j hi hj e=>?_)
 ·match i,hi with
  | 0,_ | 1,_ | 2,_ | 3,_ | 4,_ | 5,_ | 6,_=>exact⟨by simp,rfl⟩
  | i+7,hi=>exact⟨by simpa using hi,rfl⟩
 ·match i,j with
  | 0,j | 1,j | 2,j | 3,j | 4,j | 5,j | 6,j =>
   match j with
   | 0 | 1 | 2 | 3 | 4 | 5 | 6=>first | rfl | (exfalso;simp at e)
   | j+7=>exfalso;simp at e <;> omega
  | i+7,j =>
   match j with
   | 0 | 1 | 2 | 3 | 4 | 5 | 6=>exfalso;simp at e <;> omega
   | j+7=>have e:i+7=j+7:=e;omega
end
section
variable {w:World}
theorem redoPlays_no (ht:Tab w)(cx:Sup)(hc:¬MayC cx)(more:Int)(a:Option Addr)(m cp:Nat)(c:Sup)(sa:Option Addr)(sn sc:Nat):Calls prog 5 #[.agg (hcl cx more a m cp).toArray,.agg (ccells c).toArray,.slice sa sn sc] w fun e w'=>e=.returned (.bool true)∧Below w.heap.size w w':=by
 have h1:=(Fz.start w).newa (hcl cx more a m cp) 26
 have h2:=h1.newa (ccells c) 23
 obtain ⟨B,hB⟩:∃B,w.heap.size=B:=⟨_,rfl⟩
 rw[hB] at h2
 obtain ⟨C,hC⟩:∃C,(w.alloc (.cells (hcl cx more a m cp).toArray 26)).heap.size=C:=⟨_,rfl⟩
 rw[hC] at h2
 have H1:Hid (Fz w ((w.alloc (.cells (hcl cx more a m cp).toArray 26)).alloc (.cells (ccells c).toArray 23)) [kb C 23 (ccells c),kb B 26 (hcl cx more a m cp)]):=h2
 clear h1 h2
 go_enter func5,ntmps5
 go_wp2_with fail
 clear hB hC
 refine (fixed_is (H1.out.tab ht)).mono ?_
 rintro e w2 ⟨rfl,hb⟩
 have H2:Hid (Fz w w2 [kb C 23 (ccells c),kb B 26 (hcl cx more a m cp)]):=H1.out.later hb
 have HL:Hid (_):=hcl_load (H2.out.atb (i:=1) rfl).1
 clear hb H1
 go_wp2_with ((with_reducible refine at_ops ?_);(refine wpList_load_is (by rfl) 26 rfl rfl HL.out ?_);simp only[Act.put,zA,zB,zC])
 refine (image_no cx hc more a m cp).mono ?_
 rintro e w3 ⟨rfl,hb⟩
 have HZ:Hid (Below w.heap.size w w3):=(H2.out.later hb).below
 clear hb H2 HL
 go_wp2
 go_ret
 exact⟨rfl,HZ.out⟩
theorem redoPlays_yes (ht:Tab w)(cx:Sup)(hcx:MayC cx)(more:Int){a:Option Addr}{m cp:Nat}{l:List LW}(hS:SIn w a m l)(hm:m≤140737488355328)(c:Sup){sa:Option Addr}{sn:Nat}(sc:Nat){vs:List OpV}(hvs:OpsIn w sa sn vs):Calls prog 5 #[.agg (hcl cx more a m cp).toArray,.agg (ccells c).toArray,.slice sa sn sc] w fun e w'=>e=.returned (.bool true)∧Below w.heap.size w w':=by
 have h1:=(Fz.start w).newa (hcl cx more a m cp) 26
 have h2:=h1.newa (ccells c) 23
 obtain ⟨B,hB⟩:∃B,w.heap.size=B:=⟨_,rfl⟩
 rw[hB] at h2
 obtain ⟨C,hC⟩:∃C,(w.alloc (.cells (hcl cx more a m cp).toArray 26)).heap.size=C:=⟨_,rfl⟩
 rw[hC] at h2
 have H1:Hid (Fz w ((w.alloc (.cells (hcl cx more a m cp).toArray 26)).alloc (.cells (ccells c).toArray 23)) [kb C 23 (ccells c),kb B 26 (hcl cx more a m cp)]):=h2
 clear h1 h2
 have HSI:Hid (SIn w a m l):=hS
 have HVS:Hid (OpsIn w sa sn vs):=hvs
 clear hS hvs
 go_enter func5,ntmps5
 go_wp2_with fail
 clear hB hC
 refine (fixed_is (H1.out.tab ht)).mono ?_
 rintro e w2 ⟨rfl,hb⟩
 have H2:Hid (Fz w w2 [kb C 23 (ccells c),kb B 26 (hcl cx more a m cp)]):=H1.out.later hb
 have HL:Hid (_):=hcl_load (H2.out.atb (i:=1) rfl).1
 have HS2:Hid (SIn w2 a m l):=HSI.out.later H2.out.below
 clear hb H1
 go_wp2_with ((with_reducible refine at_ops ?_);(refine wpList_load_is (by rfl) 26 rfl rfl HL.out ?_);simp only[Act.put,zA,zB,zC])
 refine (image_is cx hcx more HS2.out hm).mono ?_
 rintro e w3 ⟨g,cap,k,bs,rfl,ho,hbl,hby,hkc,hk3,hk130,hb⟩
 have H3:Hid (Fz w w3 [ky (.slice (some ⟨g,0,none⟩) (64*k) cap) bs,kb C 23 (ccells c),kb B 26 (hcl cx more a m cp)]):=H2.out.push hb (u:=.byt _ bs) (fun _=>by show w3.ownsRow 0 5 1 _ bs.length _;rw[hbl];exact own_zero ho) (fun b hb=>(World.ownsRow.lt ho b hb).1) rfl
 have hB3:=H3.out.biny (i:=0) rfl hbl hby
 clear ho hb H2 HL HS2 HSI
 have hk0:((64*(k:Int)) == 0)=false:=by simp;omega
 go_wp2_with fail
 refine (load_good g 0 (64*k) cap k bs _ hB3 rfl hkc (by omega) (by omega)).mono ?_
 rintro e w4 ⟨p,rfl,hd,hb⟩
 have H4:Hid (Fz w w4 [kd p k ⟨bs,[]⟩,ky (.slice (some ⟨g,0,none⟩) (64*k) cap) bs,kb C 23 (ccells c),kb B 26 (hcl cx more a m cp)]):=H3.out.newd (D:=⟨bs,[]⟩) hb hd
 have hB4:=H4.out.biny (i:=1) rfl hbl hby
 clear hd hb hB3 H3
 go_wp2_with fail
 refine (rload_good g 0 (64*k) cap k bs _ hB4 rfl (by omega) (by omega)).mono ?_
 rintro e w5 ⟨q,rfl,hd,hb⟩
 have H5:Hid (Fz w w5 (ke q k ⟨bs,[]⟩ :: kd p k ⟨bs,[]⟩ :: ky (.slice (some ⟨g,0,none⟩) (64*k) cap) bs :: kb C 23 (ccells c) :: [kb B 26 (hcl cx more a m cp)])):=H4.out.newe (D:=⟨bs,[]⟩) hb hd
 have HC5:Hid (_):=loadC (H5.out.atb (i:=3) rfl).1
 clear hd hb hB4 H4 hk0
 go_wp2_with ((with_reducible refine at_ops ?_);(refine wpList_load_is (by rfl) 23 rfl rfl HC5.out ?_);simp only[Act.put,zA,zB,zC])
 by_cases hc:MayC c
 ·by_cases hn:(k:Int)=1+c.bl+c.lc
  ·refine (new_ok (j:=1) c hc H5.out rfl hn).mono ?_
   rintro e w6 ⟨P,rfl,h6⟩
   have H6:Hid (Fz w w6 (kr P (some p) (r0 c) :: ke q k ⟨bs,[]⟩ :: kd p k ⟨bs,[]⟩ :: ky (.slice (some ⟨g,0,none⟩) (64*k) cap) bs :: kb C 23 (ccells c) :: [kb B 26 (hcl cx more a m cp)])):=h6
   have HC6:Hid (_):=loadC (H6.out.atb (i:=4) rfl).1
   have HN:Hid ((k:Int)=1+c.bl+c.lc):=hn
   clear h6 H5 HC5 hn
   go_wp2_with ((with_reducible refine at_ops ?_);(refine wpList_load_is (by rfl) 23 rfl rfl HC6.out ?_);simp only[Act.put,zA,zB,zC])
   refine (rnew_ok (j:=1) c hc H6.out rfl HN.out).mono ?_
   rintro e w7 ⟨Q,rfl,h7⟩
   have H7:Hid (Fz w w7 (ks Q (some q) (r0 c) :: kr P (some p) (r0 c) :: ke q k ⟨bs,[]⟩ :: kd p k ⟨bs,[]⟩ :: ky (.slice (some ⟨g,0,none⟩) (64*k) cap) bs :: kb C 23 (ccells c) :: [kb B 26 (hcl cx more a m cp)])):=h7
   have HB1:Hid (_):=build_r2 w7 P
   have HB2:Hid (_):=build_d2 w7 p
   have HB3:Hid (_):=build_x2 w7 Q
   have HB4:Hid (_):=build_world w7 ⟨P,p,Q,q,r0 c,⟨bs,[]⟩⟩
   obtain ⟨W,hW⟩:∃W,w7.heap.size=W:=⟨_,rfl⟩
   have h8:=H7.out.newa (wcl 0 ⟨P,p,Q,q,r0 c,⟨bs,[]⟩⟩ no3 (.slice none 0 0) (.slice none 0 0)) 84
   rw[hW] at h8
   obtain ⟨w8,hw8⟩:∃Z,w7.alloc (.cells (wcl 0 ⟨P,p,Q,q,r0 c,⟨bs,[]⟩⟩ no3 (.slice none 0 0) (.slice none 0 0)).toArray 84)=Z:=⟨_,rfl⟩
   rw[hw8] at h8
   have h8':Fz w w8 (XP W 0 k ⟨P,p,Q,q,r0 c,⟨bs,[]⟩⟩ no3 (.slice none 0 0) (.slice none 0 0) [] [] [] (ky (.slice (some ⟨g,0,none⟩) (64*k) cap) bs :: kb C 23 (ccells c) :: [kb B 26 (hcl cx more a m cp)])):=Fz.stpick h8.nolists.nolists
   have HPL:Hid (Pl w w8 W 0 k c no3 0 (ky (.slice (some ⟨g,0,none⟩) (64*k) cap) bs :: kb C 23 (ccells c) :: [kb B 26 (hcl cx more a m cp)])):=⟨_,_,_,_,_,_,h8',start_ok hc HN.out,rfl,Nat.le_refl _,Nat.le_refl _⟩
   have HB5:Hid (_):=build_op2 w8
   clear h7 h8 h8' H6 HC6 H7
   go_wp2_with ((with_reducible refine at_ops ?_);(first | (refine wpList_build_is (vs:=[(0,qp P),(1,.pointer none)]) (by rfl) 79 rfl (by rfl) HB1.out ?_) | (refine wpList_build_is (vs:=[(0,qp p),(1,.pointer none)]) (by rfl) 80 rfl (by rfl) HB2.out ?_) | (refine wpList_build_is (vs:=[(0,qp Q),(1,.pointer none)]) (by rfl) 81 rfl (by rfl) HB3.out ?_) | (refine wpList_build_is (vs:=[(0,.agg #[qp P,.pointer none]),(1,.agg #[qp p,.pointer none]),(2,.agg #[qp Q,.pointer none])]) (by rfl) 84 rfl (by rfl) HB4.out ?_) | (refine wpList_build_is (vs:=[(0,.int .i64 2)]) (by rfl) 87 rfl (by rfl) HB5.out ?_));simp only[Act.put,zA,zB,zC])
   refine (plays_on (v:=op2) ht HPL.out (by decide) (by decide) rfl rfl).mono ?_
   rintro e w9 ⟨rfl,h9⟩
   have H9:Hid (P2 w w9 W 0 k c (0+1)):=h9
   clear h9 HPL HB1 HB2 HB3 HB4 HB5 hw8 hW
   go_wp2_with fail
   go_loopw [17,18] (fun okv iv wr=>∃r:Nat,okv=.bool true∧iv=.int .i64 r∧r≤70∧r≤sn∧Hid (P2 w wr W 0 k c (r+1))) (fun _ iv _=>sn-(intOf iv).toNat)
   case atStart=>exact⟨0,rfl,rfl,by omega,by omega,H9⟩
   case round =>
    obtain ⟨r,rfl,rfl,hr70,hrn,HP⟩:=hrel
    clear H9
    by_cases hlt:r<sn∧r<70
    ·have r1:(r:Int)<(sn:Int):=by omega
     have r2:(r:Int)<70:=by omega
     have r0':(0:Int)≤(r:Int):=by omega
     obtain ⟨a',ok',hc',hw',a2,vg,vw,us,ux,fs,hfs,-⟩:=HP.out
     obtain ⟨ob,oo,v,rfl,hld,hin⟩:=HVS.out.at hfs.below hlt.1
     have HLD:Hid (_):=hld
     have HIN:Hid (OpIn w v):=hin
     clear hfs hld hin ok' hc' hw'
     go_wp2_with ((with_reducible refine at_ops ?_);(refine wpList_load_is (by rfl) 87 rfl rfl HLD.out ?_);simp only[Act.put,zA,zB,zC])
     refine (P2.plays ht HP.out (by omega) HIN.out).mono ?_
     rintro e w10 ⟨rfl,h10⟩
     have H10:Hid (P2 w w10 W 0 k c (r+1+1)):=h10
     clear h10 HP HLD HIN
     go_wp2_with fail
     go_roundw
     case rel=>exact⟨r+1,by trivial,by congr 1,by omega,by omega,H10⟩
     case measure=>simp[intOf];omega
    ·have hg1:¬((r:Int)<(sn:Int))∨((r:Int)<(sn:Int)∧¬(r:Int)<70):=by omega
     clear hlt
     rcases hg1 with hg1 | ⟨hg0,hg1⟩
     all_goals
      go_wp2_with fail
      refine (P2.tells HP.out (by decide) (by omega)).mono ?_
      rintro e w11 ⟨rfl,h11⟩
      have H11:Hid (P2 w w11 W 1 k c (r+1+1)):=h11.flip (by decide) rfl
      clear h11 HP
      go_wp2_with fail
      refine (P2.tells H11.out (by decide) (by omega)).mono ?_
      rintro e w12 ⟨rfl,h12⟩
      have H12:Hid (P2 w w12 W 1 k c (r+1+1+1)):=h12
      clear h12 H11
      go_wp2_with fail
      refine (P2.apart H12.out (by decide) (by omega)).mono ?_
      rintro e w13 ⟨rfl,hz⟩
      have HZ:Hid (Below w.heap.size w w13):=hz
      clear hz H12
      go_wp2
      go_ret
      exact⟨rfl,HZ.out⟩
  ·refine (new_len (j:=1) c hc H5.out rfl hn).mono ?_
   rintro e w6 ⟨rfl,h6⟩
   have H6:Hid (Fz w w6 (ke q k ⟨bs,[]⟩ :: kd p k ⟨bs,[]⟩ :: ky (.slice (some ⟨g,0,none⟩) (64*k) cap) bs :: kb C 23 (ccells c) :: [kb B 26 (hcl cx more a m cp)])):=h6
   have HC6:Hid (_):=loadC (H6.out.atb (i:=3) rfl).1
   have HN:Hid (¬(k:Int)=1+c.bl+c.lc):=hn
   clear h6 H5 HC5 hn
   go_wp2_with ((with_reducible refine at_ops ?_);(refine wpList_load_is (by rfl) 23 rfl rfl HC6.out ?_);simp only[Act.put,zA,zB,zC])
   refine (rnew_len (j:=0) c hc H6.out rfl HN.out).mono ?_
   rintro e w7 ⟨rfl,h7⟩
   have HZ:Hid (Below w.heap.size w w7):=h7.below
   clear h7 H6 HC6
   go_wp2
   go_ret
   exact⟨rfl,HZ.out⟩
 ·refine (new_bad c hc H5.out).mono ?_
  rintro e w6 ⟨rfl,h6⟩
  have H6:Hid (Fz w w6 (ke q k ⟨bs,[]⟩ :: kd p k ⟨bs,[]⟩ :: ky (.slice (some ⟨g,0,none⟩) (64*k) cap) bs :: kb C 23 (ccells c) :: [kb B 26 (hcl cx more a m cp)])):=h6
  have HC6:Hid (_):=loadC (H6.out.atb (i:=3) rfl).1
  clear h6 H5 HC5
  go_wp2_with ((with_reducible refine at_ops ?_);(refine wpList_load_is (by rfl) 23 rfl rfl HC6.out ?_);simp only[Act.put,zA,zB,zC])
  refine (rnew_bad c hc H6.out).mono ?_
  rintro e w7 ⟨rfl,h7⟩
  have HZ:Hid (Below w.heap.size w w7):=h7.below
  clear h7 H6 HC6
  go_wp2
  go_ret
  exact⟨rfl,HZ.out⟩
theorem redoPlays_any (ht:Tab w)(cx:Sup)(more:Int){a:Option Addr}{m cp:Nat}{l:List LW}(hS:SIn w a m l)(hm:m≤140737488355328)(c:Sup){sa:Option Addr}{sn:Nat}(sc:Nat){vs:List OpV}(hvs:OpsIn w sa sn vs):Calls prog 5 #[.agg (hcl cx more a m cp).toArray,.agg (ccells c).toArray,.slice sa sn sc] w fun e w'=>e=.returned (.bool true)∧Below w.heap.size w w':=by
 by_cases hc:MayC cx
 ·exact redoPlays_yes ht cx hc more hS hm c sc hvs
 ·exact redoPlays_no ht cx hc more a m cp c sa sn sc
end
open Go.ChangeShapes Go.WideShapes Go.ChangeAt Go.Deep
theorem cells3':prog.cellsOf 3=1:=by kernel_rfl
theorem cellsOp:prog.cellsOf 87=5:=by kernel_rfl
theorem one_op {H:Type}{enc:TypeId × Value→H}{W:World}{cs:List Value}{n:Nat}{y:DataW H × List MemPlace}(hd:DataW.trod enc prog W 0 (fun _=>true) true n 87 cs=some y)(hw:∀k∈y.1.weights prog 87,k≤reachBytes):∃t:OpV,cs=ocells t∧OpIn W t:=by
 obtain ⟨xs,k,_,hy,hl,hxl,hf⟩:=DataW.trod_struct underlying87 hd
 rw[cellsOp] at hl
 have hxl5:xs.length=5:=hxl
 match xs,hxl5 with
 | [y0,y1,y2,y3,y4],_ =>
  have g0:DataW.trod enc prog W 0 (fun _=>true) true k 3 ((cs.drop 0).take (prog.cellsOf 3))=some y0:=hf 0 _ rfl
  have g1:DataW.trod enc prog W 0 (fun _=>true) true k 3 ((cs.drop 1).take (prog.cellsOf 3))=some y1:=hf 1 _ rfl
  have g2:DataW.trod enc prog W 0 (fun _=>true) true k 3 ((cs.drop 2).take (prog.cellsOf 3))=some y2:=hf 2 _ rfl
  have g3:DataW.trod enc prog W 0 (fun _=>true) true k 40 ((cs.drop 3).take (prog.cellsOf 40))=some y3:=hf 3 _ rfl
  have g4:DataW.trod enc prog W 0 (fun _=>true) true k 27 ((cs.drop 4).take (prog.cellsOf 27))=some y4:=hf 4 _ rfl
  rw[cells3'] at g0 g1 g2
  rw[cellsIs,one_cell cs 3 (by omega)] at g3
  rw[cellsBs,one_cell cs 4 (by omega)] at g4
  obtain ⟨kd,e0,_,_⟩:=DataW.trod_int underlying3 g0
  obtain ⟨wh,e1,_,_⟩:=DataW.trod_int underlying3 g1
  obtain ⟨bk,e2,_,_⟩:=DataW.trod_int underlying3 g2
  obtain ⟨ka,kn,kc,e3⟩:=slice_of underlying40 g3
  obtain ⟨da,dn,dc,e4⟩:=slice_of underlying27 g4
  rw[e3] at g3
  rw[e4] at g4
  simp only[List.map_cons,List.map_nil] at hy
  obtain ⟨K,hK,hkl⟩:=openedI (d:=y3.1) (p:=y3.2) ⟨k,g3⟩ (fun j hj=>hw j (by
   rw[hy]
   simp only[DataW.weights,underlying87]
   exact DataW.weights_mem_each (j:=3) (t:=40) rfl rfl _ hj))
  obtain ⟨bs,hB,_,hno,hdl⟩:=openedB (d:=y4.1) (p:=y4.2) ⟨k,g4⟩ (fun j hj=>hw j (by
   rw[hy]
   simp only[DataW.weights,underlying87]
   exact DataW.weights_mem_each (j:=4) (t:=27) rfl rfl _ hj))
  refine⟨⟨kd,wh,bk,ka,kn,kc,K,da,dn,dc,bs⟩,?_,hK,hkl,hB,hno,hdl⟩
  show cs=[.int .i64 kd,.int .i64 wh,.int .i64 bk,.slice ka kn kc,.slice da dn dc]
  have a0:=drop_one _ _ _ e0
  have a1:=drop_one _ _ _ e1
  have a2:=drop_one _ _ _ e2
  apply List.ext_getElem?
  intro i
  match i with
  | 0=>exact a0
  | 1=>exact a1
  | 2=>exact a2
  | 3=>rw[List.getElem?_eq_getElem (by omega),e3];rfl
  | 4=>rw[List.getElem?_eq_getElem (by omega),e4];rfl
  | j+5=>rw[List.getElem?_eq_none (by omega)];rfl
theorem openedOps {H:Type}{enc:TypeId × Value→H}{W:World}{a:Option Addr}{len cap:Nat}{d:DataW H}{p:List MemPlace}(h:DataW.Trod enc prog W 0 (fun _=>true) true 71 (.slice a len cap) d p)(hw:∀k∈d.weights prog 71,k≤reachBytes) :
  ∃l,OpsIn W a len l:=by
 obtain ⟨fuel,hf⟩:=h
 rcases open_slice underlying71 hf with ⟨hcs,_⟩ | ⟨x,l,c,m,n,D,Pl,hcs,_,hl,hm,hmm,hx,hcell⟩
 ·simp[Value.cells] at hcs
  obtain ⟨rfl,rfl,rfl⟩:=hcs
  exact⟨[],⟨rfl,fun h=>absurd h (Nat.lt_irrefl 0),fun t h=>(by cases h)⟩⟩
 ·simp[Value.cells] at hcs
  obtain ⟨rfl,rfl,rfl⟩:=hcs
  rw[cellsOp] at hcell
  simp only[Prod.mk.injEq] at hx
  have hlm:len≤m:=by rw[hmm];simpa using hl
  have each:∀i,i<len→∃t:OpV,(∀(j:Nat) v,(ocells t)[j]?=some v→W.cell? ((x.add (i*5)).add j)=some v)∧OpIn W t:=by
   intro i hi
   obtain ⟨cs',h1,h2⟩:=hcell i (by omega)
   obtain ⟨t,rfl,ht⟩:=one_op h2 (fun k hk=>hw k (by
    rw[hx.1]
    simp only[DataW.weights,underlying71,List.mem_cons,List.mem_append]
    exact .inr (.inl (weightsAll_mem (List.mem_map.2 ⟨i,List.mem_range.2 hi,rfl⟩) k hk))))
   refine⟨t,fun j v hv=>?_,ht⟩
   have hs:=World.cells?_some h1
   have hj:j<5:=(List.getElem?_eq_some_iff.1 hv).1
   rw[hs.2.2 j hj];exact hv
  refine⟨(List.range len).map fun i=>if h:i<len then (each i h).choose else ⟨0,0,0,none,0,0,[],none,0,0,[]⟩,⟨by simp,fun h0=>?_,fun t ht=>?_⟩⟩
  ·obtain ⟨b,o,s⟩:=x
   have hc0:=(each 0 h0).choose_spec.1 0 _ rfl
   obtain rfl:s=none:=by simpa [Addr.add] using World.cell?_spot hc0
   have e1:∀i j,((⟨b,o,none⟩:Addr).add (i*5)).add j=⟨b,o+i*5+j,none⟩:=fun i j=>by rw[add_plain];exact add_plain _ _ _
   refine⟨b,o,rfl,World.block_lt_of_cell? W _ hc0,fun k t ht=>?_⟩
   have hk':k<len:=by have:=(List.getElem?_eq_some_iff.1 ht).1;simpa using this
   rw[List.getElem?_map,List.getElem?_range hk'] at ht
   simp only[Option.map_some,hk',dif_pos,Option.some.injEq] at ht
   subst ht
   intro j v hv
   have:=(each k hk').choose_spec.1 j v hv
   rw[e1] at this
   exact this
  ·obtain ⟨i,hi,rfl⟩:=List.mem_map.1 ht
   have hi':=List.mem_range.1 hi
   simp only[hi',dif_pos]
   exact (each i hi').choose_spec.2
end Go.Proofs.YtdadpepfpiimgaaGreatDoor.Q
