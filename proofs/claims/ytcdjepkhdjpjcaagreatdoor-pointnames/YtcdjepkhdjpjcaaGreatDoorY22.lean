import Derived.Test.YtcdjepkhdjpjcaaGreatDoorY20
set_option maxHeartbeats 20000000
set_option maxRecDepth 100000
namespace Go.Proofs.YtcdjepkhdjpjcaaGreatDoor.E
open Go.Proofs.Tryz
open Go.RowKit
section
variable {w w':World} {G:Nat→Prop} {R:Nat} {vW vI:Value} {a:Ad} {ws is:List Who}
theorem rappend_at (h:RL w G R vW vI a ws is)(hR:¬G R)(ok:a.Ok)(hN:a.next≤1000)(t:Int):Calls prog 69 #[qp R,.int .u64 t] w fun e w'=>e=.returned (.int .i64 (a.appE t))∧RAf w w' G R (a.appS t):=by
 have hat:=rin_at h ok hN t
 have H:Hid (RL w G R vW vI a ws is):=h
 have HR:Hid (¬G R):=hR
 cases hf:fi t a.I with
 | none =>
  rw[atv_noI t hf] at hat
  have HA:Hid (Calls prog 130 #[qp R,.int .u64 t] w fun e w'=>e=.returned (.int .i64 (-1))∧w'=w):=hat
  have e1:Hid (a.appE t=110∧a.appS t=a):=⟨by simp[Ad.appE,hf],by simp[Ad.appS,Ad.appE,hf]⟩
  clear h hat ok hR
  go_enter func69,ntmps69
  go_wp2_with (go_at_call 130;refine HA.out.mono ?_;rintro e w' ⟨rfl,rfl⟩)
  go_ret
  rw[e1.out.1,e1.out.2]
  exact⟨rfl,RAf.same H.out (Below.refl _ _)⟩
 | some x =>
  obtain ⟨f,n⟩:=x
  rw[atv_yesI hf] at hat
  obtain ⟨hp,hm⟩:=h.at_some hf
  have hn:=ok.iform _ (fi_mem hf)
  simp only at hn
  have hmr:=ok.may.2.2.2.2.2.1
  have hil:is.length≤1000:=by have:=h.ilen;have:=ok.ilen;omega
  obtain ⟨p,c,ev,hc,hg⟩:=own_form h.ir
  obtain ⟨g,rfl⟩:=hg (by omega)
  have hr:=h.ir
  rw[ev] at hr
  obtain ⟨_,_,x2,_⟩:=hrow_cell hr hp
  have c7:w.cell? ⟨R,7,none⟩=some vI:=h.c 7
  rw[ev] at c7
  rw[hm.l] at x2
  have i1:((L.pos t (lefts a.I):Nat):Int)<(is.length:Int):=by omega
  by_cases hk:n=1
  ·have e1:Hid (a.appE t=120∧a.appS t=a):=⟨by simp[Ad.appE,hf,hk],by simp[Ad.appS,Ad.appE,hf,hk]⟩
   subst hk
   clear h hm hf ok hR ev hr hn hmr
   generalize L.pos t (lefts a.I)=pp at *
   have HA:Hid (Calls prog 130 #[qp R,.int .u64 t] w fun e w'=>e=.returned (.int .i64 (pp:Int))∧w'=w):=hat
   clear hat
   go_enter func69,ntmps69
   go_wp2_with (go_at_call 130;refine HA.out.mono ?_;rintro e w' ⟨rfl,hw⟩;subst hw)
   go_ret
   rw[e1.out.1,e1.out.2]
   exact⟨rfl,RAf.same H.out (Below.refl _ _)⟩
  ·have e1:Hid (a.appE t=0∧a.appS t={ a with used:=a.used+1,I:=decI t a.I }):=⟨by simp[Ad.appE,hf,hk],by simp[Ad.appS,Ad.appE,hf,hk]⟩
   have hb1:(n == 1)=false:=by rw[beq_eq_false_iff_ne];exact hk
   have HD:Hid (decI t a.I=a.I.set (L.pos t (lefts a.I)) (t,f,n-1)):=decI_pos hf
   have HM:Hid (Mi w G (t,f,n) is[L.pos t (lefts a.I)]):=hm
   have HCS:Hid (((hcells is).set (L.pos t (lefts a.I)*4+2) (.int .i64 (n-1))).set (L.pos t (lefts a.I)*4+3) (.bool true)=hcells (is.set (L.pos t (lefts a.I)) { is[L.pos t (lefts a.I)] with l:=n-1,b:=true })):=hcells_set is _ hp _ _
   have HY:Hid (true=decide (n-1≠0∧n-1<(f.length:Int)+1)):=(decide_eq_true ⟨by omega,by omega⟩).symm
   obtain ⟨n1,n2,n3,n4,n5,n6⟩:=ok.nums
   obtain ⟨m1,m2,m3,m4⟩:=hn
   have m5:n≤20:=by omega
   generalize hy:is[L.pos t (lefts a.I)]=yy at *
   clear hy
   have h20:(hcells is)[L.pos t (lefts a.I)*4+2]?=some (.int .i64 n):=by
    have h3:=hcells_at is _ hp 2 (by omega)
    have h4:=hrow_cell hr hp
    have h5:=own_cell hr h3
    rw[x2] at h5
    rw[h3]
    exact h5.symm
   have h30:∃u,(hcells is)[L.pos t (lefts a.I)*4+3]?=some u:=⟨_,List.getElem?_eq_getElem (by rw[hcells_len];omega)⟩
   have HG:Hid ((hcells is)[L.pos t (lefts a.I)*4+2]?=some (.int .i64 n)∧∃u,(hcells is)[L.pos t (lefts a.I)*4+3]?=some u):=⟨h20,h30⟩
   clear h20 h30 h hm hf ok hR ev hr hk m4 m2 m1 hmr
   generalize L.pos t (lefts a.I)=pp at *
   have HA:Hid (Calls prog 130 #[qp R,.int .u64 t] w fun e w'=>e=.returned (.int .i64 (pp:Int))∧w'=w):=hat
   clear hat
   have hR2:Hid (R<w.heap.size):=H.out.lt
   have F0:Hid (FR w (w.alloc (.cells #[] 224)) 0 224 4 (.slice (some ⟨w.heap.size,0,none⟩) 0 0) 0 []):=FR.empty 224 4 (Below.refl _ _) (Nat.zero_le _)
   have e7:(w.alloc (.cells #[] 224)).cell? ⟨R,7,none⟩=some (.slice (some ⟨g,0,none⟩) is.length c):=((below_alloc w _).cell (p:=⟨R,7,none⟩) hR2.out).trans c7
   have HRI:Hid (w.ownsRow 0 224 4 vI is.length (hcells is)):=H.out.ir
   have HEV:Hid (w.cell? ⟨R,7,none⟩=some vI):=H.out.c 7
   have HV:Hid (vI=.slice (some ⟨g,0,none⟩) is.length c):=by have:=HEV.out;rw[c7] at this;exact (Option.some.inj this).symm
   have HRJ:Hid (w.ownsRow 0 224 4 (.slice (some ⟨g,0,none⟩) is.length c) is.length (hcells is)):=by rw[← HV.out];exact HRI.out
   clear HEV HRI
   go_enter func69,ntmps69
   go_wp2_with fail
   refine HA.out.mono ?_
   rintro e w' ⟨rfl,hw⟩
   subst hw
   go_upto_region 7 with (at_builtin;refine wpList_own_any (v:=.slice (some ⟨w'.heap.size,0,none⟩) 0 0) (n:=0) (m:=is.length) (base:=0) (base':=0) rfl (.tmp 21) (.tmp 25) elW rfl rfl F0.out.own rfl (own_later HRJ.out F0.out.below) (ones_h is) (by omega) (Nat.zero_le _) ?_;intro v1 w3 ho hk hv;have F1:Hid (FR w' w3 0 224 4 v1 is.length (hcells is)):=(by have h:=F0.out.app ho hk hv;rw[Nat.zero_add,List.nil_append] at h;exact h);clear ho hk hv;obtain ⟨p1,c1,e2,hc1,hg1⟩:=own_form F1.out.own;obtain ⟨g1,rfl⟩:=hg1 (by omega);subst e2;have HS4:Hid (w3.heap[R]?=some (.cells (rcells a vW vI) 217 (0,0))):=(F1.out.below.block R hR2.out).trans H.out.st;have g7:w3.cell? ⟨R,7,none⟩=some vI:=cell_of_row _ R 7 _ 217 (0,0) HS4.out;have f7:w3.frozen? ⟨R,7,none⟩=false:=(by simp[World.frozen?,HS4.out]))
   have hgR:Hid (g1≠R∧w'.heap.size≤g1):=⟨fun e=>by have:=F1.out.new g1 rfl;have:=hR2.out;omega,F1.out.new g1 rfl⟩
   have hst5:Hid ((w3.setCell ⟨R,7,none⟩ (.slice (some ⟨g1,0,none⟩) is.length c1)).heap[R]?=some (.cells (rcells a vW (.slice (some ⟨g1,0,none⟩) is.length c1)) 217 (0,0))):=by show _=_;rw[L.st_set 7 _ HS4.out];rfl
   have k5:Hid (Kept (·=R) w' (w3.setCell ⟨R,7,none⟩ (.slice (some ⟨g1,0,none⟩) is.length c1))):=(Kept.of_below _ F1.out.below).trans (Kept.setCell R 7 _) (fun _ _ e=>e)
   have r5:Hid ((w3.setCell ⟨R,7,none⟩ (.slice (some ⟨g1,0,none⟩) is.length c1)).ownsRow 0 224 4 (.slice (some ⟨g1,0,none⟩) is.length c1) is.length (hcells is)):=own_far F1.out.own (Kept.setCell R 7 _) (fun g hg e=>by simp[Value.ownBlock] at hg;have:=hgR.out.1;omega)
   clear e7 g7 f7 F0 F1 HS4 c7 x2
   generalize w3.setCell ⟨R,7,none⟩ (.slice (some ⟨g1,0,none⟩) is.length c1)=w5 at *
   have d7:w5.cell? ⟨R,7,none⟩=some (.slice (some ⟨g1,0,none⟩) is.length c1):=cell_of_row _ R 7 _ 217 (0,0) hst5.out
   have y2:w5.cell? ⟨g1,pp*4+2,none⟩=some (.int .i64 n):=own_cell r5.out HG.out.1
   have yf2:=own_free r5.out (pp*4+2)
   have r6:Hid ((w5.setCell ⟨g1,pp*4+2,none⟩ (.int .i64 (n-1))).ownsRow 0 224 4 (.slice (some ⟨g1,0,none⟩) is.length c1) is.length ((hcells is).set (pp*4+2) (.int .i64 (n-1)))):=own_set r5.out rfl _ _
   have hst6:Hid ((w5.setCell ⟨g1,pp*4+2,none⟩ (.int .i64 (n-1))).heap[R]?=some (.cells (rcells a vW (.slice (some ⟨g1,0,none⟩) is.length c1)) 217 (0,0))):=((Kept.setCell (w:=w5) g1 (pp*4+2) _).block R (Array.getElem?_eq_some_iff.1 hst5.out).1 (Ne.symm hgR.out.1)).trans hst5.out
   have k6:Hid (Kept (fun b=>b=R∨b=g1) w' (w5.setCell ⟨g1,pp*4+2,none⟩ (.int .i64 (n-1)))):=(k5.out.wider (fun _ _ e=>.inl e)).trans (Kept.setCell g1 (pp*4+2) _) (fun _ _ e=>.inr e)
   go_upto_region 8 with fail
   clear d7 y2 yf2
   generalize w5.setCell ⟨g1,pp*4+2,none⟩ (.int .i64 (n-1))=w6 at *
   have d7:w6.cell? ⟨R,7,none⟩=some (.slice (some ⟨g1,0,none⟩) is.length c1):=cell_of_row _ R 7 _ 217 (0,0) hst6.out
   obtain ⟨u3,hu3⟩:=HG.out.2
   have y3:w6.cell? ⟨g1,pp*4+3,none⟩=some u3:=own_cell r6.out (by rw[List.getElem?_set_ne (by omega)];exact hu3)
   have yf3:=own_free r6.out (pp*4+3)
   have r7:Hid ((w6.setCell ⟨g1,pp*4+3,none⟩ (.bool true)).ownsRow 0 224 4 (.slice (some ⟨g1,0,none⟩) is.length c1) is.length (((hcells is).set (pp*4+2) (.int .i64 (n-1))).set (pp*4+3) (.bool true))):=own_set r6.out rfl _ _
   have hst7:Hid ((w6.setCell ⟨g1,pp*4+3,none⟩ (.bool true)).heap[R]?=some (.cells (rcells a vW (.slice (some ⟨g1,0,none⟩) is.length c1)) 217 (0,0))):=((Kept.setCell (w:=w6) g1 (pp*4+3) _).block R (Array.getElem?_eq_some_iff.1 hst6.out).1 (Ne.symm hgR.out.1)).trans hst6.out
   have k7:Hid (Kept (fun b=>b=R∨b=g1) w' (w6.setCell ⟨g1,pp*4+3,none⟩ (.bool true))):=k6.out.trans (Kept.setCell g1 (pp*4+3) _) (fun _ _ e=>.inr e)
   clear hu3
   go_upto_region 9 with fail
   clear d7 y3 yf3 HG
   generalize w6.setCell ⟨g1,pp*4+3,none⟩ (.bool true)=w7 at *
   have d8:w7.cell? ⟨R,8,none⟩=some (.int .i64 a.used):=cell_of_row _ R 8 _ 217 (0,0) hst7.out
   have df8:w7.frozen? ⟨R,8,none⟩=false:=by simp[World.frozen?,hst7.out]
   go_wp2
   go_ret
   rw[e1.out.1,e1.out.2]
   have k8:Kept (·=R) w' (w7.setCell ⟨R,8,none⟩ (.int .i64 (a.used+1))):=(k7.out.trans (Kept.setCell R 8 _) (fun _ _ e=>.inl e)).trans (Kept.refl _ _) (fun _ _ e=>e) |> fun h=>⟨h.os,h.tape,h.output,h.size,fun b hb hne=>h.block b hb (fun e=>by rcases e with e | e;exact hne e;have:=hgR.out.2;omega)⟩
   refine⟨rfl,⟨vW,.slice (some ⟨g1,0,none⟩) is.length c1,ws,is.set pp { yy with l:=n-1,b:=true },?_,H.out.W.turn HR.out k8,RR.fresh ?_ ?_ ?_⟩,k8⟩
   ·rw[L.st_set 8 _ hst7.out]
    rfl
   ·have:=own_far r7.out (Kept.setCell R 8 (.int .i64 (a.used+1))) (fun g hg e=>by simp[Value.ownBlock] at hg;have:=hgR.out.1;omega)
    rw[HCS.out] at this
    rw[List.length_set]
    exact this
   ·show Mis _ _ (decI t a.I) _
    rw[HD.out]
    have hmm:Mi (w7.setCell ⟨R,8,none⟩ (.int .i64 (a.used+1))) (Gp w' (w7.setCell ⟨R,8,none⟩ (.int .i64 (a.used+1))) G) (t,f,n) yy:=HM.out.kept (fun g hg hl=>k8.block g hl fun e=>HR.out (e ▸ hg)) fun _ hg=>.inl hg
    exact (H.out.I.mi.turn HR.out k8).set pp ⟨hmm.t,hmm.f,hmm.g,rfl,HY.out⟩
   ·intro g hg
    simp[Value.ownBlock] at hg
    have:=hgR.out.2
    omega
end
end Go.Proofs.YtcdjepkhdjpjcaaGreatDoor.E
