import Derived.Test.YtdadpepfpiimgaaGreatDoorK23
set_option maxHeartbeats 20000000
set_option maxRecDepth 100000
namespace Go.Proofs.YtdadpepfpiimgaaGreatDoor
theorem flat_cons (t:TX)(l:List TX):flat (t :: l)=t.ims++flat l:=rfl
open Go.Proofs.Tryz Go.RowKit
section
variable {P:Program} {ops:Array Oper} {o:Oper} {a:Act} {w w':World} {Q:Exit→Act→World→Prop} {K:Act→World→Prop}
theorem sq_val (hgd:Region.wanted o (yielded ops a.tmps)=true){v:Value}(hrun:(execOp a.eval o).run P w=.ok (.value v) w')(h:K (a.put o.dst v) w'):if Region.wanted o (yielded ops a.tmps)=true then Oper.wp P o a w K Q else K (a.put o.dst undef) w:=by
 rw[if_pos hgd]
 unfold Oper.wp
 rw[hrun]
 exact h
theorem sq_slice (hgd:Region.wanted o (yielded ops a.tmps)=true)(ty:TypeId){x:Operand}(ho:o.op=.buildSlice ty 1 #[(0,x)]){u v:Value}(hx:a.eval x=u)(hrun:(Instr.buildSlice ty 1 #[(0,u)]).run P w=.ok v w')(h:K (a.put o.dst v) w'):if Region.wanted o (yielded ops a.tmps)=true then Oper.wp P o a w K Q else K (a.put o.dst undef) w :=
 sq_val hgd (by
  have e:(#[(0,x)]:Array (Nat × Operand)).map (fun (i,y)=>(i,a.eval y))=#[(0,u)]:=by simp[hx]
  unfold execOp;simp only[ho];rw[e];simp only[Sem.run_bind,hrun,Result.andThen_ok,Sem.run_pure]) h
theorem sq_slice0 (hgd:Region.wanted o (yielded ops a.tmps)=true)(ty:TypeId)(ho:o.op=.buildSlice ty 0 #[]){v:Value}(hrun:(Instr.buildSlice ty 0 #[]).run P w=.ok v w')(h:K (a.put o.dst v) w'):if Region.wanted o (yielded ops a.tmps)=true then Oper.wp P o a w K Q else K (a.put o.dst undef) w :=
 sq_val hgd (by
  have e:(#[]:Array (Nat × Operand)).map (fun (i,y)=>(i,a.eval y))=#[]:=by simp
  unfold execOp;simp only[ho];rw[e];simp only[Sem.run_bind,hrun,Result.andThen_ok,Sem.run_pure]) h
theorem sq_append (hgd:Region.wanted o (yielded ops a.tmps)=true){s x:Operand}{t ty:TypeId}(ho:o.op=.call { callee:=.builtin .append,args:=#[s,x],argTypes:=#[t,t] })(hty:o.type=ty){u1 u2 v:Value}(hs:a.eval s=u1)(hx:a.eval x=u2)(hrun:(Builtin.append_ #[t,t] ty #[u1,u2]).run P w=.ok v w')(h:K (a.put o.dst v) w'):if Region.wanted o (yielded ops a.tmps)=true then Oper.wp P o a w K Q else K (a.put o.dst undef) w :=
 sq_val hgd (by subst hty;simp[execOp,ho,resolve,invoke,builtin,hs,hx,hrun,Result.andThen]) h
end
theorem build_im0 (w:World):(Instr.buildSlice 92 0 #[]).run prog w=.ok (.slice (some ⟨w.heap.size,0,none⟩) 0 0) (w.alloc (.cells #[] 155)):=by
 obtain ⟨i0,hi,hz0,hz1,hz2⟩:=info_parts infoI
 simp[Instr.buildSlice,run_underlying underlying92,sizeOf,typeInfo,hi,Instr.fill,newRow]
 rw[show (Array.range 0)=#[] from rfl,Array.map_empty]
def atW:List Im→Int→Nat
 | [],_=>0
 | y :: l,b=>if y.b<b then atW l b+1 else 0
theorem atW_le:∀(l:List Im) (b:Int),atW l b≤l.length
 | [],_=>Nat.le_refl _
 | y :: l,b=>by
  have:=atW_le l b
  show (if _ then _ else _)≤_
  split <;> simp <;> omega
theorem atW_lt:∀(l:List Im) (b:Int) (j:Nat) (y:Im),j<atW l b→l[j]?=some y→y.b<b
 | [],b,j,y,h,_=>absurd h (Nat.not_lt_zero j)
 | z :: l,b,j,y,h,hy=>by
  by_cases c:z.b<b
  ·have h':j<atW l b+1:=by have:=h;rw[show atW (z :: l) b=atW l b+1 from if_pos c] at this;exact this
   cases j with
   | zero=>cases hy;exact c
   | succ j=>exact atW_lt l b j y (by omega) hy
  ·rw[show atW (z :: l) b=0 from if_neg c] at h;omega
theorem atW_no:∀(l:List Im) (b:Int) (y:Im),l[atW l b]?=some y→¬y.b<b
 | [],b,y,h=>by cases h
 | z :: l,b,y,h=>by
  by_cases c:z.b<b
  ·rw[show atW (z :: l) b=atW l b+1 from if_pos c] at h;exact atW_no l b y h
  ·rw[show atW (z :: l) b=0 from if_neg c] at h;cases h;exact c
theorem withS_old:∀(l:List Im) (x y:Im),l[atW l x.b]?=some y→y.b=x.b→withS l x=l
 | [],x,y,h,_=>by cases h
 | z :: l,x,y,h,e=>by
  by_cases c:z.b<x.b
  ·rw[show atW (z :: l) x.b=atW l x.b+1 from if_pos c] at h
   rw[withS_lt l c,withS_old l x y h e]
  ·rw[show atW (z :: l) x.b=0 from if_neg c] at h;cases h;exact withS_eq l e
theorem withS_new:∀(l:List Im) (x:Im),(∀y,l[atW l x.b]?=some y→y.b≠x.b)→withS l x=(([]++l.take (atW l x.b))++[x])++l.drop (atW l x.b)
 | [],x,_=>rfl
 | z :: l,x,h=>by
  by_cases c:z.b<x.b
  ·have e:atW (z :: l) x.b=atW l x.b+1:=if_pos c
   have ih:=withS_new l x (fun y hy=>h y (by rw[e];exact hy))
   rw[withS_lt l c,e,ih];simp
  ·have e:atW (z :: l) x.b=0:=if_neg c
   have:=h z (by rw[e];rfl)
   rw[withS_gt l (by omega),e];simp
theorem run_to (w:World)(q:Option Addr)(n c k:Nat)(hk:k≤c):(Instr.sliceAt 92 (.slice q n c) none (some (.int .i64 (k:Int))) none).run prog w=.ok (.slice q k c) w:=by
 obtain ⟨i0,hi,hz0,hz1,hz2⟩:=info_parts infoI
 have he:Program.elem prog 92=155:=by kernel_rfl
 have hu:prog.underlying 92=some (.slice (Program.elem prog 92)):=by rw[he];exact underlying92
 rw[run_sliceAt_slice w 92 _ _ _ _ hu,run_slice_h w 92 q n c hu .i64 (k:Int) (by omega) (by omega)]
 have e:(sizeOf (Program.elem prog 92)).run prog w=.ok 33 w:=by
  rw[he]
  simp[sizeOf,typeInfo,hi,hz1]
 rw[e]
 simp only[Result.andThen_ok,sliced,Int.toNat_natCast,Nat.zero_mul,Nat.sub_zero]
 cases q with
 | none=>simp
 | some a=>simp[Addr.add]
theorem run_from (w:World)(q:Option Addr)(n c k:Nat)(hk:k≤n):(Instr.sliceAt 92 (.slice q n c) (some (.int .i64 (k:Int))) none none).run prog w=.ok (.slice (dropA q k c) (n-k) (c-k)) w:=by
 obtain ⟨i0,hi,hz0,hz1,hz2⟩:=info_parts infoI
 have he:Program.elem prog 92=155:=by kernel_rfl
 have hu:prog.underlying 92=some (.slice (Program.elem prog 92)):=by rw[he];exact underlying92
 rw[run_sliceAt_slice w 92 _ _ _ _ hu,run_slice_l w 92 q n c hu .i64 (k:Int) (by omega) (by omega)]
 have e:(sizeOf (Program.elem prog 92)).run prog w=.ok 33 w:=by
  rw[he]
  simp[sizeOf,typeInfo,hi,hz1]
 rw[e]
 simp only[Result.andThen_ok,sliced,Int.toNat_natCast]
 rfl
theorem yields_slice_is {P:Program}{ops:Array Oper}{S:World→Prop}{o:Oper}{a:Act}(hw:Region.wanted o (yielded ops a.tmps)=true)(ty:TypeId){x:Operand}{lo hi mx:Option Operand}(ho:o.op=.slice ty x lo hi mx){vx v:Value}{vl vh vm:Option Value}(hx:a.eval x=vx)(hl:lo.map a.eval=vl)(hh:hi.map a.eval=vh)(hm:mx.map a.eval=vm)(hrun:∀w,(Instr.sliceAt ty vx vl vh vm).run P w=.ok v w):YieldsIf P ops S o v a :=
 .inl ⟨hw,fun w _=>by unfold execOp;simp only[ho,hx,hl,hh,hm,Sem.run_bind,hrun w,Result.andThen_ok,Sem.run_pure]⟩
theorem lat_c0 {t:TypeId}{w:World}{g:Nat}{x:Im}(h:LAt t w g (icells x)):w.cell? ⟨g,0,none⟩=some (.int .i64 x.b):=LAt.cell h 0
theorem with_any (q:Option Addr)(n c:Nat)(l:List Im)(x:Im)(w:World)(h:MIn w q n l)(hnc:n≤c)(hx:x.Wf)(hn:n≤2500000) :
  Calls prog 141 #[.slice q n c,.agg (icells x).toArray] w fun e w'=>∃p d,e=.returned (.slice p (withS l x).length d)∧MIn w' p (withS l x).length (withS l x)∧(withS l x).length≤d∧Below w.heap.size w w'∧(IOwn w' w.heap.size (.slice p (withS l x).length d) (withS l x)∨(p=q∧d=c∧withS l x=l)):=by
 obtain ⟨wa,hwa⟩:∃y,y=w.alloc (.cells (icells x).toArray 155):=⟨_,rfl⟩
 have ewa:=hwa.symm
 have B0:Hid (Below w.heap.size w wa):=by rw[hwa];exact below_alloc w _
 have LX0:Hid (LAt 155 wa w.heap.size (icells x)):=by rw[hwa];exact LAt.new 155 w _
 have HM:Hid (MIn wa q n l):=h.later B0.out
 have HXW:Hid x.Wf:=hx
 have HNC:Hid (n≤c):=hnc
 have HWW:Hid (ImsWf (withS l x)):=withS_wf h.wf hx
 have hll:=h.len
 have hal:atW l x.b≤n:=by have:=atW_le l x.b;omega
 clear hwa h hx
 go_enter func141,ntmps141
 go_wp2_with fail
 clear ewa
 go_loopw [5] (fun i wr=>∃k:Nat,k≤atW l x.b∧i=.int .i64 k∧Hid (Below wa.heap.size wa wr)) (fun i _=>n-(intOf i).toNat)
 case atStart=>exact⟨0,Nat.zero_le _,rfl,Below.refl _ _⟩
 case round =>
  obtain ⟨k,hk,rfl,Br⟩:=hrel
  obtain ⟨wv,hwv⟩:∃wv,wv=wr:=⟨_,rfl⟩
  subst hwv
  have M3:Hid (MIn wv q n l):=HM.out.later Br.out
  have LX:Hid (LAt 155 wv w.heap.size (icells x)):=LAt.later LX0.out Br.out
  by_cases hlt:k<n
  ·obtain ⟨y,hy⟩:∃y,l[k]?=some y:=⟨_,List.getElem?_eq_getElem (by omega)⟩
   obtain ⟨b,o,rfl,-⟩:=M3.out.cells (by omega)
   have i1:(k:Int)<(n:Int):=by omega
   have i0:(0:Int)≤(k:Int):=by omega
   by_cases hd0:y.b<x.b
   ·have hd:decide (y.b<x.b)=true:=by simp[hd0]
    have hk1:k+1≤atW l x.b:=by
     rcases Nat.lt_or_eq_of_le hk with h | h
     ·exact h
     ·subst h;exact absurd hd0 (atW_no l x.b y hy)
    clear hd0
    go_wp2_with fail
    refine wp_region_noPanic ?_
    refine wp_region_held_drew (S:=fun w'=>Below wv.heap.size wv w') (by kernel_rfl) (below_drawn 1) (fun hHeld=>?_)
    have DD:Hid (Below wv.heap.size wv wv.drew):=hHeld
    generalize wv.drew=wd at *
    refine tk 0 hHeld ?_
    refine tk 1 hHeld ?_
    refine tk 2 hHeld ?_
    refine tk 3 hHeld ?_
    refine tk 4 hHeld ?_
    refine tk 5 hHeld ?_
    refine tk 6 hHeld ?_
    refine tk 7 hHeld ?_
    refine tk 8 hHeld ?_
    refine tkl 9 hHeld (fun _ hSw=>(M3.out.later hSw).c0 hy) ?_
    refine tk 10 hHeld ?_
    refine tkl 11 hHeld (fun _ hSw=>lat_c0 (LAt.later LX.out hSw)) ?_
    refine tk 12 hHeld ?_
    refine tk 13 hHeld ?_
    clear hHeld
    refine wpAnyH_done (by kernel_rfl) (NoPanic.normal ?_) _
    have B3:Hid (Below wa.heap.size wa wd):=below_then Br.out DD.out
    clear DD Br hd
    go_wp2_with fail
    go_roundw
    case rel=>exact⟨k+1,hk1,by go_num,B3.out⟩
    case measure=>simp[intOf];omega
   ·have hd:decide (y.b<x.b)=false:=by simp[hd0]
    have hka:atW l x.b=k:=by
     rcases Nat.lt_or_eq_of_le hk with h | h
     ·exact absurd (atW_lt l x.b k y h hy) hd0
     ·exact h.symm
    go_wp2_with fail
    refine wp_region_noPanic ?_
    refine wp_region_held_drew (S:=fun w'=>Below wv.heap.size wv w') (by kernel_rfl) (below_drawn 1) (fun hHeld=>?_)
    have DD:Hid (Below wv.heap.size wv wv.drew):=hHeld
    generalize wv.drew=wd at *
    refine tk 0 hHeld ?_
    refine tk 1 hHeld ?_
    refine tk 2 hHeld ?_
    refine tk 3 hHeld ?_
    refine tk 4 hHeld ?_
    refine tk 5 hHeld ?_
    refine tk 6 hHeld ?_
    refine tk 7 hHeld ?_
    refine tk 8 hHeld ?_
    refine tkl 9 hHeld (fun _ hSw=>(M3.out.later hSw).c0 hy) ?_
    refine tk 10 hHeld ?_
    refine tkl 11 hHeld (fun _ hSw=>lat_c0 (LAt.later LX.out hSw)) ?_
    refine tk 12 hHeld ?_
    refine tk 13 hHeld ?_
    clear hHeld
    refine wpAnyH_done (by kernel_rfl) (NoPanic.normal ?_) _
    have BV:Hid (Below wa.heap.size wa wd):=below_then Br.out DD.out
    have M4:Hid (MIn wd (some ⟨b,o,none⟩) n l):=M3.out.later DD.out
    have L4:Hid (LAt 155 wd w.heap.size (icells x)):=LAt.later LX.out DD.out
    obtain ⟨wt,hwt⟩:∃wt,wt=wd:=⟨_,rfl⟩
    subst hwt
    clear DD Br hd M3 LX
    go_wp2_with fail
    by_cases he:y.b=x.b
    ·have hq:(y.b == x.b)=true:=by simp[he]
     refine wp_region_noPanic ?_
     refine wp_region_held_drew (S:=fun w'=>Below wt.heap.size wt w') (by kernel_rfl) (below_drawn 1) (fun hHeld=>?_)
     have D4:Hid (Below wt.heap.size wt wt.drew):=hHeld
     generalize wt.drew=wd at *
     refine tk 0 hHeld ?_
     refine tk 1 hHeld ?_
     refine tk 2 hHeld ?_
     refine tk 3 hHeld ?_
     refine tk 4 hHeld ?_
     refine tk 5 hHeld ?_
     refine tk 6 hHeld ?_
     refine tk 7 hHeld ?_
     refine tk 8 hHeld ?_
     refine tkl 9 hHeld (fun _ hSw=>(M4.out.later hSw).c0 hy) ?_
     refine tk 10 hHeld ?_
     refine tkl 11 hHeld (fun _ hSw=>lat_c0 (LAt.later L4.out hSw)) ?_
     refine tk 12 hHeld ?_
     refine tk 13 hHeld ?_
     clear hHeld
     refine wpAnyH_done (by kernel_rfl) (NoPanic.normal ?_) _
     have FF:Hid (Below w.heap.size w wd):=below_then (below_then B0.out BV.out) D4.out
     have M7:Hid (MIn wd (some ⟨b,o,none⟩) n l):=M4.out.later D4.out
     have HE:Hid (withS l x=l):=withS_old l x y (by rw[hka];exact hy) he
     clear hq D4
     go_wp2_with fail
     go_ret
     rw[HE.out,hll]
     exact⟨_,c,rfl,M7.out,HNC.out,FF.out,.inr ⟨rfl,rfl,rfl⟩⟩
    ·have hq:(y.b == x.b)=false:=by simp[he]
     have HWn:Hid (withS l x=(([]++l.take k)++[x])++l.drop k):=by
      have:=withS_new l x (fun z hz=>by rw[hka,hy] at hz;cases hz;exact he)
      rw[hka] at this;exact this
     refine wp_region_noPanic ?_
     refine wp_region_held_drew (S:=fun w'=>Below wt.heap.size wt w') (by kernel_rfl) (below_drawn 1) (fun hHeld=>?_)
     have D4:Hid (Below wt.heap.size wt wt.drew):=hHeld
     generalize wt.drew=wd at *
     refine tk 0 hHeld ?_
     refine tk 1 hHeld ?_
     refine tk 2 hHeld ?_
     refine tk 3 hHeld ?_
     refine tk 4 hHeld ?_
     refine tk 5 hHeld ?_
     refine tk 6 hHeld ?_
     refine tk 7 hHeld ?_
     refine tk 8 hHeld ?_
     refine tkl 9 hHeld (fun _ hSw=>(M4.out.later hSw).c0 hy) ?_
     refine tk 10 hHeld ?_
     refine tkl 11 hHeld (fun _ hSw=>lat_c0 (LAt.later L4.out hSw)) ?_
     refine tk 12 hHeld ?_
     refine tk 13 hHeld ?_
     clear hHeld
     refine wpAnyH_done (by kernel_rfl) (NoPanic.normal ?_) _
     have BU:Hid (Below wa.heap.size wa wd):=below_then BV.out D4.out
     have M6:Hid (MIn wd (some ⟨b,o,none⟩) n l):=M4.out.later D4.out
     have LX6:Hid (LAt 155 wd w.heap.size (icells x)):=LAt.later L4.out D4.out
     obtain ⟨wu,hwu⟩:∃wu,wu=wd:=⟨_,rfl⟩
     subst hwu
     have HW1:Hid (ImsWf ([]++l.take k)):=(M6.out.take k (by omega)).wf
     have HW2:Hid (ImsWf (([]++l.take k)++[x])):=fun z hz=>(List.mem_append.1 hz).elim (HW1.out z) (fun hz=>by rw[List.mem_singleton.1 hz];exact HXW.out)
     obtain ⟨q,hq0⟩:∃q,q=some (⟨b,o,none⟩:Addr):=⟨_,rfl⟩
     rw[← hq0] at M6
     rw[← hq0]
     clear hq D4 M4 L4 BV hq0 HM
     go_wp2_with fail
     have G9:Hid (Below wu.heap.size wu wu.drew):=below_drawn 1
     refine wp_region_noPanic ?_
     refine wp_region_held_drew (S:=fun w'=>Below wu.heap.size wu w') (by kernel_rfl) (below_drawn 1) (fun hHeld=>?_)
     generalize wu.drew=wd at *
     refine tk 1 hHeld ?_
     refine tk 2 hHeld ?_
     refine wpAnyH_take (i:=3) (v:=_) (by simp;rfl) (by kernel_rfl) (by kernel_rfl) (by kernel_rfl) (fun _ _ _ h=>h) (yields_slice_is (vx:=.slice q n c) (vl:=none) (vh:=some (.int .i64 (k:Int))) (vm:=none) (by rfl) 92 rfl rfl rfl rfl rfl (fun w=>run_to w q n c k (by omega))) hHeld ?_
     simp only[Act.put,zA,zB,zC]
     refine wpAnyH_take (i:=5) (v:=_) (by simp;rfl) (by kernel_rfl) (by kernel_rfl) (by kernel_rfl) (fun _ _ _ h=>h) (yieldsIf_load_mid (by rfl) 155 (.tmp 3) rfl w.heap.size 0 rfl (icells x) _ (fun _ h=>LAt.range (LAt.later LX6.out h)) underlying155 rfl (by rw[sizeI,icells_len HXW.out.len])) hHeld ?_
     simp only[Act.put,zA,zB,zC]
     refine tk 8 hHeld ?_
     refine tk 9 hHeld ?_
     refine wpAnyH_take (i:=10) (v:=_) (by simp;rfl) (by kernel_rfl) (by kernel_rfl) (by kernel_rfl) (fun _ _ _ h=>h) (yields_slice_is (vx:=.slice q n c) (vl:=some (.int .i64 (k:Int))) (vh:=none) (vm:=none) (by rfl) 92 rfl rfl rfl rfl rfl (fun w=>run_from w q n c k (by omega))) hHeld ?_
     simp only[Act.put,zA,zB,zC]
     refine wpAnyH_ready (rs:=[0,6]) (by kernel_rfl) (by simp) ?_
     refine AllReadyH.cons (by simp;rfl) (fun Kc hKc=>?_) (AllReadyH.cons (by simp;rfl) (fun Kc hKc=>?_) AllReadyH.nil)
     ·refine sq_slice0 (by rfl) 92 rfl (build_im0 wd) ?_
      obtain ⟨x0,hx0⟩:∃x0,x0=wd.alloc (.cells #[] 155):=⟨_,rfl⟩
      obtain ⟨ge,hge⟩:∃ge,ge=wd.heap.size:=⟨_,rfl⟩
      have b0:Below wd.heap.size wd x0:=by rw[hx0];exact below_alloc wd _
      have G0:Hid (Below wu.heap.size wu x0):=below_then G9.out b0
      have R0:Hid (IOwn x0 wu.heap.size (.slice (some ⟨ge,0,none⟩) 0 0) []):=by rw[hx0,hge];exact World.ownsRow_made wd #[] 0 G9.out.size (Nat.zero_le _) rfl
      rw[← hx0,← hge]
      refine hKc.out _ _ G0.out (fun hHeld=>?_)
      clear hx0 hge b0
      clear hKc Kc
      simp only[Act.put,zA,zB,zC]
      refine wpAnyH_ready (rs:=[4,6]) (by kernel_rfl) (by simp) ?_
      refine AllReadyH.cons (by simp;rfl) (fun Kc hKc=>?_) (AllReadyH.cons (by simp;rfl) (fun Kc hKc=>?_) AllReadyH.nil)
      ·obtain ⟨q1,m1,c1,y1,hr1,ho1,hg1,-⟩:=app_imsL (c:=c) R0.out ImsWf.nil ((M6.out.take k (by omega)).later G0.out) (by simp;omega) G0.out.size
       refine sq_append (u1:=(.slice (some ⟨ge,0,none⟩) 0 0)) (u2:=.slice q k c) (by rfl) rfl rfl rfl rfl hr1 ?_
       have R1:Hid (IOwn y1 wu.heap.size (.slice q1 m1 c1) ([]++l.take k)):=ho1
       have G1:Hid (Below wu.heap.size wu y1):=G0.out.grown hg1 G0.out.size (fun j ej=>(R0.out.lt j ej).1)
       refine hKc.out _ _ G1.out (fun hHeld=>?_)
       clear hr1 ho1 hg1
       clear hKc Kc
       simp only[Act.put,zA,zB,zC]
       refine wpAnyH_ready (rs:=[6]) (by kernel_rfl) (by simp) ?_
       refine AllReadyH.cons (by simp;rfl) (fun Kc hKc=>?_) AllReadyH.nil
       refine sq_slice (u:=.agg (icells x).toArray) (by rfl) 92 rfl rfl (build_im y1 x HXW.out.len) ?_
       obtain ⟨x6,hx6⟩:∃x6,x6=y1.alloc (.cells (icells x).toArray 155):=⟨_,rfl⟩
       obtain ⟨gi,hgi⟩:∃gi,gi=y1.heap.size:=⟨_,rfl⟩
       have b6:Below y1.heap.size y1 x6:=by rw[hx6];exact below_alloc y1 _
       have G6:Hid (Below wu.heap.size wu x6):=below_then G1.out b6
       have m6:MIn x6 (some ⟨gi,0,none⟩) 1 [x]:=⟨rfl,fun y hy=>by rw[List.mem_singleton.1 hy];exact HXW.out,fun _=>⟨gi,0,rfl,by rw[hx6,hgi,show IC [x]=icells x by simp[IC]];exact LAt.range (LAt.new 155 y1 (icells x))⟩⟩
       have R6:Hid (IOwn x6 wu.heap.size (.slice q1 m1 c1) (([]++l.take k))):=R1.out.later b6
       have I6:Hid (MIn x6 (some ⟨gi,0,none⟩) 1 [x]):=m6
       rw[← hx6,← hgi]
       refine hKc.out _ _ G6.out (fun hHeld=>?_)
       clear hx6 hgi b6 m6
       clear hKc Kc
       simp only[Act.put,zA,zB,zC]
       refine wpAnyH_ready (rs:=[7]) (by kernel_rfl) (by simp) ?_
       refine AllReadyH.cons (by simp;rfl) (fun Kc hKc=>?_) AllReadyH.nil
       obtain ⟨q2,m2,c2,y2,hr2,ho2,hg2,-⟩:=app_imsL (c:=1) R6.out HW1.out I6.out (by simp;omega) G6.out.size
       refine sq_append (u1:=(.slice q1 m1 c1)) (u2:=.slice (some ⟨gi,0,none⟩) 1 1) (by rfl) rfl rfl rfl rfl hr2 ?_
       have R2:Hid (IOwn y2 wu.heap.size (.slice q2 m2 c2) (([]++l.take k)++[x])):=ho2
       have G2:Hid (Below wu.heap.size wu y2):=G6.out.grown hg2 G6.out.size (fun j ej=>(R6.out.lt j ej).1)
       refine hKc.out _ _ G2.out (fun hHeld=>?_)
       clear hr2 ho2 hg2
       clear hKc Kc
       simp only[Act.put,zA,zB,zC]
       refine wpAnyH_ready (rs:=[11]) (by kernel_rfl) (by simp) ?_
       refine AllReadyH.cons (by simp;rfl) (fun Kc hKc=>?_) AllReadyH.nil
       obtain ⟨q3,m3,c3,y3,hr3,ho3,hg3,-⟩:=app_imsL (c:=(c-k)) R2.out HW2.out ((M6.out.drop (k:=k) (c:=c) (by omega) HNC.out).later G2.out) (by simp;omega) G2.out.size
       refine sq_append (u1:=(.slice q2 m2 c2)) (u2:=.slice (dropA q k c) (n-k) (c-k)) (by rfl) rfl rfl rfl rfl hr3 ?_
       have R3:Hid (IOwn y3 wu.heap.size (.slice q3 m3 c3) ((([]++l.take k)++[x])++l.drop k)):=ho3
       have G3:Hid (Below wu.heap.size wu y3):=G2.out.grown hg3 G2.out.size (fun j ej=>(R2.out.lt j ej).1)
       refine hKc.out _ _ G3.out (fun hHeld=>?_)
       clear hr3 ho3 hg3
       clear hKc Kc
       simp only[Act.put,zA,zB,zC]
       refine tk 12 hHeld ?_
       clear hHeld
       refine wpAnyH_done (by kernel_rfl) (NoPanic.normal ?_) _
       have FF:Hid (Below w.heap.size w y3):=below_then (below_then B0.out BU.out) G3.out
       have RF:Hid (_):=R3.out
       clear G3 R3
       go_wp2_with fail
       go_ret
       obtain ⟨a1,a2,a3,a4,a5,-⟩:=IOwn.in RF.out (by rw[← HWn.out];exact HWW.out)
       have RO:=RF.out
       rw[← HWn.out] at a3 a4 a5 RO
       cases a3
       exact⟨_,_,rfl,a4,a5,FF.out,.inl (own_mono RO (below_then B0.out BU.out).size)⟩
      ·refine sq_slice (u:=.agg (icells x).toArray) (by rfl) 92 rfl rfl (build_im x0 x HXW.out.len) ?_
       obtain ⟨x6,hx6⟩:∃x6,x6=x0.alloc (.cells (icells x).toArray 155):=⟨_,rfl⟩
       obtain ⟨gi,hgi⟩:∃gi,gi=x0.heap.size:=⟨_,rfl⟩
       have b6:Below x0.heap.size x0 x6:=by rw[hx6];exact below_alloc x0 _
       have G6:Hid (Below wu.heap.size wu x6):=below_then G0.out b6
       have m6:MIn x6 (some ⟨gi,0,none⟩) 1 [x]:=⟨rfl,fun y hy=>by rw[List.mem_singleton.1 hy];exact HXW.out,fun _=>⟨gi,0,rfl,by rw[hx6,hgi,show IC [x]=icells x by simp[IC]];exact LAt.range (LAt.new 155 x0 (icells x))⟩⟩
       have R6:Hid (IOwn x6 wu.heap.size (.slice (some ⟨ge,0,none⟩) 0 0) ([])):=R0.out.later b6
       have I6:Hid (MIn x6 (some ⟨gi,0,none⟩) 1 [x]∧ge≠gi):=⟨m6,by have:=(R0.out.lt ge rfl).2;omega⟩
       rw[← hx6,← hgi]
       refine hKc.out _ _ G6.out (fun hHeld=>?_)
       clear hx6 hgi b6 m6
       clear hKc Kc
       simp only[Act.put,zA,zB,zC]
       refine wpAnyH_ready (rs:=[4]) (by kernel_rfl) (by simp) ?_
       refine AllReadyH.cons (by simp;rfl) (fun Kc hKc=>?_) AllReadyH.nil
       obtain ⟨q1,m1,c1,y1,hr1,ho1,hg1,-⟩:=app_imsL (c:=c) R6.out ImsWf.nil ((M6.out.take k (by omega)).later G6.out) (by simp;omega) G6.out.size
       refine sq_append (u1:=(.slice (some ⟨ge,0,none⟩) 0 0)) (u2:=.slice q k c) (by rfl) rfl rfl rfl rfl hr1 ?_
       have R1:Hid (IOwn y1 wu.heap.size (.slice q1 m1 c1) ([]++l.take k)):=ho1
       have G1:Hid (Below wu.heap.size wu y1):=G6.out.grown hg1 G6.out.size (fun j ej=>(R6.out.lt j ej).1)
       have I1:Hid (MIn y1 (some ⟨gi,0,none⟩) 1 [x]):=I6.out.1.grown hg1 (fun e'=>I6.out.2 (Option.some.inj e'))
       refine hKc.out _ _ G1.out (fun hHeld=>?_)
       clear hr1 ho1 hg1
       clear hKc Kc
       simp only[Act.put,zA,zB,zC]
       refine wpAnyH_ready (rs:=[7]) (by kernel_rfl) (by simp) ?_
       refine AllReadyH.cons (by simp;rfl) (fun Kc hKc=>?_) AllReadyH.nil
       obtain ⟨q2,m2,c2,y2,hr2,ho2,hg2,-⟩:=app_imsL (c:=1) R1.out HW1.out I1.out (by simp;omega) G1.out.size
       refine sq_append (u1:=(.slice q1 m1 c1)) (u2:=.slice (some ⟨gi,0,none⟩) 1 1) (by rfl) rfl rfl rfl rfl hr2 ?_
       have R2:Hid (IOwn y2 wu.heap.size (.slice q2 m2 c2) (([]++l.take k)++[x])):=ho2
       have G2:Hid (Below wu.heap.size wu y2):=G1.out.grown hg2 G1.out.size (fun j ej=>(R1.out.lt j ej).1)
       refine hKc.out _ _ G2.out (fun hHeld=>?_)
       clear hr2 ho2 hg2
       clear hKc Kc
       simp only[Act.put,zA,zB,zC]
       refine wpAnyH_ready (rs:=[11]) (by kernel_rfl) (by simp) ?_
       refine AllReadyH.cons (by simp;rfl) (fun Kc hKc=>?_) AllReadyH.nil
       obtain ⟨q3,m3,c3,y3,hr3,ho3,hg3,-⟩:=app_imsL (c:=(c-k)) R2.out HW2.out ((M6.out.drop (k:=k) (c:=c) (by omega) HNC.out).later G2.out) (by simp;omega) G2.out.size
       refine sq_append (u1:=(.slice q2 m2 c2)) (u2:=.slice (dropA q k c) (n-k) (c-k)) (by rfl) rfl rfl rfl rfl hr3 ?_
       have R3:Hid (IOwn y3 wu.heap.size (.slice q3 m3 c3) ((([]++l.take k)++[x])++l.drop k)):=ho3
       have G3:Hid (Below wu.heap.size wu y3):=G2.out.grown hg3 G2.out.size (fun j ej=>(R2.out.lt j ej).1)
       refine hKc.out _ _ G3.out (fun hHeld=>?_)
       clear hr3 ho3 hg3
       clear hKc Kc
       simp only[Act.put,zA,zB,zC]
       refine tk 12 hHeld ?_
       clear hHeld
       refine wpAnyH_done (by kernel_rfl) (NoPanic.normal ?_) _
       have FF:Hid (Below w.heap.size w y3):=below_then (below_then B0.out BU.out) G3.out
       have RF:Hid (_):=R3.out
       clear G3 R3
       go_wp2_with fail
       go_ret
       obtain ⟨a1,a2,a3,a4,a5,-⟩:=IOwn.in RF.out (by rw[← HWn.out];exact HWW.out)
       have RO:=RF.out
       rw[← HWn.out] at a3 a4 a5 RO
       cases a3
       exact⟨_,_,rfl,a4,a5,FF.out,.inl (own_mono RO (below_then B0.out BU.out).size)⟩
     ·refine sq_slice (u:=.agg (icells x).toArray) (by rfl) 92 rfl rfl (build_im wd x HXW.out.len) ?_
      obtain ⟨x6,hx6⟩:∃x6,x6=wd.alloc (.cells (icells x).toArray 155):=⟨_,rfl⟩
      obtain ⟨gi,hgi⟩:∃gi,gi=wd.heap.size:=⟨_,rfl⟩
      have b6:Below wd.heap.size wd x6:=by rw[hx6];exact below_alloc wd _
      have G6:Hid (Below wu.heap.size wu x6):=below_then G9.out b6
      have m6:MIn x6 (some ⟨gi,0,none⟩) 1 [x]:=⟨rfl,fun y hy=>by rw[List.mem_singleton.1 hy];exact HXW.out,fun _=>⟨gi,0,rfl,by rw[hx6,hgi,show IC [x]=icells x by simp[IC]];exact LAt.range (LAt.new 155 wd (icells x))⟩⟩
      have I6:Hid (MIn x6 (some ⟨gi,0,none⟩) 1 [x]∧gi<x6.heap.size):=⟨m6,by rw[hx6,hgi];simp⟩
      rw[← hx6,← hgi]
      refine hKc.out _ _ G6.out (fun hHeld=>?_)
      clear hx6 hgi b6 m6
      clear hKc Kc
      simp only[Act.put,zA,zB,zC]
      refine wpAnyH_ready (rs:=[0]) (by kernel_rfl) (by simp) ?_
      refine AllReadyH.cons (by simp;rfl) (fun Kc hKc=>?_) AllReadyH.nil
      refine sq_slice0 (by rfl) 92 rfl (build_im0 x6) ?_
      obtain ⟨x0,hx0⟩:∃x0,x0=x6.alloc (.cells #[] 155):=⟨_,rfl⟩
      obtain ⟨ge,hge⟩:∃ge,ge=x6.heap.size:=⟨_,rfl⟩
      have b0:Below x6.heap.size x6 x0:=by rw[hx0];exact below_alloc x6 _
      have G0:Hid (Below wu.heap.size wu x0):=below_then G6.out b0
      have R0:Hid (IOwn x0 wu.heap.size (.slice (some ⟨ge,0,none⟩) 0 0) []):=by rw[hx0,hge];exact World.ownsRow_made x6 #[] 0 G6.out.size (Nat.zero_le _) rfl
      have I0:Hid (MIn x0 (some ⟨gi,0,none⟩) 1 [x]∧ge≠gi):=⟨I6.out.1.later b0,by have:=I6.out.2;omega⟩
      rw[← hx0,← hge]
      refine hKc.out _ _ G0.out (fun hHeld=>?_)
      clear hx0 hge b0
      clear hKc Kc
      simp only[Act.put,zA,zB,zC]
      refine wpAnyH_ready (rs:=[4]) (by kernel_rfl) (by simp) ?_
      refine AllReadyH.cons (by simp;rfl) (fun Kc hKc=>?_) AllReadyH.nil
      obtain ⟨q1,m1,c1,y1,hr1,ho1,hg1,-⟩:=app_imsL (c:=c) R0.out ImsWf.nil ((M6.out.take k (by omega)).later G0.out) (by simp;omega) G0.out.size
      refine sq_append (u1:=(.slice (some ⟨ge,0,none⟩) 0 0)) (u2:=.slice q k c) (by rfl) rfl rfl rfl rfl hr1 ?_
      have R1:Hid (IOwn y1 wu.heap.size (.slice q1 m1 c1) ([]++l.take k)):=ho1
      have G1:Hid (Below wu.heap.size wu y1):=G0.out.grown hg1 G0.out.size (fun j ej=>(R0.out.lt j ej).1)
      have I1:Hid (MIn y1 (some ⟨gi,0,none⟩) 1 [x]):=I0.out.1.grown hg1 (fun e'=>I0.out.2 (Option.some.inj e'))
      refine hKc.out _ _ G1.out (fun hHeld=>?_)
      clear hr1 ho1 hg1
      clear hKc Kc
      simp only[Act.put,zA,zB,zC]
      refine wpAnyH_ready (rs:=[7]) (by kernel_rfl) (by simp) ?_
      refine AllReadyH.cons (by simp;rfl) (fun Kc hKc=>?_) AllReadyH.nil
      obtain ⟨q2,m2,c2,y2,hr2,ho2,hg2,-⟩:=app_imsL (c:=1) R1.out HW1.out I1.out (by simp;omega) G1.out.size
      refine sq_append (u1:=(.slice q1 m1 c1)) (u2:=.slice (some ⟨gi,0,none⟩) 1 1) (by rfl) rfl rfl rfl rfl hr2 ?_
      have R2:Hid (IOwn y2 wu.heap.size (.slice q2 m2 c2) (([]++l.take k)++[x])):=ho2
      have G2:Hid (Below wu.heap.size wu y2):=G1.out.grown hg2 G1.out.size (fun j ej=>(R1.out.lt j ej).1)
      refine hKc.out _ _ G2.out (fun hHeld=>?_)
      clear hr2 ho2 hg2
      clear hKc Kc
      simp only[Act.put,zA,zB,zC]
      refine wpAnyH_ready (rs:=[11]) (by kernel_rfl) (by simp) ?_
      refine AllReadyH.cons (by simp;rfl) (fun Kc hKc=>?_) AllReadyH.nil
      obtain ⟨q3,m3,c3,y3,hr3,ho3,hg3,-⟩:=app_imsL (c:=(c-k)) R2.out HW2.out ((M6.out.drop (k:=k) (c:=c) (by omega) HNC.out).later G2.out) (by simp;omega) G2.out.size
      refine sq_append (u1:=(.slice q2 m2 c2)) (u2:=.slice (dropA q k c) (n-k) (c-k)) (by rfl) rfl rfl rfl rfl hr3 ?_
      have R3:Hid (IOwn y3 wu.heap.size (.slice q3 m3 c3) ((([]++l.take k)++[x])++l.drop k)):=ho3
      have G3:Hid (Below wu.heap.size wu y3):=G2.out.grown hg3 G2.out.size (fun j ej=>(R2.out.lt j ej).1)
      refine hKc.out _ _ G3.out (fun hHeld=>?_)
      clear hr3 ho3 hg3
      clear hKc Kc
      simp only[Act.put,zA,zB,zC]
      refine tk 12 hHeld ?_
      clear hHeld
      refine wpAnyH_done (by kernel_rfl) (NoPanic.normal ?_) _
      have FF:Hid (Below w.heap.size w y3):=below_then (below_then B0.out BU.out) G3.out
      have RF:Hid (_):=R3.out
      clear G3 R3
      go_wp2_with fail
      go_ret
      obtain ⟨a1,a2,a3,a4,a5,-⟩:=IOwn.in RF.out (by rw[← HWn.out];exact HWW.out)
      have RO:=RF.out
      rw[← HWn.out] at a3 a4 a5 RO
      cases a3
      exact⟨_,_,rfl,a4,a5,FF.out,.inl (own_mono RO (below_then B0.out BU.out).size)⟩
  ·have hnl:¬(k:Int)<(n:Int):=by omega
   have hka:atW l x.b=k:=by omega
   go_wp2_with fail
   refine wp_region_noPanic ?_
   refine wp_region_held_drew (S:=fun w'=>Below wv.heap.size wv w') (by kernel_rfl) (below_drawn 1) (fun hHeld=>?_)
   have DD:Hid (Below wv.heap.size wv wv.drew):=hHeld
   generalize wv.drew=wd at *
   refine tk 0 hHeld ?_
   refine tk 1 hHeld ?_
   refine tk 2 hHeld ?_
   refine tk 3 hHeld ?_
   refine tk 4 hHeld ?_
   refine tks 5 hHeld ?_
   refine tks 6 hHeld ?_
   refine tks 7 hHeld ?_
   refine tks 8 hHeld ?_
   refine tks 9 hHeld ?_
   refine tks 10 hHeld ?_
   refine tks 11 hHeld ?_
   refine tks 12 hHeld ?_
   refine tk 13 hHeld ?_
   clear hHeld
   refine wpAnyH_done (by kernel_rfl) (NoPanic.normal ?_) _
   have BV:Hid (Below wa.heap.size wa wd):=below_then Br.out DD.out
   have M4:Hid (MIn wd q n l):=M3.out.later DD.out
   have L4:Hid (LAt 155 wd w.heap.size (icells x)):=LAt.later LX.out DD.out
   obtain ⟨wt,hwt⟩:∃wt,wt=wd:=⟨_,rfl⟩
   subst hwt
   clear DD Br M3 LX
   have HWn:Hid (withS l x=(([]++l.take k)++[x])++l.drop k):=by
    have:=withS_new l x (fun z hz=>by rw[hka,List.getElem?_eq_none (by omega)] at hz;cases hz)
    rw[hka] at this;exact this
   go_wp2_with fail
   refine wp_region_noPanic ?_
   refine wp_region_held_drew (S:=fun w'=>Below wt.heap.size wt w') (by kernel_rfl) (below_drawn 1) (fun hHeld=>?_)
   have D4:Hid (Below wt.heap.size wt wt.drew):=hHeld
   generalize wt.drew=wd at *
   refine tk 0 hHeld ?_
   refine tk 1 hHeld ?_
   refine tk 2 hHeld ?_
   refine tk 3 hHeld ?_
   refine tk 4 hHeld ?_
   refine tks 5 hHeld ?_
   refine tks 6 hHeld ?_
   refine tks 7 hHeld ?_
   refine tks 8 hHeld ?_
   refine tks 9 hHeld ?_
   refine tks 10 hHeld ?_
   refine tks 11 hHeld ?_
   refine tks 12 hHeld ?_
   refine tk 13 hHeld ?_
   clear hHeld
   refine wpAnyH_done (by kernel_rfl) (NoPanic.normal ?_) _
   have BU:Hid (Below wa.heap.size wa wd):=below_then BV.out D4.out
   have M6:Hid (MIn wd q n l):=M4.out.later D4.out
   have LX6:Hid (LAt 155 wd w.heap.size (icells x)):=LAt.later L4.out D4.out
   obtain ⟨wu,hwu⟩:∃wu,wu=wd:=⟨_,rfl⟩
   subst hwu
   have HW1:Hid (ImsWf ([]++l.take k)):=(M6.out.take k (by omega)).wf
   have HW2:Hid (ImsWf (([]++l.take k)++[x])):=fun z hz=>(List.mem_append.1 hz).elim (HW1.out z) (fun hz=>by rw[List.mem_singleton.1 hz];exact HXW.out)
   clear D4 M4 L4 BV HM hnl
   go_wp2_with fail
   have G9:Hid (Below wu.heap.size wu wu.drew):=below_drawn 1
   refine wp_region_noPanic ?_
   refine wp_region_held_drew (S:=fun w'=>Below wu.heap.size wu w') (by kernel_rfl) (below_drawn 1) (fun hHeld=>?_)
   generalize wu.drew=wd at *
   refine tk 1 hHeld ?_
   refine tk 2 hHeld ?_
   refine wpAnyH_take (i:=3) (v:=_) (by simp;rfl) (by kernel_rfl) (by kernel_rfl) (by kernel_rfl) (fun _ _ _ h=>h) (yields_slice_is (vx:=.slice q n c) (vl:=none) (vh:=some (.int .i64 (k:Int))) (vm:=none) (by rfl) 92 rfl rfl rfl rfl rfl (fun w=>run_to w q n c k (by omega))) hHeld ?_
   simp only[Act.put,zA,zB,zC]
   refine wpAnyH_take (i:=5) (v:=_) (by simp;rfl) (by kernel_rfl) (by kernel_rfl) (by kernel_rfl) (fun _ _ _ h=>h) (yieldsIf_load_mid (by rfl) 155 (.tmp 3) rfl w.heap.size 0 rfl (icells x) _ (fun _ h=>LAt.range (LAt.later LX6.out h)) underlying155 rfl (by rw[sizeI,icells_len HXW.out.len])) hHeld ?_
   simp only[Act.put,zA,zB,zC]
   refine tk 8 hHeld ?_
   refine tk 9 hHeld ?_
   refine wpAnyH_take (i:=10) (v:=_) (by simp;rfl) (by kernel_rfl) (by kernel_rfl) (by kernel_rfl) (fun _ _ _ h=>h) (yields_slice_is (vx:=.slice q n c) (vl:=some (.int .i64 (k:Int))) (vh:=none) (vm:=none) (by rfl) 92 rfl rfl rfl rfl rfl (fun w=>run_from w q n c k (by omega))) hHeld ?_
   simp only[Act.put,zA,zB,zC]
   refine wpAnyH_ready (rs:=[0,6]) (by kernel_rfl) (by simp) ?_
   refine AllReadyH.cons (by simp;rfl) (fun Kc hKc=>?_) (AllReadyH.cons (by simp;rfl) (fun Kc hKc=>?_) AllReadyH.nil)
   ·refine sq_slice0 (by rfl) 92 rfl (build_im0 wd) ?_
    obtain ⟨x0,hx0⟩:∃x0,x0=wd.alloc (.cells #[] 155):=⟨_,rfl⟩
    obtain ⟨ge,hge⟩:∃ge,ge=wd.heap.size:=⟨_,rfl⟩
    have b0:Below wd.heap.size wd x0:=by rw[hx0];exact below_alloc wd _
    have G0:Hid (Below wu.heap.size wu x0):=below_then G9.out b0
    have R0:Hid (IOwn x0 wu.heap.size (.slice (some ⟨ge,0,none⟩) 0 0) []):=by rw[hx0,hge];exact World.ownsRow_made wd #[] 0 G9.out.size (Nat.zero_le _) rfl
    rw[← hx0,← hge]
    refine hKc.out _ _ G0.out (fun hHeld=>?_)
    clear hx0 hge b0
    clear hKc Kc
    simp only[Act.put,zA,zB,zC]
    refine wpAnyH_ready (rs:=[4,6]) (by kernel_rfl) (by simp) ?_
    refine AllReadyH.cons (by simp;rfl) (fun Kc hKc=>?_) (AllReadyH.cons (by simp;rfl) (fun Kc hKc=>?_) AllReadyH.nil)
    ·obtain ⟨q1,m1,c1,y1,hr1,ho1,hg1,-⟩:=app_imsL (c:=c) R0.out ImsWf.nil ((M6.out.take k (by omega)).later G0.out) (by simp;omega) G0.out.size
     refine sq_append (u1:=(.slice (some ⟨ge,0,none⟩) 0 0)) (u2:=.slice q k c) (by rfl) rfl rfl rfl rfl hr1 ?_
     have R1:Hid (IOwn y1 wu.heap.size (.slice q1 m1 c1) ([]++l.take k)):=ho1
     have G1:Hid (Below wu.heap.size wu y1):=G0.out.grown hg1 G0.out.size (fun j ej=>(R0.out.lt j ej).1)
     refine hKc.out _ _ G1.out (fun hHeld=>?_)
     clear hr1 ho1 hg1
     clear hKc Kc
     simp only[Act.put,zA,zB,zC]
     refine wpAnyH_ready (rs:=[6]) (by kernel_rfl) (by simp) ?_
     refine AllReadyH.cons (by simp;rfl) (fun Kc hKc=>?_) AllReadyH.nil
     refine sq_slice (u:=.agg (icells x).toArray) (by rfl) 92 rfl rfl (build_im y1 x HXW.out.len) ?_
     obtain ⟨x6,hx6⟩:∃x6,x6=y1.alloc (.cells (icells x).toArray 155):=⟨_,rfl⟩
     obtain ⟨gi,hgi⟩:∃gi,gi=y1.heap.size:=⟨_,rfl⟩
     have b6:Below y1.heap.size y1 x6:=by rw[hx6];exact below_alloc y1 _
     have G6:Hid (Below wu.heap.size wu x6):=below_then G1.out b6
     have m6:MIn x6 (some ⟨gi,0,none⟩) 1 [x]:=⟨rfl,fun y hy=>by rw[List.mem_singleton.1 hy];exact HXW.out,fun _=>⟨gi,0,rfl,by rw[hx6,hgi,show IC [x]=icells x by simp[IC]];exact LAt.range (LAt.new 155 y1 (icells x))⟩⟩
     have R6:Hid (IOwn x6 wu.heap.size (.slice q1 m1 c1) (([]++l.take k))):=R1.out.later b6
     have I6:Hid (MIn x6 (some ⟨gi,0,none⟩) 1 [x]):=m6
     rw[← hx6,← hgi]
     refine hKc.out _ _ G6.out (fun hHeld=>?_)
     clear hx6 hgi b6 m6
     clear hKc Kc
     simp only[Act.put,zA,zB,zC]
     refine wpAnyH_ready (rs:=[7]) (by kernel_rfl) (by simp) ?_
     refine AllReadyH.cons (by simp;rfl) (fun Kc hKc=>?_) AllReadyH.nil
     obtain ⟨q2,m2,c2,y2,hr2,ho2,hg2,-⟩:=app_imsL (c:=1) R6.out HW1.out I6.out (by simp;omega) G6.out.size
     refine sq_append (u1:=(.slice q1 m1 c1)) (u2:=.slice (some ⟨gi,0,none⟩) 1 1) (by rfl) rfl rfl rfl rfl hr2 ?_
     have R2:Hid (IOwn y2 wu.heap.size (.slice q2 m2 c2) (([]++l.take k)++[x])):=ho2
     have G2:Hid (Below wu.heap.size wu y2):=G6.out.grown hg2 G6.out.size (fun j ej=>(R6.out.lt j ej).1)
     refine hKc.out _ _ G2.out (fun hHeld=>?_)
     clear hr2 ho2 hg2
     clear hKc Kc
     simp only[Act.put,zA,zB,zC]
     refine wpAnyH_ready (rs:=[11]) (by kernel_rfl) (by simp) ?_
     refine AllReadyH.cons (by simp;rfl) (fun Kc hKc=>?_) AllReadyH.nil
     obtain ⟨q3,m3,c3,y3,hr3,ho3,hg3,-⟩:=app_imsL (c:=(c-k)) R2.out HW2.out ((M6.out.drop (k:=k) (c:=c) (by omega) HNC.out).later G2.out) (by simp;omega) G2.out.size
     refine sq_append (u1:=(.slice q2 m2 c2)) (u2:=.slice (dropA q k c) (n-k) (c-k)) (by rfl) rfl rfl rfl rfl hr3 ?_
     have R3:Hid (IOwn y3 wu.heap.size (.slice q3 m3 c3) ((([]++l.take k)++[x])++l.drop k)):=ho3
     have G3:Hid (Below wu.heap.size wu y3):=G2.out.grown hg3 G2.out.size (fun j ej=>(R2.out.lt j ej).1)
     refine hKc.out _ _ G3.out (fun hHeld=>?_)
     clear hr3 ho3 hg3
     clear hKc Kc
     simp only[Act.put,zA,zB,zC]
     refine tk 12 hHeld ?_
     clear hHeld
     refine wpAnyH_done (by kernel_rfl) (NoPanic.normal ?_) _
     have FF:Hid (Below w.heap.size w y3):=below_then (below_then B0.out BU.out) G3.out
     have RF:Hid (_):=R3.out
     clear G3 R3
     go_wp2_with fail
     go_ret
     obtain ⟨a1,a2,a3,a4,a5,-⟩:=IOwn.in RF.out (by rw[← HWn.out];exact HWW.out)
     have RO:=RF.out
     rw[← HWn.out] at a3 a4 a5 RO
     cases a3
     exact⟨_,_,rfl,a4,a5,FF.out,.inl (own_mono RO (below_then B0.out BU.out).size)⟩
    ·refine sq_slice (u:=.agg (icells x).toArray) (by rfl) 92 rfl rfl (build_im x0 x HXW.out.len) ?_
     obtain ⟨x6,hx6⟩:∃x6,x6=x0.alloc (.cells (icells x).toArray 155):=⟨_,rfl⟩
     obtain ⟨gi,hgi⟩:∃gi,gi=x0.heap.size:=⟨_,rfl⟩
     have b6:Below x0.heap.size x0 x6:=by rw[hx6];exact below_alloc x0 _
     have G6:Hid (Below wu.heap.size wu x6):=below_then G0.out b6
     have m6:MIn x6 (some ⟨gi,0,none⟩) 1 [x]:=⟨rfl,fun y hy=>by rw[List.mem_singleton.1 hy];exact HXW.out,fun _=>⟨gi,0,rfl,by rw[hx6,hgi,show IC [x]=icells x by simp[IC]];exact LAt.range (LAt.new 155 x0 (icells x))⟩⟩
     have R6:Hid (IOwn x6 wu.heap.size (.slice (some ⟨ge,0,none⟩) 0 0) ([])):=R0.out.later b6
     have I6:Hid (MIn x6 (some ⟨gi,0,none⟩) 1 [x]∧ge≠gi):=⟨m6,by have:=(R0.out.lt ge rfl).2;omega⟩
     rw[← hx6,← hgi]
     refine hKc.out _ _ G6.out (fun hHeld=>?_)
     clear hx6 hgi b6 m6
     clear hKc Kc
     simp only[Act.put,zA,zB,zC]
     refine wpAnyH_ready (rs:=[4]) (by kernel_rfl) (by simp) ?_
     refine AllReadyH.cons (by simp;rfl) (fun Kc hKc=>?_) AllReadyH.nil
     obtain ⟨q1,m1,c1,y1,hr1,ho1,hg1,-⟩:=app_imsL (c:=c) R6.out ImsWf.nil ((M6.out.take k (by omega)).later G6.out) (by simp;omega) G6.out.size
     refine sq_append (u1:=(.slice (some ⟨ge,0,none⟩) 0 0)) (u2:=.slice q k c) (by rfl) rfl rfl rfl rfl hr1 ?_
     have R1:Hid (IOwn y1 wu.heap.size (.slice q1 m1 c1) ([]++l.take k)):=ho1
     have G1:Hid (Below wu.heap.size wu y1):=G6.out.grown hg1 G6.out.size (fun j ej=>(R6.out.lt j ej).1)
     have I1:Hid (MIn y1 (some ⟨gi,0,none⟩) 1 [x]):=I6.out.1.grown hg1 (fun e'=>I6.out.2 (Option.some.inj e'))
     refine hKc.out _ _ G1.out (fun hHeld=>?_)
     clear hr1 ho1 hg1
     clear hKc Kc
     simp only[Act.put,zA,zB,zC]
     refine wpAnyH_ready (rs:=[7]) (by kernel_rfl) (by simp) ?_
     refine AllReadyH.cons (by simp;rfl) (fun Kc hKc=>?_) AllReadyH.nil
     obtain ⟨q2,m2,c2,y2,hr2,ho2,hg2,-⟩:=app_imsL (c:=1) R1.out HW1.out I1.out (by simp;omega) G1.out.size
     refine sq_append (u1:=(.slice q1 m1 c1)) (u2:=.slice (some ⟨gi,0,none⟩) 1 1) (by rfl) rfl rfl rfl rfl hr2 ?_
     have R2:Hid (IOwn y2 wu.heap.size (.slice q2 m2 c2) (([]++l.take k)++[x])):=ho2
     have G2:Hid (Below wu.heap.size wu y2):=G1.out.grown hg2 G1.out.size (fun j ej=>(R1.out.lt j ej).1)
     refine hKc.out _ _ G2.out (fun hHeld=>?_)
     clear hr2 ho2 hg2
     clear hKc Kc
     simp only[Act.put,zA,zB,zC]
     refine wpAnyH_ready (rs:=[11]) (by kernel_rfl) (by simp) ?_
     refine AllReadyH.cons (by simp;rfl) (fun Kc hKc=>?_) AllReadyH.nil
     obtain ⟨q3,m3,c3,y3,hr3,ho3,hg3,-⟩:=app_imsL (c:=(c-k)) R2.out HW2.out ((M6.out.drop (k:=k) (c:=c) (by omega) HNC.out).later G2.out) (by simp;omega) G2.out.size
     refine sq_append (u1:=(.slice q2 m2 c2)) (u2:=.slice (dropA q k c) (n-k) (c-k)) (by rfl) rfl rfl rfl rfl hr3 ?_
     have R3:Hid (IOwn y3 wu.heap.size (.slice q3 m3 c3) ((([]++l.take k)++[x])++l.drop k)):=ho3
     have G3:Hid (Below wu.heap.size wu y3):=G2.out.grown hg3 G2.out.size (fun j ej=>(R2.out.lt j ej).1)
     refine hKc.out _ _ G3.out (fun hHeld=>?_)
     clear hr3 ho3 hg3
     clear hKc Kc
     simp only[Act.put,zA,zB,zC]
     refine tk 12 hHeld ?_
     clear hHeld
     refine wpAnyH_done (by kernel_rfl) (NoPanic.normal ?_) _
     have FF:Hid (Below w.heap.size w y3):=below_then (below_then B0.out BU.out) G3.out
     have RF:Hid (_):=R3.out
     clear G3 R3
     go_wp2_with fail
     go_ret
     obtain ⟨a1,a2,a3,a4,a5,-⟩:=IOwn.in RF.out (by rw[← HWn.out];exact HWW.out)
     have RO:=RF.out
     rw[← HWn.out] at a3 a4 a5 RO
     cases a3
     exact⟨_,_,rfl,a4,a5,FF.out,.inl (own_mono RO (below_then B0.out BU.out).size)⟩
   ·refine sq_slice (u:=.agg (icells x).toArray) (by rfl) 92 rfl rfl (build_im wd x HXW.out.len) ?_
    obtain ⟨x6,hx6⟩:∃x6,x6=wd.alloc (.cells (icells x).toArray 155):=⟨_,rfl⟩
    obtain ⟨gi,hgi⟩:∃gi,gi=wd.heap.size:=⟨_,rfl⟩
    have b6:Below wd.heap.size wd x6:=by rw[hx6];exact below_alloc wd _
    have G6:Hid (Below wu.heap.size wu x6):=below_then G9.out b6
    have m6:MIn x6 (some ⟨gi,0,none⟩) 1 [x]:=⟨rfl,fun y hy=>by rw[List.mem_singleton.1 hy];exact HXW.out,fun _=>⟨gi,0,rfl,by rw[hx6,hgi,show IC [x]=icells x by simp[IC]];exact LAt.range (LAt.new 155 wd (icells x))⟩⟩
    have I6:Hid (MIn x6 (some ⟨gi,0,none⟩) 1 [x]∧gi<x6.heap.size):=⟨m6,by rw[hx6,hgi];simp⟩
    rw[← hx6,← hgi]
    refine hKc.out _ _ G6.out (fun hHeld=>?_)
    clear hx6 hgi b6 m6
    clear hKc Kc
    simp only[Act.put,zA,zB,zC]
    refine wpAnyH_ready (rs:=[0]) (by kernel_rfl) (by simp) ?_
    refine AllReadyH.cons (by simp;rfl) (fun Kc hKc=>?_) AllReadyH.nil
    refine sq_slice0 (by rfl) 92 rfl (build_im0 x6) ?_
    obtain ⟨x0,hx0⟩:∃x0,x0=x6.alloc (.cells #[] 155):=⟨_,rfl⟩
    obtain ⟨ge,hge⟩:∃ge,ge=x6.heap.size:=⟨_,rfl⟩
    have b0:Below x6.heap.size x6 x0:=by rw[hx0];exact below_alloc x6 _
    have G0:Hid (Below wu.heap.size wu x0):=below_then G6.out b0
    have R0:Hid (IOwn x0 wu.heap.size (.slice (some ⟨ge,0,none⟩) 0 0) []):=by rw[hx0,hge];exact World.ownsRow_made x6 #[] 0 G6.out.size (Nat.zero_le _) rfl
    have I0:Hid (MIn x0 (some ⟨gi,0,none⟩) 1 [x]∧ge≠gi):=⟨I6.out.1.later b0,by have:=I6.out.2;omega⟩
    rw[← hx0,← hge]
    refine hKc.out _ _ G0.out (fun hHeld=>?_)
    clear hx0 hge b0
    clear hKc Kc
    simp only[Act.put,zA,zB,zC]
    refine wpAnyH_ready (rs:=[4]) (by kernel_rfl) (by simp) ?_
    refine AllReadyH.cons (by simp;rfl) (fun Kc hKc=>?_) AllReadyH.nil
    obtain ⟨q1,m1,c1,y1,hr1,ho1,hg1,-⟩:=app_imsL (c:=c) R0.out ImsWf.nil ((M6.out.take k (by omega)).later G0.out) (by simp;omega) G0.out.size
    refine sq_append (u1:=(.slice (some ⟨ge,0,none⟩) 0 0)) (u2:=.slice q k c) (by rfl) rfl rfl rfl rfl hr1 ?_
    have R1:Hid (IOwn y1 wu.heap.size (.slice q1 m1 c1) ([]++l.take k)):=ho1
    have G1:Hid (Below wu.heap.size wu y1):=G0.out.grown hg1 G0.out.size (fun j ej=>(R0.out.lt j ej).1)
    have I1:Hid (MIn y1 (some ⟨gi,0,none⟩) 1 [x]):=I0.out.1.grown hg1 (fun e'=>I0.out.2 (Option.some.inj e'))
    refine hKc.out _ _ G1.out (fun hHeld=>?_)
    clear hr1 ho1 hg1
    clear hKc Kc
    simp only[Act.put,zA,zB,zC]
    refine wpAnyH_ready (rs:=[7]) (by kernel_rfl) (by simp) ?_
    refine AllReadyH.cons (by simp;rfl) (fun Kc hKc=>?_) AllReadyH.nil
    obtain ⟨q2,m2,c2,y2,hr2,ho2,hg2,-⟩:=app_imsL (c:=1) R1.out HW1.out I1.out (by simp;omega) G1.out.size
    refine sq_append (u1:=(.slice q1 m1 c1)) (u2:=.slice (some ⟨gi,0,none⟩) 1 1) (by rfl) rfl rfl rfl rfl hr2 ?_
    have R2:Hid (IOwn y2 wu.heap.size (.slice q2 m2 c2) (([]++l.take k)++[x])):=ho2
    have G2:Hid (Below wu.heap.size wu y2):=G1.out.grown hg2 G1.out.size (fun j ej=>(R1.out.lt j ej).1)
    refine hKc.out _ _ G2.out (fun hHeld=>?_)
    clear hr2 ho2 hg2
    clear hKc Kc
    simp only[Act.put,zA,zB,zC]
    refine wpAnyH_ready (rs:=[11]) (by kernel_rfl) (by simp) ?_
    refine AllReadyH.cons (by simp;rfl) (fun Kc hKc=>?_) AllReadyH.nil
    obtain ⟨q3,m3,c3,y3,hr3,ho3,hg3,-⟩:=app_imsL (c:=(c-k)) R2.out HW2.out ((M6.out.drop (k:=k) (c:=c) (by omega) HNC.out).later G2.out) (by simp;omega) G2.out.size
    refine sq_append (u1:=(.slice q2 m2 c2)) (u2:=.slice (dropA q k c) (n-k) (c-k)) (by rfl) rfl rfl rfl rfl hr3 ?_
    have R3:Hid (IOwn y3 wu.heap.size (.slice q3 m3 c3) ((([]++l.take k)++[x])++l.drop k)):=ho3
    have G3:Hid (Below wu.heap.size wu y3):=G2.out.grown hg3 G2.out.size (fun j ej=>(R2.out.lt j ej).1)
    refine hKc.out _ _ G3.out (fun hHeld=>?_)
    clear hr3 ho3 hg3
    clear hKc Kc
    simp only[Act.put,zA,zB,zC]
    refine tk 12 hHeld ?_
    clear hHeld
    refine wpAnyH_done (by kernel_rfl) (NoPanic.normal ?_) _
    have FF:Hid (Below w.heap.size w y3):=below_then (below_then B0.out BU.out) G3.out
    have RF:Hid (_):=R3.out
    clear G3 R3
    go_wp2_with fail
    go_ret
    obtain ⟨a1,a2,a3,a4,a5,-⟩:=IOwn.in RF.out (by rw[← HWn.out];exact HWW.out)
    have RO:=RF.out
    rw[← HWn.out] at a3 a4 a5 RO
    cases a3
    exact⟨_,_,rfl,a4,a5,FF.out,.inl (own_mono RO (below_then B0.out BU.out).size)⟩
theorem nwS_flat (F:List Im)(t:TX):nwS (t.ims.drop t.ims.length++F)=nwS F:=by simp
theorem drop_flat (l:List TX){k:Nat}{t:TX}(h:l[k]?=some t):flat (l.drop k)=t.ims++flat (l.drop (k+1)):=by
 obtain ⟨hk,e⟩:=List.getElem?_eq_some_iff.1 h
 rw[List.drop_eq_getElem_cons hk,e];rfl
theorem flat_drop_le:∀(l:List TX) (k:Nat),(flat (l.drop k)).length≤(flat l).length
 | [],k=>by simp[flat]
 | t :: l,0=>Nat.le_refl _
 | t :: l,k+1=>by
  have:=flat_drop_le l k
  rw[List.drop_succ_cons,flat_cons,List.length_append];omega
theorem nw_step {l:List Im}{j:Nat}{x:Im}(h:l[j]?=some x)(F:List Im):nwS (l.drop j++F)=withS (nwS (l.drop (j+1)++F)) x:=by
 obtain ⟨hk,e⟩:=List.getElem?_eq_some_iff.1 h
 rw[List.drop_eq_getElem_cons hk,e];rfl
theorem refNewest_any (q:Option Addr)(n c:Nat)(txs:List TX)(w:World)(h:XIn w q n txs)(hn:n≤2000000)(hf:(flat txs).length≤2000000) :
  Calls prog 121 #[.slice q n c] w fun e w'=>∃p d,e=.returned (.slice p (nwS (flat txs)).length d)∧MIn w' p (nwS (flat txs)).length (nwS (flat txs))∧Below w.heap.size w w'∧IOwn w' w.heap.size (.slice p (nwS (flat txs)).length d) (nwS (flat txs)):=by
 have HX:Hid (XIn w q n txs):=h
 have HF:Hid ((flat txs).length≤2000000):=hf
 have hlen:txs.length=n:=h.len
 clear h hf
 go_enter func121,ntmps121
 go_wp2_with fail
 go_loopw [3,4] (fun v i wr=>∃k:Nat,k≤n∧i=.int .i64 ((k:Int)-1)∧∃p m d,v=.slice p m d∧m≤2000000∧Hid (MIn wr p m (nwS (flat (txs.drop k)))∧m≤d∧Below w.heap.size w wr∧IOwn wr w.heap.size (.slice p m d) (nwS (flat (txs.drop k))))) (fun _ i _=>((intOf i)+1).toNat)
 case atStart=>exact⟨n,Nat.le_refl _,rfl,none,0,0,rfl,by omega,by rw[← hlen,List.drop_length];exact MIn.nil _ _,Nat.le_refl _,Below.refl _ _,by rw[← hlen,List.drop_length];exact World.ownsRow_nil _ _ _ _⟩
 case round =>
  obtain ⟨k,hk,rfl,p,m,d,rfl,hm,HI⟩:=hrel
  by_cases hlt:0<k
  ·obtain ⟨k',rfl⟩:∃k',k=k' + 1:=⟨k-1,by omega⟩
   obtain ⟨t,htk⟩:∃t,txs[k']?=some t:=⟨_,List.getElem?_eq_getElem (by omega)⟩
   have HXr:XIn wr q n txs:=HX.out.later HI.out.2.2.1
   obtain ⟨g,o,rfl,hcell⟩:=HXr.cells (by omega)
   obtain ⟨q2,c2,e0,e1,mi,m1,m2⟩:=hcell k' t htk
   have hDF:(flat (txs.drop k')).length≤2000000:=Nat.le_trans (flat_drop_le txs k') HF.out
   have hF':t.ims.length+(flat (txs.drop (k' + 1))).length≤2000000:=by rw[drop_flat txs htk,List.length_append] at hDF;exact hDF
   have hIK:(((k' + 1:Nat):Int)-1)=(k':Int):=by omega
   have hi0:(0:Int)≤(k':Int):=by omega
   have hi1:(k':Int)<(n:Int):=by omega
   have HC:Hid (∀W,Below w.heap.size w W→W.cell? ⟨g,o+k'*2+1,none⟩=some (.slice q2 t.ims.length c2)∧MIn W q2 t.ims.length t.ims):=by
    intro W hW
    obtain ⟨g',o',e',hcell'⟩:=(HX.out.later hW).cells (by omega)
    obtain ⟨q3,c3,f0,f1,mi3,-,-⟩:=hcell' k' t htk
    cases e'
    have f2:=(HX.out.cells (by omega))
    obtain ⟨g4,o4,e4,hc4⟩:=f2
    cases e4
    obtain ⟨q5,c5,k0,k1,-,-,-⟩:=hc4 k' t htk
    have a1:wr.cell? ⟨g,o+k'*2+1,none⟩=some (.slice q5 t.ims.length c5):=(HI.out.2.2.1.cell (p:=⟨g,o+k'*2+1,none⟩) (World.block_lt_of_cell? w _ k1)).trans k1
    have a2:W.cell? ⟨g,o+k'*2+1,none⟩=some (.slice q5 t.ims.length c5):=(hW.cell (p:=⟨g,o+k'*2+1,none⟩) (World.block_lt_of_cell? w _ k1)).trans k1
    rw[e1] at a1
    rw[f1] at a2
    cases a1;cases a2
    exact⟨f1,mi3⟩
   clear hcell e0 mi HXr m1 m2 hDF
   rw[hIK]
   go_wp2_with fail
   clear e1
   go_loopw [3,5] (fun v i wr=>∃j:Nat,j≤t.ims.length∧i=.int .i64 ((j:Int)-1)∧∃p m d,v=.slice p m d∧m≤2000000∧Hid (MIn wr p m (nwS (t.ims.drop j++flat (txs.drop (k' + 1))))∧m≤d∧Below w.heap.size w wr∧IOwn wr w.heap.size (.slice p m d) (nwS (t.ims.drop j++flat (txs.drop (k' + 1)))))) (fun _ i _=>((intOf i)+1).toNat)
   case atStart=>exact⟨t.ims.length,Nat.le_refl _,rfl,p,m,d,rfl,hm,by rw[nwS_flat];exact HI.out.1,HI.out.2.1,HI.out.2.2.1,by rw[nwS_flat];exact HI.out.2.2.2⟩
   case round =>
    obtain ⟨j,hj,rfl,p,m,d,rfl,hm,HJ⟩:=hrel
    clear HI
    by_cases hjl:0<j
    ·obtain ⟨j',rfl⟩:∃j',j=j' + 1:=⟨j-1,by omega⟩
     obtain ⟨x,hx⟩:∃x,t.ims[j']?=some x:=⟨_,List.getElem?_eq_getElem (by omega)⟩
     obtain ⟨e1,mi⟩:=HC.out _ HJ.out.2.2.1
     have hxw:=mi.wf x (List.mem_of_getElem? hx)
     obtain ⟨g2,o2,rfl,-⟩:=mi.cells (by omega)
     have L32:Hid (_):=mi.load hx
     have hJK:(((j' + 1:Nat):Int)-1)=(j':Int):=by omega
     have hj0:(0:Int)≤(j':Int):=by omega
     have hj1:(j':Int)<(t.ims.length:Int):=by omega
     clear mi
     rw[hJK]
     go_wp2_with ((with_reducible refine at_ops ?_);(refine wpList_load_is (by rfl) 155 rfl rfl L32.out ?_);simp only[Act.put,zA,zB,zC])
     refine (with_any p m d _ x wr HJ.out.1 HJ.out.2.1 hxw (by omega)).mono ?_
     rintro e w8 ⟨p8,d8,rfl,m8,l8,b8,o8⟩
     have hmj:=HJ.out.1.len
     have o9:IOwn w8 w.heap.size (.slice p8 (withS (nwS (t.ims.drop (j' + 1)++flat (txs.drop (k' + 1)))) x).length d8) (withS (nwS (t.ims.drop (j' + 1)++flat (txs.drop (k' + 1)))) x):=by
      rcases o8 with o8 | ⟨e1,e2,e3⟩
      ·exact own_mono o8 HJ.out.2.2.1.size
      ·subst e1;subst e2;rw[e3,hmj];exact IOwn.later HJ.out.2.2.2 b8
     clear o8 hmj
     have hl8:(withS (nwS (t.ims.drop (j' + 1)++flat (txs.drop (k' + 1)))) x).length≤2000000:=by
      rw[← nw_step hx]
      refine Nat.le_trans (nwS_len _) ?_
      rw[List.length_append,List.length_drop];omega
     rw[← nw_step hx] at m8 l8 hl8 o9
     have F8:Hid (_):=(⟨m8,l8,below_then HJ.out.2.2.1 b8,o9⟩:MIn w8 p8 (nwS (t.ims.drop j' ++ flat (txs.drop (k' + 1)))).length (nwS (t.ims.drop j' ++ flat (txs.drop (k' + 1))))∧(nwS (t.ims.drop j' ++ flat (txs.drop (k' + 1)))).length≤d8∧Below w.heap.size w w8∧IOwn w8 w.heap.size (.slice p8 (nwS (t.ims.drop j' ++ flat (txs.drop (k' + 1)))).length d8) (nwS (t.ims.drop j' ++ flat (txs.drop (k' + 1)))))
     rw[← nw_step hx]
     generalize (nwS (t.ims.drop j' ++ flat (txs.drop (k' + 1)))).length=m8' at *
     clear m8 l8 b8 o9 L32 e1 HJ
     go_wp2_with fail
     go_roundw
     case rel=>exact⟨j',by omega,by go_num,p8,m8',d8,rfl,hl8,F8.out⟩
     case measure=>simp[intOf]
    ·obtain rfl:j=0:=by omega
     have hnl:¬(0:Int)≤((0:Nat):Int)-1:=by omega
     rw[List.drop_zero,← drop_flat txs htk] at HJ
     go_wp2_with fail
     go_roundw
     case rel=>exact⟨k',by omega,by go_num,p,m,d,rfl,hm,HJ.out⟩
     case measure=>simp[intOf]
  ·obtain rfl:k=0:=by omega
   have hnl:¬(0:Int)≤((0:Nat):Int)-1:=by omega
   have hm2:=HI.out.1.len
   rw[List.drop_zero] at HI hm2
   subst hm2
   go_wp2_with fail
   go_ret
   exact⟨p,d,rfl,HI.out.1,HI.out.2.2.1,HI.out.2.2.2⟩
end Go.Proofs.YtdadpepfpiimgaaGreatDoor
