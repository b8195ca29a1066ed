import Derived.Test.YtdadpepfpiimgaaGreatDoorK30
import Derived.Test.YtdadpepfpiimgaaGreatDoorTie
import Derived.Test.YtdadpepfpiimgaaGreatDoorCards
set_option maxHeartbeats 20000000
set_option maxRecDepth 100000
namespace Go.Proofs.YtdadpepfpiimgaaGreatDoor
open Go.ChangeShapes Go.WideShapes Go.ChangeAt Go.RowKit Q
theorem redoPlays_lifted (os:Os)(started:os.Started)(H:Type)(enc:TypeId × Value→H) :
  ReturnsInHanded {} Tryz.checked os 5 .any (fun w args=>(Rows.redoPlaysSpec.pre enc Tryz.prog Tryz.f5 [] false w args∧laidMetH Tryz.prog laidS w)∧sizedMet enc Tryz.prog Tryz.f5 (OpenSpec.ofChange Rows.redoPlaysSpec) false w args)
   (Rows.redoPlaysSpec.post enc Tryz.prog Tryz.f5 false true false false):=by
 refine returnsInHanded_of_change_and (C:=Tryz.checked) (X:=fun w _=>laidMetH Tryz.prog laidS w) (fun _ _ _ hh h=>h.of_heap hh) ownK started (by kernel_rfl) Tryz.func5
  (ChangeSpec.witness_shaped (enc:=enc) (C:=Tryz.checked) (os:=os) (X:=fun w _=>laidMetH Tryz.prog laidS w) false (World.doorLaid Tryz.prog 400 os) #[.agg (hcl sup0 0 none 0 0).toArray,.agg (ccells sup0).toArray,.slice none 0 0] 8 rfl (World.shaped_of_RefB (by kernel_rfl) (by kernel_rfl)) (by kernel_rfl) (by kernel_rfl) (by kernel_rfl) (door_met os _)) ?_
 intro W base args ds gs before hval0 hW _ hsz hL _
 have hval:∀(j:Nat) t v,Tryz.f5.params[j]?=some t→args[j]?=some v→Value.okWide Tryz.prog W .any base t v:=hval0
 have hW':=hW
 obtain ⟨p,q,hA0,hV,rfl,hfz,hnd⟩:=hW
 have hA:DataW.TrodAll enc Tryz.prog W 0 (fun _=>true) true Tryz.f5.params.toList args.toList ds p:=hA0
 rw[Tryz.params5] at hA hval
 obtain ⟨v0,vs0,d0,ds0,p0,q0,hargs,rfl,rfl,h0,r0⟩:=trodAll_cons hA
 obtain ⟨v1,vs1,d1,ds1,p1,q1,rfl,rfl,rfl,h1,r1⟩:=trodAll_cons r0
 obtain ⟨v2,vs2,d2,ds2,p2,q2,rfl,rfl,rfl,h2,r2⟩:=trodAll_cons r1
 obtain ⟨rfl,rfl,rfl⟩:=trodAll_nil r2
 obtain rfl:args=#[v0,v1,v2]:=by cases args;simp_all
 obtain ⟨rfl,rfl⟩:=trodVars_none hV
 have hsz':(DataW.weightsEach Tryz.prog (Tryz.f5.params.toList++Rows.redoPlaysSpec.plain.varTypes Tryz.prog) (([d0,d1,d2]:List (DataW H))++[])).all (·≤reachBytes)=true:=hsz
 rw[Tryz.params5] at hsz'
 obtain ⟨cs0,rfl,hn0⟩:=okWide_struct Tryz.underlying26 (hval 0 26 v0 rfl rfl)
 rw[cellsDk] at hn0
 have k0:=h0
 have lt0:∀x∈p0,x.block<W.heap.size:=by obtain ⟨m,hm⟩:=k0;exact DataW.trod_lt m _ _ _ hm
 obtain ⟨s0,mo0,a0,m0,cp0,l0,rfl,hS0,hm0⟩:=openedDisk hn0 h0 (fun k hk=>by have:=List.all_eq_true.1 hsz' k (DataW.weights_mem_each (j:=0) (t:=26) rfl rfl k hk);simpa using this)
 obtain ⟨cs1,rfl,hn1⟩:=okWide_struct Tryz.underlying23 (hval 1 23 v1 rfl rfl)
 rw[cellsC] at hn1
 have k1:=h1
 have lt1:∀x∈p1,x.block<W.heap.size:=by obtain ⟨m,hm⟩:=k1;exact DataW.trod_lt m _ _ _ hm
 obtain ⟨c1,rfl⟩:=openedCfg hn1 h1
 obtain ⟨a2,len2,cap2,rfl⟩:=okWide_slice Tryz.underlying71 (hval 2 71 v2 rfl rfl)
 have k2:=h2
 have lt2:∀x∈p2,x.block<W.heap.size:=by obtain ⟨m,hm⟩:=k2;exact DataW.trod_lt m _ _ _ hm
 obtain ⟨l2,hl2⟩:=openedOps h2 (fun k hk=>by have:=List.all_eq_true.1 hsz' k (DataW.weights_mem_each (j:=2) (t:=71) rfl rfl k hk);simpa using this)
 clear hA0 hval0
 refine (Q.redoPlays_any (tab_of hL) s0 mo0 hS0 hm0 c1 cap2 hl2).mono fun e W' ⟨he,bel⟩=>?_
 subst he
 exact⟨_,rfl,_,_,_,[],_,[],hW',trodAll_mk1 (shut_bool Tryz.underlying4 _),(trodAll_cons_mk (Below.trod laidK (by kernel_rfl) (of_decide_eq_true (by kernel_rfl)) k0 bel lt0) (trodAll_cons_mk (Below.trod laidK (by kernel_rfl) (of_decide_eq_true (by kernel_rfl)) k1 bel lt1) (trodAll_cons_mk (Below.trod laidK (by kernel_rfl) (of_decide_eq_true (by kernel_rfl)) k2 bel lt2) trodAll_mk0))),rfl,bel.frame _,fun h=>by cases h⟩
theorem redoPlays_row:Rows.RedoPlaysSaid :=
 OpenClaim.holds_of_wide 5 Tryz.f5 rfl rfl rfl rfl rfl rfl rfl ⟨rfl,rfl,rfl,rfl,rfl⟩ rfl rfl rfl rfl rfl (by kernel_rfl) Tryz.func5 (by kernel_rfl)
  (of_decide_eq_true (by kernel_rfl)) (by unfold Func.isWrapper;first | (rw[if_pos (by decide +kernel)];kernel_rfl) | (rw[if_neg (by decide +kernel)];exact⟨rfl,rfl⟩))
  (fun os started H enc _=>redoPlays_lifted os started H enc)
theorem redoPlays_holds:Rows.RedoPlaysCardSaid :=
 Claim7.holds_tied_plain_at .later [] [.data, .data] true (true, "eefb3f16985c4f04ea07c0526b4af70bb85cb38900409fa58f5bf8992e98729d") false
  redoPlays_row (fun _ h=>by cases h) (by kernel_rfl) (fun _ h=>by cases h) redoPlays_row_tie rfl ⟨rfl,rfl⟩ (by kernel_rfl) rfl
  (fun f fn hf hfn=>by
   obtain rfl : f = 5 := Option.some.inj ((show Tryz.prog.funcNamed "wicket/wicketlaw21.RedoPlays" = some 5 by kernel_rfl).symm.trans hf) |>.symm
   obtain rfl:fn=Tryz.f5:=(Option.some.inj (Tryz.func5.symm.trans hfn)).symm
   exact⟨by kernel_rfl,fun j t ht=>by
    rw[Tryz.params5] at ht
    have hm:t∈[26,23,71]:=by simpa using Array.mem_of_getElem? ht
    have hall:([26,23,71].all fun u=>!Tryz.prog.wantsStandIn u)=true:=by kernel_rfl
    exact (show Tryz.prog.wantsStandIn t=false by simpa using List.all_eq_true.1 hall t hm)⟩)
  (by kernel_rfl)
#print axioms redoPlays_holds
end Go.Proofs.YtdadpepfpiimgaaGreatDoor
