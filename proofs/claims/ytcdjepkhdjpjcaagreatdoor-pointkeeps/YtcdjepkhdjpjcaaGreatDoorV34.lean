import Derived.Test.YtcdjepkhdjpjcaaGreatDoorV33
set_option maxHeartbeats 20000000
set_option maxRecDepth 100000
namespace Go.Proofs.YtcdjepkhdjpjcaaGreatDoor.Q
open Go.Proofs.Tryz
open Go.RowKit
section
variable {w0 w w':World} {K:Ks} {x y:Sx} {pd:List Cm} {X:Nat→Th} {i B k:Nat} {st t:Int} {v:Value} {L:List C.En}
theorem free_other (h:DS w0 w K x y pd X)(h8:8≤i)(h36:i<36)(e:X i=.pt B st t v L k)(e36:X 36=.no)(e37:X 37=.no)(dm:(x.g.mark != t)=true):Calls prog 47 #[qp B,.agg (pdk K).toArray] w fun e w'=>e=.returned (.tuple #[.agg row0.toArray,.int .i64 2])∧DS w0 w' K x y pd X:=by
 obtain ⟨r,hr⟩:∃r,w.heap.size=r:=⟨_,rfl⟩
 obtain ⟨w2,hw2⟩:∃W,(w.alloc (.cells (pdk K).toArray 37)).alloc (.cells row0.toArray 61)=W:=⟨_,rfl⟩
 have HD2:Hid (DS w0 w2 K x y pd (X2 X r K)):=by rw[← hw2,← hr];exact h.two
 have HAL:Hid ((Instr.alloc 61 true (.tuple #[])).run prog (w.alloc (.cells (pdk K).toArray 37))=.ok (.pointer (some ⟨r+1,0,none⟩)) w2):=by
  have:=alloc_row (w.alloc (.cells (pdk K).toArray 37))
  rw[World.size_alloc,hr,hw2] at this
  exact this
 have HE:Hid (∀j,j≠36→j≠37→X2 X r K j=X j):=fun j a b=>(put_other _ _ b).trans (put_other _ _ a)
 clear h hw2
 go_enter func47,ntmps47
 go_wp2_with ((with_reducible refine C.at_ops ?_);(refine alI 61 HAL.out ?_))
 have HI:Hid (X2 X r K i=.pt B st t v L k):=(HE.out i (by omega) (by omega)).trans e
 have HD3:Hid (DS w0 w2.drew K x y pd (X2 X r K)):=HD2.out.later (C.below_drawn 1)
 clear HD2 HAL
 refine wp_region_noPanic ?_
 refine wp_region_held_drew (S:=fun W=>DkIn W r K∧C.PtAt W B st t v L k) (by kernel_rfl) ⟨HD3.out.dkin rfl,HD3.out.pt h8 (by omega) HI.out⟩ (fun hHeld=>?_)
 generalize w2.drew=w3 at *
 refine tk 0 hHeld ?_
 refine tkl 1 hHeld (fun _ s=>s.1.lp) ?_
 refine tk 3 hHeld ?_
 refine tk 4 hHeld ?_
 refine tk 5 hHeld ?_
 refine tkl 6 hHeld (fun _ s=>s.2.c1) ?_
 refine tkr 2 fun Kc hKc=>?_
 go_simp
 refine (p_marked HD3.out).mono ?_
 rintro e' w' ⟨rfl,rfl⟩
 refine hKc.out _ _ ⟨HD3.out.dkin rfl,HD3.out.pt h8 (by omega) HI.out⟩ (fun hHeld=>?_)
 clear hKc Kc
 refine tk 7 hHeld ?_
 refine tk 8 hHeld ?_
 refine tks 9 hHeld ?_
 refine tks 10 hHeld ?_
 refine tks 11 hHeld ?_
 refine tks 12 hHeld ?_
 refine tks 13 hHeld ?_
 refine tks 14 hHeld ?_
 refine tks 15 hHeld ?_
 refine tks 16 hHeld ?_
 refine tks 17 hHeld ?_
 refine tks 18 hHeld ?_
 refine tks 19 hHeld ?_
 refine tks 20 hHeld ?_
 refine tks 21 hHeld ?_
 refine tk 22 hHeld ?_
 clear hHeld
 refine wpAnyH_done (by kernel_rfl) (NoPanic.normal ?_) _
 clear hHeld HI HE
 have HBD:Hid (_):=build_row0 w3
 have HST:Hid ((Instr.storeAt 61 (.pointer (some ⟨r+1,0,none⟩)) (.agg (row0).toArray)).run prog w3=.ok () (w3.setRow (r+1) (row0).toArray)):=store_row (HD3.out.blk (i:=37) (by decide) (by decide) (put_same _ _ _)) (rowC_len (C.zs_len 32)) (rowC_one _ _ _ _ _)
 obtain ⟨hdz,lz⟩:=HD3.out.told e36 e37 (row0)
 have HDz:Hid (DS w0 (w3.setRow (r+1) (row0).toArray) K x y pd X):=hdz
 have HLz:Hid (LAt 61 (w3.setRow (r+1) (row0).toArray) (r+1) (row0)):=lz
 clear hdz lz HD3
 generalize w3.setRow (r+1) (row0).toArray=wz at *
 go_wp2_with ((with_reducible refine C.at_ops ?_);(first | ((refine C.wpList_build_is (vs:=[]) (by rfl) 61 rfl (by rfl) HBD.out ?_);simp only[Act.put,zA,zB,zC]) | (refine stI 61 HST.out ?_)))
 (try simp only[Exit.inBlock,Exit.then])
 exact bodyPost_ret (C.results_lat results47 _ _ (r+1) 61 _ _ (by rfl) HLz.out underlying61 rfl (by rw[size_row,rowC_len (C.zs_len 32)])) rfl ⟨rfl,HDz.out⟩
theorem wrap_nn {a:Int}(h0:0≤a)(h1:a<18446744073709551616):IntKind.u64.wrap a=a:=by
 simp[IntKind.wrap,IntKind.bits,IntKind.signed]
 omega
theorem used_bounds (h:x.Ok):0≤x.a.used∧x.a.used≤1000000:=by
 have h1:=h.a.used0
 have h2:=h.a.room
 have h3:=h.a.rsv0
 have h4:=h.a.may
 unfold E.mayC at h4
 omega
theorem free_much (h:DS w0 w K x y pd X)(h8:8≤i)(h36:i<36)(e:X i=.pt B st t v L k)(e36:X 36=.no)(e37:X 37=.no)(dm:(x.g.mark != t)=false)(d2:decide (x.a.used<t-x.g.tail)=true):Calls prog 47 #[qp B,.agg (pdk K).toArray] w fun e w'=>e=.returned (.tuple #[.agg row0.toArray,.int .i64 2])∧DS w0 w' K x y pd X:=by
 have hu:=used_bounds h.okx
 have ht1:x.g.mark=t:=by simpa using dm
 have hg1:=h.okx.g.t0
 have hg2:x.g.tail≤t:=ht1 ▸ h.okx.g.tm
 have hg3:t≤4611686018427387904:=ht1 ▸ Int.le_trans h.okx.g.mf h.okx.g.fM
 clear ht1
 have hw1:IntKind.u64.wrap x.a.used=x.a.used:=wrap_nn (by omega) (by omega)
 have hw2:IntKind.u64.wrap (t-x.g.tail)=t-x.g.tail:=wrap_nn (by omega) (by omega)
 obtain ⟨r,hr⟩:∃r,w.heap.size=r:=⟨_,rfl⟩
 obtain ⟨w2,hw2⟩:∃W,(w.alloc (.cells (pdk K).toArray 37)).alloc (.cells row0.toArray 61)=W:=⟨_,rfl⟩
 have HD2:Hid (DS w0 w2 K x y pd (X2 X r K)):=by rw[← hw2,← hr];exact h.two
 have HAL:Hid ((Instr.alloc 61 true (.tuple #[])).run prog (w.alloc (.cells (pdk K).toArray 37))=.ok (.pointer (some ⟨r+1,0,none⟩)) w2):=by
  have:=alloc_row (w.alloc (.cells (pdk K).toArray 37))
  rw[World.size_alloc,hr,hw2] at this
  exact this
 have HE:Hid (∀j,j≠36→j≠37→X2 X r K j=X j):=fun j a b=>(put_other _ _ b).trans (put_other _ _ a)
 clear h hw2
 go_enter func47,ntmps47
 go_wp2_with ((with_reducible refine C.at_ops ?_);(refine alI 61 HAL.out ?_))
 have HI:Hid (X2 X r K i=.pt B st t v L k):=(HE.out i (by omega) (by omega)).trans e
 have HD3:Hid (DS w0 w2.drew K x y pd (X2 X r K)):=HD2.out.later (C.below_drawn 1)
 clear HD2 HAL
 refine wp_region_noPanic ?_
 refine wp_region_held_drew (S:=fun W=>DkIn W r K∧C.PtAt W B st t v L k) (by kernel_rfl) ⟨HD3.out.dkin rfl,HD3.out.pt h8 (by omega) HI.out⟩ (fun hHeld=>?_)
 generalize w2.drew=w3 at *
 refine tk 0 hHeld ?_
 refine tkl 1 hHeld (fun _ s=>s.1.lp) ?_
 refine tk 3 hHeld ?_
 refine tk 4 hHeld ?_
 refine tk 5 hHeld ?_
 refine tkl 6 hHeld (fun _ s=>s.2.c1) ?_
 refine tkr 2 fun Kc hKc=>?_
 go_simp
 refine (p_marked HD3.out).mono ?_
 rintro e' w' ⟨rfl,rfl⟩
 refine hKc.out _ _ ⟨HD3.out.dkin rfl,HD3.out.pt h8 (by omega) HI.out⟩ (fun hHeld=>?_)
 clear hKc Kc
 refine tk 7 hHeld ?_
 refine tk 8 hHeld ?_
 refine tk 9 hHeld ?_
 refine tkl 10 hHeld (fun _ s=>s.1.ap) ?_
 refine tk 13 hHeld ?_
 refine tk 14 hHeld ?_
 refine tk 15 hHeld ?_
 refine tkl 16 hHeld (fun _ s=>s.2.c1) ?_
 refine tk 17 hHeld ?_
 refine tkl 18 hHeld (fun _ s=>s.1.lp) ?_
 refine tkr 11 fun Kc hKc=>?_
 go_simp
 refine (p_used HD3.out).mono ?_
 rintro e' w' ⟨rfl,hw'⟩
 subst w'
 refine hKc.out _ _ ⟨HD3.out.dkin rfl,HD3.out.pt h8 (by omega) HI.out⟩ (fun hHeld=>?_)
 clear hKc Kc
 refine tk 12 hHeld ?_
 refine tkr 19 fun Kc hKc=>?_
 go_simp
 refine (p_tail HD3.out).mono ?_
 rintro e' w' ⟨rfl,rfl⟩
 refine hKc.out _ _ ⟨HD3.out.dkin rfl,HD3.out.pt h8 (by omega) HI.out⟩ (fun hHeld=>?_)
 clear hKc Kc
 refine tk 20 hHeld ?_
 refine tk 21 hHeld ?_
 refine tk 22 hHeld ?_
 clear hHeld
 refine wpAnyH_done (by kernel_rfl) (NoPanic.normal ?_) _
 clear hHeld HI HE
 have HBD:Hid (_):=build_row0 w3
 have HST:Hid ((Instr.storeAt 61 (.pointer (some ⟨r+1,0,none⟩)) (.agg (row0).toArray)).run prog w3=.ok () (w3.setRow (r+1) (row0).toArray)):=store_row (HD3.out.blk (i:=37) (by decide) (by decide) (put_same _ _ _)) (rowC_len (C.zs_len 32)) (rowC_one _ _ _ _ _)
 obtain ⟨hdz,lz⟩:=HD3.out.told e36 e37 (row0)
 have HDz:Hid (DS w0 (w3.setRow (r+1) (row0).toArray) K x y pd X):=hdz
 have HLz:Hid (LAt 61 (w3.setRow (r+1) (row0).toArray) (r+1) (row0)):=lz
 clear hdz lz HD3
 generalize w3.setRow (r+1) (row0).toArray=wz at *
 go_wp2_with ((with_reducible refine C.at_ops ?_);(first | ((refine C.wpList_build_is (vs:=[]) (by rfl) 61 rfl (by rfl) HBD.out ?_);simp only[Act.put,zA,zB,zC]) | (refine stI 61 HST.out ?_)))
 (try simp only[Exit.inBlock,Exit.then])
 exact bodyPost_ret (C.results_lat results47 _ _ (r+1) 61 _ _ (by rfl) HLz.out underlying61 rfl (by rw[size_row,rowC_len (C.zs_len 32)])) rfl ⟨rfl,HDz.out⟩
end
section
variable {w0 w w':World} {K:Ks} {x y:Sx} {pd:List Cm} {X:Nat→Th} {i B k:Nat} {st t:Int} {v:Value} {L:List C.En}
theorem own_none (w:World)(b:Nat):C.EOwn 54 w b (.slice none 0 0) []:=⟨rfl,.inl ⟨rfl,rfl⟩⟩
theorem DS.ptnone (h:DS w0 w K x y pd X)(h8:8≤i)(h40:i<40)(e:X i=.pt B st t v L k):DS w0 (w.setRow B #[.int .i64 1,.int .u64 0,.slice none 0 0,.int .i64 0]) K x y pd (put X i (.pt B 1 0 (.slice none 0 0) [] 0)):=by
 refine h.turnX h8 h40 (fun G at'=>?_) (kept_setRow w B _) (fun b hb=>by rw[e];exact hb) (fun b hb=>by rw[e];exact .inl hb)
 have a:=at' i h8 h40
 rw[e] at a
 exact⟨⟨setRow_heap w B _ _ 87 (0,0) a.1.st,own_none _ _,C.EnsWf.nil,by decide,Nat.le_refl _⟩,fun g hg=>by cases hg⟩
theorem size_pt:(prog.info? 87).map (·.size)=some 4:=by kernel_rfl
theorem build_pt (w:World):(Instr.build 87 #[(0,.int .i64 1)]).run prog w=.ok (.agg #[.int .i64 1,.int .u64 0,.slice none 0 0,.int .i64 0]) w:=run_build w 87 _ _ (by kernel_rfl)
theorem load_row {g:Nat}{ds:List Value}{ty:TypeId}(h:LAt ty w g ds)(hl:ds.length=41):(Instr.loadAt 61 (.pointer (some ⟨g,0,none⟩))).run prog w=.ok (.agg ds.toArray) w:=run_loadAt_mid w g 0 61 ds _ (LAt.range h) underlying61 rfl (by rw[size_row,hl])
theorem free_good {x':Sx}{n:Int}(HX':Hid ((x.fre.frd n).drp L=x'))(HN:Hid (x.g.mark-x.g.tail=n))(h:DS w0 w K x y pd X)(hk:x.ws.length≤100000)(h8:8≤i)(h36:i<36)(e:X i=.pt B st t v L k)(e36:X 36=.no)(e37:X 37=.no)(dm:(x.g.mark != t)=false)(d2:decide (x.a.used<t-x.g.tail)=false):Calls prog 47 #[qp B,.agg (pdk K).toArray] w fun e w'=>e=.returned (.tuple #[.agg (rowC 17 (-1) zv t n).toArray,.int .i64 0])∧DS w0 w' K x' y pd (put X i (.pt B 1 0 (.slice none 0 0) [] 0)):=by
 have hu:=used_bounds h.okx
 have ht1:x.g.mark=t:=by simpa using dm
 have hg1:=h.okx.g.t0
 have hg2:x.g.tail≤t:=ht1 ▸ h.okx.g.tm
 have hg3:t≤4611686018427387904:=ht1 ▸ Int.le_trans h.okx.g.mf h.okx.g.fM
 clear ht1
 have hw1:IntKind.u64.wrap x.a.used=x.a.used:=wrap_nn (by omega) (by omega)
 have hw2:IntKind.u64.wrap (t-x.g.tail)=t-x.g.tail:=wrap_nn (by omega) (by omega)
 obtain ⟨r,hr⟩:∃r,w.heap.size=r:=⟨_,rfl⟩
 obtain ⟨w2,hw2⟩:∃W,(w.alloc (.cells (pdk K).toArray 37)).alloc (.cells row0.toArray 61)=W:=⟨_,rfl⟩
 have HD2:Hid (DS w0 w2 K x y pd (X2 X r K)):=by rw[← hw2,← hr];exact h.two
 have HAL:Hid ((Instr.alloc 61 true (.tuple #[])).run prog (w.alloc (.cells (pdk K).toArray 37))=.ok (.pointer (some ⟨r+1,0,none⟩)) w2):=by
  have:=alloc_row (w.alloc (.cells (pdk K).toArray 37))
  rw[World.size_alloc,hr,hw2] at this
  exact this
 have HE:Hid (∀j,j≠36→j≠37→X2 X r K j=X j):=fun j a b=>(put_other _ _ b).trans (put_other _ _ a)
 clear h hw2
 go_enter func47,ntmps47
 go_wp2_with ((with_reducible refine C.at_ops ?_);(refine alI 61 HAL.out ?_))
 have HI:Hid (X2 X r K i=.pt B st t v L k):=(HE.out i (by omega) (by omega)).trans e
 have HD3:Hid (DS w0 w2.drew K x y pd (X2 X r K)):=HD2.out.later (C.below_drawn 1)
 clear HD2 HAL
 refine wp_region_noPanic ?_
 refine wp_region_held_drew (S:=fun W=>DkIn W r K∧C.PtAt W B st t v L k) (by kernel_rfl) ⟨HD3.out.dkin rfl,HD3.out.pt h8 (by omega) HI.out⟩ (fun hHeld=>?_)
 generalize w2.drew=w3 at *
 refine tk 0 hHeld ?_
 refine tkl 1 hHeld (fun _ s=>s.1.lp) ?_
 refine tk 3 hHeld ?_
 refine tk 4 hHeld ?_
 refine tk 5 hHeld ?_
 refine tkl 6 hHeld (fun _ s=>s.2.c1) ?_
 refine tkr 2 fun Kc hKc=>?_
 go_simp
 refine (p_marked HD3.out).mono ?_
 rintro e' w' ⟨rfl,rfl⟩
 refine hKc.out _ _ ⟨HD3.out.dkin rfl,HD3.out.pt h8 (by omega) HI.out⟩ (fun hHeld=>?_)
 clear hKc Kc
 refine tk 7 hHeld ?_
 refine tk 8 hHeld ?_
 refine tk 9 hHeld ?_
 refine tkl 10 hHeld (fun _ s=>s.1.ap) ?_
 refine tk 13 hHeld ?_
 refine tk 14 hHeld ?_
 refine tk 15 hHeld ?_
 refine tkl 16 hHeld (fun _ s=>s.2.c1) ?_
 refine tk 17 hHeld ?_
 refine tkl 18 hHeld (fun _ s=>s.1.lp) ?_
 refine tkr 11 fun Kc hKc=>?_
 go_simp
 refine (p_used HD3.out).mono ?_
 rintro e' w' ⟨rfl,hw'⟩
 subst w'
 refine hKc.out _ _ ⟨HD3.out.dkin rfl,HD3.out.pt h8 (by omega) HI.out⟩ (fun hHeld=>?_)
 clear hKc Kc
 refine tk 12 hHeld ?_
 refine tkr 19 fun Kc hKc=>?_
 go_simp
 refine (p_tail HD3.out).mono ?_
 rintro e' w' ⟨rfl,rfl⟩
 refine hKc.out _ _ ⟨HD3.out.dkin rfl,HD3.out.pt h8 (by omega) HI.out⟩ (fun hHeld=>?_)
 clear hKc Kc
 refine tk 20 hHeld ?_
 refine tk 21 hHeld ?_
 refine tk 22 hHeld ?_
 clear hHeld
 refine wpAnyH_done (by kernel_rfl) (NoPanic.normal ?_) _
 have p3:=(HD3.out.dkin rfl).lp
 clear hHeld hw1 hw2 hg1 hg2 hg3 hu d2 dm
 go_wp2_with fail
 refine (p_free HD3.out hk).mono ?_
 rintro e' w4 ⟨rfl,hd⟩
 rw[HN.out]
 have p4:=(hd.dkin rfl).ap
 have HD4:Hid (DS w0 w4 K x.fre y pd (X2 X r K)):=hd
 clear hd HD3 p3 hk
 go_wp2_with fail
 refine (p_freed HD4.out n).mono ?_
 rintro e' w5 ⟨rfl,hd⟩
 have HD6:Hid (DS w0 w5.drew K (x.fre.frd n) y pd (X2 X r K)):=hd.later (C.below_drawn 1)
 clear hd HD4 p4
 go_wp2_with fail
 refine wp_region_noPanic ?_
 refine wp_region_held_drew (S:=fun W=>DkIn W r K∧C.PtAt W B st t v L k) (by kernel_rfl) ⟨HD6.out.dkin rfl,HD6.out.pt h8 (by omega) HI.out⟩ (fun hHeld=>?_)
 generalize w5.drew=w6 at *
 refine tk 0 hHeld ?_
 refine tkl 1 hHeld (fun _ s=>s.1.kp) ?_
 refine tk 2 hHeld ?_
 refine tk 3 hHeld ?_
 refine tk 4 hHeld ?_
 refine tkl 5 hHeld (fun _ s=>s.2.c2) ?_
 refine tkr 6 fun Kc hKc=>?_
 go_simp
 refine (p_drop HD6.out h8 (by omega) HI.out).mono ?_
 rintro e' w7 ⟨rfl,hd⟩
 have HD7:Hid (DS w0 w7 K x' y pd (X2 X r K)):=by rw[← HX'.out];exact hd
 clear hd HD6
 refine hKc.out _ _ ⟨HD7.out.dkin rfl,HD7.out.pt h8 (by omega) HI.out⟩ (fun hHeld=>?_)
 clear hKc Kc
 clear hHeld
 refine wpAnyH_done (by kernel_rfl) (NoPanic.normal ?_) _
 clear hHeld
 have hp:=HD7.out.pt h8 (by omega) HI.out
 have c1:=hp.c1
 obtain ⟨A,hA⟩:∃A,w7.heap.size=A:=⟨_,rfl⟩
 have hAB:A≠B:=by have:=hp.lt;omega
 obtain ⟨w8,hw8⟩:∃W,w7.alloc (.cells (rowC 17 (-1) zv t n).toArray 61)=W:=⟨_,rfl⟩
 have b8:Below w7.heap.size w7 w8:=by rw[← hw8];exact C.below_alloc w7 _
 have l8:LAt 61 w8 A (rowC 17 (-1) zv t n):=by rw[← hw8,← hA];exact LAt.new _ _ _
 have HAL:Hid ((Instr.alloc 61 true (.tuple #[])).run prog w7=.ok (.pointer (some ⟨A,0,none⟩)) (w7.alloc (.cells row0.toArray 61))):=by rw[← hA];exact alloc_row w7
 have HBD7:Hid (_):=build_row67 w7 17 t n
 have HST7:Hid ((Instr.storeAt 61 (.pointer (some ⟨A,0,none⟩)) (.agg (rowC 17 (-1) zv t n).toArray)).run prog (w7.alloc (.cells row0.toArray 61))=.ok () w8):=by
  have:=store_row (ds:=rowC 17 (-1) zv t n) (LAt.new 61 w7 row0) (rowC_len (C.zs_len 32)) (rowC_one _ _ _ _ _)
  rw[C.setRow_alloc,hA,hw8] at this
  exact this
 have HBP:Hid (_):=build_pt w8
 have hp8:=hp.later b8
 have HSP:Hid ((Instr.storeAt 87 (.pointer (some ⟨B,0,none⟩)) (.agg #[.int .i64 1,.int .u64 0,.slice none 0 0,.int .i64 0])).run prog w8=.ok () (w8.setRow B #[.int .i64 1,.int .u64 0,.slice none 0 0,.int .i64 0])):=LAt.store (cs:=[.int .i64 st,.int .u64 t,v,.int .i64 k]) (ds:=[.int .i64 1,.int .u64 0,.slice none 0 0,.int .i64 0]) hp8.st (by rw[size_pt];rfl) rfl (by simp[Value.oneCell'])
 have hd9:=(HD7.out.later b8).ptnone h8 (by omega) HI.out
 rw[X2_put h36] at hd9
 obtain ⟨w9,hw9⟩:∃W,w8.setRow B #[.int .i64 1,.int .u64 0,.slice none 0 0,.int .i64 0]=W:=⟨_,rfl⟩
 have l9:LAt 61 w9 A (rowC 17 (-1) zv t n):=by rw[← hw9];exact (setRow_other w8 B A _ hAB).trans l8
 rw[hw9] at hd9 HSP
 have HLR:Hid (_):=load_row l9 (rowC_len (C.zs_len 32))
 have HD9:Hid (DS w0 w9 K x' y pd (X2 (put X i (.pt B 1 0 (.slice none 0 0) [] 0)) r K)):=hd9
 clear hd9 hw9 l8 l9 b8 hw8 hp8 hp HD7 hA
 have HBD:Hid (_):=build_row0 w9
 have HST:Hid ((Instr.storeAt 61 (.pointer (some ⟨r+1,0,none⟩)) (.agg (rowC 17 (-1) zv t n).toArray)).run prog w9=.ok () (w9.setRow (r+1) (rowC 17 (-1) zv t n).toArray)):=store_row (HD9.out.blk (i:=37) (by decide) (by decide) (put_same _ _ _)) (rowC_len (C.zs_len 32)) (rowC_one _ _ _ _ _)
 obtain ⟨hdz,lz⟩:=HD9.out.told (by rw[put_other _ _ (by omega)];exact e36) (by rw[put_other _ _ (by omega)];exact e37) (rowC 17 (-1) zv t n)
 have HDz:Hid (DS w0 (w9.setRow (r+1) (rowC 17 (-1) zv t n).toArray) K x' y pd (put X i (.pt B 1 0 (.slice none 0 0) [] 0))):=hdz
 have HLz:Hid (LAt 61 (w9.setRow (r+1) (rowC 17 (-1) zv t n).toArray) (r+1) (rowC 17 (-1) zv t n)):=lz
 clear hdz lz HD9
 generalize w9.setRow (r+1) (rowC 17 (-1) zv t n).toArray=wz at *
 go_wp2_with ((with_reducible refine C.at_ops ?_);(first | ((refine C.wpList_build_is (vs:=[(0,.int .i64 17),(4,.int .i64 (-1)),(6,.int .u64 t),(7,.int .i64 n)]) (by rfl) 61 rfl (by rfl) HBD7.out ?_);simp only[Act.put,zA,zB,zC]) | ((refine C.wpList_build_is (vs:=[(0,.int .i64 1)]) (by rfl) 87 rfl (by rfl) HBP.out ?_);simp only[Act.put,zA,zB,zC]) | (refine alI 61 HAL.out ?_) | (refine ldI 61 HLR.out ?_) | (refine stI 61 HST7.out ?_) | (refine stI 87 HSP.out ?_) | (refine stI 61 HST.out ?_)))
 (try simp only[Exit.inBlock,Exit.then])
 exact bodyPost_ret (C.results_lat results47 _ _ (r+1) 61 _ _ (by rfl) HLz.out underlying61 rfl (by rw[size_row,rowC_len (C.zs_len 32)])) rfl ⟨rfl,HDz.out⟩
end
section
variable {w0 w w':World} {K:Ks} {x y:Sx} {pd:List Cm} {X:Nat→Th} {i B k:Nat} {st t:Int} {v:Value} {L:List C.En}
theorem enabled_idle (h:DS w0 w K x y pd X)(hN:x.a.next≤1000)(h8:8≤i)(h40:i<40)(e:X i=.pt B 1 t v L k):Calls prog 13 #[qp B,.agg (pdk K).toArray] w fun e w'=>e=.returned (.bool (dueS x K.c.hi))∧Below w.heap.size w w':=by
 obtain ⟨r,hr⟩:∃r,w.heap.size=r:=⟨_,rfl⟩
 obtain ⟨w1,hw1⟩:∃W,w.alloc (.cells (pdk K).toArray 37)=W:=⟨_,rfl⟩
 have b1:Below w.heap.size w w1:=by rw[← hw1];exact C.below_alloc w _
 have hD:DkIn w1 r K:=by rw[← hw1,← hr];exact DkIn.new w K
 have HLK:Hid (_):=hD.load
 have HB1:Hid (Below w.heap.size w w1):=b1
 have HD1:Hid (DS w0 w1 K x y pd X):=h.later b1
 have HDK:Hid (DkIn w1 r K):=hD
 clear h b1 hD
 go_enter func13,ntmps13
 go_wp2_with ((with_reducible refine C.at_ops ?_);(refine C.wpList_load_is (by rfl) 37 rfl rfl HLK.out ?_);simp only[Act.put,zA,zB,zC])
 refine (whole_at w1 K).mono ?_
 rintro e' w2 ⟨rfl,b2⟩
 have c0:=((HD1.out.later b2).pt h8 (by omega) e).c0
 have HLK:Hid (_):=(HDK.out.later b2).load
 have HB2:Hid (Below w.heap.size w w2):=C.below_then HB1.out b2
 have HD2:Hid (DS w0 w2 K x y pd X):=HD1.out.later b2
 clear b2 HD1 HB1 HDK hw1
 go_wp2_with ((with_reducible refine C.at_ops ?_);(refine C.wpList_load_is (by rfl) 37 rfl rfl HLK.out ?_);simp only[Act.put,zA,zB,zC])
 refine (due_at HD2.out hN).mono ?_
 rintro e' w3 ⟨rfl,b3⟩
 have HB3:Hid (Below w.heap.size w w3):=C.below_then HB2.out b3
 clear b3
 go_wp2
 go_ret
 exact⟨rfl,HB3.out⟩
theorem enabled_busy (h:DS w0 w K x y pd X)(h8:8≤i)(h40:i<40)(e:X i=.pt B st t v L k)(hs:(st != 1)=true):Calls prog 13 #[qp B,.agg (pdk K).toArray] w fun e w'=>e=.returned (.bool true)∧Below w.heap.size w w':=by
 obtain ⟨r,hr⟩:∃r,w.heap.size=r:=⟨_,rfl⟩
 obtain ⟨w1,hw1⟩:∃W,w.alloc (.cells (pdk K).toArray 37)=W:=⟨_,rfl⟩
 have b1:Below w.heap.size w w1:=by rw[← hw1];exact C.below_alloc w _
 have hD:DkIn w1 r K:=by rw[← hw1,← hr];exact DkIn.new w K
 have HLK:Hid (_):=hD.load
 have HB1:Hid (Below w.heap.size w w1):=b1
 have HD1:Hid (DS w0 w1 K x y pd X):=h.later b1
 have HDK:Hid (DkIn w1 r K):=hD
 clear h b1 hD
 go_enter func13,ntmps13
 go_wp2_with ((with_reducible refine C.at_ops ?_);(refine C.wpList_load_is (by rfl) 37 rfl rfl HLK.out ?_);simp only[Act.put,zA,zB,zC])
 refine (whole_at w1 K).mono ?_
 rintro e' w2 ⟨rfl,b2⟩
 have c0:=((HD1.out.later b2).pt h8 (by omega) e).c0
 have HLK:Hid (_):=(HDK.out.later b2).load
 have HB2:Hid (Below w.heap.size w w2):=C.below_then HB1.out b2
 have HD2:Hid (DS w0 w2 K x y pd X):=HD1.out.later b2
 clear b2 HD1 HB1 HDK hw1
 go_wp2
 go_ret
 exact⟨rfl,HB2.out⟩
abbrev X3 (X:Nat→Th)(r:Nat)(K:Ks):Nat→Th:=put (put X 33 (.blk r 37 (pdk K).toArray)) 34 (.blk (r+1) 61 row0.toArray)
theorem DS.two3 (h:DS w0 w K x y pd X):DS w0 ((w.alloc (.cells (pdk K).toArray 37)).alloc (.cells row0.toArray 61)) K x y pd (X3 X w.heap.size K):=by
 have h1:=h.fresh (C.below_alloc w (.cells (pdk K).toArray 37)) (k:=33) (by decide) (u:=.blk w.heap.size 37 (pdk K).toArray) (fun _=>heap_alloc_new w _) (fun b hb=>by have:b=w.heap.size:=hb;omega)
 refine h1.fresh (C.below_alloc _ (.cells row0.toArray 61)) (k:=34) (by decide) (u:=.blk (w.heap.size+1) 61 row0.toArray) (fun _=>?_) (fun b hb=>?_)
 ·have:=heap_alloc_new (w.alloc (.cells (pdk K).toArray 37)) (.cells row0.toArray 61)
  rwa [World.size_alloc] at this
 ·have:b=w.heap.size+1:=hb
  rw[World.size_alloc];omega
theorem DS.told3 {r:Nat}{w1:World}(h:DS w0 w1 K x y pd (X3 X r K))(e33:X 33=.no)(e34:X 34=.no)(ds:List Value):DS w0 (w1.setRow (r+1) ds.toArray) K x y pd X∧LAt 61 (w1.setRow (r+1) ds.toArray) (r+1) ds:=by
 have h1:=h.blkput (j:=34) (by decide) (by decide) (put_same _ _ _) ds.toArray
 refine⟨?_,h1.blk (i:=34) (by decide) (by decide) (put_same _ _ _)⟩
 have:=(h1.drop (k:=34) (by decide)).drop (k:=33) (by decide)
 rw[put_put,put_put,put_comm _ _ _ (show 34≠33 by decide),put_put,put_idem X 33 e33,put_idem X 34 e34] at this
 exact this
theorem X3_put {r:Nat}{u:Th}(h:i<33):put (X3 X r K) i u=X3 (put X i u) r K:=by rw[X3,X3,put_comm _ _ _ (show i≠33 by omega),put_comm _ _ _ (show i≠34 by omega)]
end
section
variable {w0 w w':World} {K:Ks} {x y:Sx} {pd:List Cm} {X:Nat→Th} {i B k:Nat} {st t:Int} {v:Value} {L:List C.En}
theorem step_carry {P:List Value→Int→Sx→(Nat→Th)→Prop}(h:DS w0 w K x y pd X)(h8:8≤i)(h33:i<33)(e:X i=.pt B 2 t v L k)
  (hin:∀r w1,DS w0 w1 K x y pd (X3 X r K)→Calls prog 44 #[qp B,.agg (pdk K).toArray] w1 fun e w'=>∃ds er x' X',e=.returned (.tuple #[.agg ds.toArray,.int .i64 er])∧P ds er x' X'∧ds.length=41∧ds.toArray.all (·.oneCell')=true∧DS w0 w' K x' y pd (X3 X' r K)∧X' 33=.no∧X' 34=.no) :
  Calls prog 16 #[qp B,.agg (pdk K).toArray] w fun e w'=>∃ds er x' X',e=.returned (.tuple #[.agg ds.toArray,.int .i64 er])∧P ds er x' X'∧DS w0 w' K x' y pd X':=by
 obtain ⟨r,hr⟩:∃r,w.heap.size=r:=⟨_,rfl⟩
 obtain ⟨w2,hw2⟩:∃W,(w.alloc (.cells (pdk K).toArray 37)).alloc (.cells row0.toArray 61)=W:=⟨_,rfl⟩
 have HD2:Hid (DS w0 w2 K x y pd (X3 X r K)):=by rw[← hw2,← hr];exact h.two3
 have HAL:Hid ((Instr.alloc 61 true (.tuple #[])).run prog (w.alloc (.cells (pdk K).toArray 37))=.ok (.pointer (some ⟨r+1,0,none⟩)) w2):=by
  have:=alloc_row (w.alloc (.cells (pdk K).toArray 37))
  rw[World.size_alloc,hr,hw2] at this
  exact this
 have HI:Hid (X3 X r K i=.pt B 2 t v L k):=(put_other _ _ (by omega)).trans ((put_other _ _ (by omega)).trans e)
 have HK:Hid (∀W,DS w0 W K x y pd (X3 X r K)→DkIn W r K):=fun W hW=>hW.blk (i:=33) (by decide) (by decide) ((put_other _ _ (by decide)).trans (put_same _ _ _))
 have HLK:Hid (_):=(HK.out w2 HD2.out).load
 have HIN:Hid (_):=hin r
 clear h hw2 hin
 go_enter func16,ntmps16
 go_wp2_with ((with_reducible refine C.at_ops ?_);(first | (refine alI 61 HAL.out ?_) | (refine ldI 37 HLK.out ?_)))
 refine (whole_at w2 K).mono ?_
 rintro e' w3 ⟨rfl,b3⟩
 have HD3:Hid (DS w0 w3 K x y pd (X3 X r K)):=HD2.out.later b3
 have HLK:Hid (_):=(HK.out w3 HD3.out).load
 clear b3 HD2 HAL
 go_wp2_with ((with_reducible refine C.at_ops ?_);(refine ldI 37 HLK.out ?_))
 refine (enabled_busy HD3.out h8 (by omega) HI.out (by decide)).mono ?_
 rintro e' w4 ⟨rfl,b4⟩
 have HD4:Hid (DS w0 w4 K x y pd (X3 X r K)):=HD3.out.later b4
 have HLK:Hid (_):=(HK.out w4 HD4.out).load
 have c0:=(HD4.out.pt h8 (by omega) HI.out).c0
 clear b4 HD3
 go_wp2_with ((with_reducible refine C.at_ops ?_);(refine ldI 37 HLK.out ?_))
 refine (HIN.out w4 HD4.out).mono ?_
 rintro e' w5 ⟨ds,er,x',X',rfl,hP,hl,ho,hd,n33,n34⟩
 have HST:Hid ((Instr.storeAt 61 (.pointer (some ⟨r+1,0,none⟩)) (.agg ds.toArray)).run prog w5=.ok () (w5.setRow (r+1) ds.toArray)):=store_row (hd.blk (i:=34) (by decide) (by decide) (put_same _ _ _)) hl ho
 obtain ⟨hdz,lz⟩:=hd.told3 n33 n34 ds
 have HDz:Hid (DS w0 (w5.setRow (r+1) ds.toArray) K x' y pd X'):=hdz
 have HLz:Hid (LAt 61 (w5.setRow (r+1) ds.toArray) (r+1) ds):=lz
 have HP:Hid (P ds er x' X'):=hP
 have HL:Hid (ds.length=41):=hl
 clear hdz lz hd hP ho hl HD4 HIN HK HLK HI c0
 generalize w5.setRow (r+1) ds.toArray=wz at *
 go_wp2_with ((with_reducible refine C.at_ops ?_);(refine stI 61 HST.out ?_))
 (try simp only[Exit.inBlock,Exit.then])
 exact bodyPost_ret (C.results_lat results16 _ _ (r+1) 61 _ _ (by rfl) HLz.out underlying61 rfl (by rw[size_row,HL.out])) rfl ⟨ds,er,x',X',rfl,HP.out,HDz.out⟩
theorem step_flush {P:List Value→Int→Sx→(Nat→Th)→Prop}(h:DS w0 w K x y pd X)(h8:8≤i)(h33:i<33)(e:X i=.pt B 3 t v L k)
  (hin:∀r w1,DS w0 w1 K x y pd (X3 X r K)→Calls prog 45 #[qp B,.agg (pdk K).toArray] w1 fun e w'=>∃ds er x' X',e=.returned (.tuple #[.agg ds.toArray,.int .i64 er])∧P ds er x' X'∧ds.length=41∧ds.toArray.all (·.oneCell')=true∧DS w0 w' K x' y pd (X3 X' r K)∧X' 33=.no∧X' 34=.no) :
  Calls prog 16 #[qp B,.agg (pdk K).toArray] w fun e w'=>∃ds er x' X',e=.returned (.tuple #[.agg ds.toArray,.int .i64 er])∧P ds er x' X'∧DS w0 w' K x' y pd X':=by
 obtain ⟨r,hr⟩:∃r,w.heap.size=r:=⟨_,rfl⟩
 obtain ⟨w2,hw2⟩:∃W,(w.alloc (.cells (pdk K).toArray 37)).alloc (.cells row0.toArray 61)=W:=⟨_,rfl⟩
 have HD2:Hid (DS w0 w2 K x y pd (X3 X r K)):=by rw[← hw2,← hr];exact h.two3
 have HAL:Hid ((Instr.alloc 61 true (.tuple #[])).run prog (w.alloc (.cells (pdk K).toArray 37))=.ok (.pointer (some ⟨r+1,0,none⟩)) w2):=by
  have:=alloc_row (w.alloc (.cells (pdk K).toArray 37))
  rw[World.size_alloc,hr,hw2] at this
  exact this
 have HI:Hid (X3 X r K i=.pt B 3 t v L k):=(put_other _ _ (by omega)).trans ((put_other _ _ (by omega)).trans e)
 have HK:Hid (∀W,DS w0 W K x y pd (X3 X r K)→DkIn W r K):=fun W hW=>hW.blk (i:=33) (by decide) (by decide) ((put_other _ _ (by decide)).trans (put_same _ _ _))
 have HLK:Hid (_):=(HK.out w2 HD2.out).load
 have HIN:Hid (_):=hin r
 clear h hw2 hin
 go_enter func16,ntmps16
 go_wp2_with ((with_reducible refine C.at_ops ?_);(first | (refine alI 61 HAL.out ?_) | (refine ldI 37 HLK.out ?_)))
 refine (whole_at w2 K).mono ?_
 rintro e' w3 ⟨rfl,b3⟩
 have HD3:Hid (DS w0 w3 K x y pd (X3 X r K)):=HD2.out.later b3
 have HLK:Hid (_):=(HK.out w3 HD3.out).load
 clear b3 HD2 HAL
 go_wp2_with ((with_reducible refine C.at_ops ?_);(refine ldI 37 HLK.out ?_))
 refine (enabled_busy HD3.out h8 (by omega) HI.out (by decide)).mono ?_
 rintro e' w4 ⟨rfl,b4⟩
 have HD4:Hid (DS w0 w4 K x y pd (X3 X r K)):=HD3.out.later b4
 have HLK:Hid (_):=(HK.out w4 HD4.out).load
 have c0:=(HD4.out.pt h8 (by omega) HI.out).c0
 clear b4 HD3
 go_wp2_with ((with_reducible refine C.at_ops ?_);(refine ldI 37 HLK.out ?_))
 refine (HIN.out w4 HD4.out).mono ?_
 rintro e' w5 ⟨ds,er,x',X',rfl,hP,hl,ho,hd,n33,n34⟩
 have HST:Hid ((Instr.storeAt 61 (.pointer (some ⟨r+1,0,none⟩)) (.agg ds.toArray)).run prog w5=.ok () (w5.setRow (r+1) ds.toArray)):=store_row (hd.blk (i:=34) (by decide) (by decide) (put_same _ _ _)) hl ho
 obtain ⟨hdz,lz⟩:=hd.told3 n33 n34 ds
 have HDz:Hid (DS w0 (w5.setRow (r+1) ds.toArray) K x' y pd X'):=hdz
 have HLz:Hid (LAt 61 (w5.setRow (r+1) ds.toArray) (r+1) ds):=lz
 have HP:Hid (P ds er x' X'):=hP
 have HL:Hid (ds.length=41):=hl
 clear hdz lz hd hP ho hl HD4 HIN HK HLK HI c0
 generalize w5.setRow (r+1) ds.toArray=wz at *
 go_wp2_with ((with_reducible refine C.at_ops ?_);(refine stI 61 HST.out ?_))
 (try simp only[Exit.inBlock,Exit.then])
 exact bodyPost_ret (C.results_lat results16 _ _ (r+1) 61 _ _ (by rfl) HLz.out underlying61 rfl (by rw[size_row,HL.out])) rfl ⟨ds,er,x',X',rfl,HP.out,HDz.out⟩
theorem step_mark {P:List Value→Int→Sx→(Nat→Th)→Prop}(h:DS w0 w K x y pd X)(h8:8≤i)(h33:i<33)(e:X i=.pt B 4 t v L k)
  (hin:∀r w1,DS w0 w1 K x y pd (X3 X r K)→Calls prog 46 #[qp B,.agg (pdk K).toArray] w1 fun e w'=>∃ds er x' X',e=.returned (.tuple #[.agg ds.toArray,.int .i64 er])∧P ds er x' X'∧ds.length=41∧ds.toArray.all (·.oneCell')=true∧DS w0 w' K x' y pd (X3 X' r K)∧X' 33=.no∧X' 34=.no) :
  Calls prog 16 #[qp B,.agg (pdk K).toArray] w fun e w'=>∃ds er x' X',e=.returned (.tuple #[.agg ds.toArray,.int .i64 er])∧P ds er x' X'∧DS w0 w' K x' y pd X':=by
 obtain ⟨r,hr⟩:∃r,w.heap.size=r:=⟨_,rfl⟩
 obtain ⟨w2,hw2⟩:∃W,(w.alloc (.cells (pdk K).toArray 37)).alloc (.cells row0.toArray 61)=W:=⟨_,rfl⟩
 have HD2:Hid (DS w0 w2 K x y pd (X3 X r K)):=by rw[← hw2,← hr];exact h.two3
 have HAL:Hid ((Instr.alloc 61 true (.tuple #[])).run prog (w.alloc (.cells (pdk K).toArray 37))=.ok (.pointer (some ⟨r+1,0,none⟩)) w2):=by
  have:=alloc_row (w.alloc (.cells (pdk K).toArray 37))
  rw[World.size_alloc,hr,hw2] at this
  exact this
 have HI:Hid (X3 X r K i=.pt B 4 t v L k):=(put_other _ _ (by omega)).trans ((put_other _ _ (by omega)).trans e)
 have HK:Hid (∀W,DS w0 W K x y pd (X3 X r K)→DkIn W r K):=fun W hW=>hW.blk (i:=33) (by decide) (by decide) ((put_other _ _ (by decide)).trans (put_same _ _ _))
 have HLK:Hid (_):=(HK.out w2 HD2.out).load
 have HIN:Hid (_):=hin r
 clear h hw2 hin
 go_enter func16,ntmps16
 go_wp2_with ((with_reducible refine C.at_ops ?_);(first | (refine alI 61 HAL.out ?_) | (refine ldI 37 HLK.out ?_)))
 refine (whole_at w2 K).mono ?_
 rintro e' w3 ⟨rfl,b3⟩
 have HD3:Hid (DS w0 w3 K x y pd (X3 X r K)):=HD2.out.later b3
 have HLK:Hid (_):=(HK.out w3 HD3.out).load
 clear b3 HD2 HAL
 go_wp2_with ((with_reducible refine C.at_ops ?_);(refine ldI 37 HLK.out ?_))
 refine (enabled_busy HD3.out h8 (by omega) HI.out (by decide)).mono ?_
 rintro e' w4 ⟨rfl,b4⟩
 have HD4:Hid (DS w0 w4 K x y pd (X3 X r K)):=HD3.out.later b4
 have HLK:Hid (_):=(HK.out w4 HD4.out).load
 have c0:=(HD4.out.pt h8 (by omega) HI.out).c0
 clear b4 HD3
 go_wp2_with ((with_reducible refine C.at_ops ?_);(refine ldI 37 HLK.out ?_))
 refine (HIN.out w4 HD4.out).mono ?_
 rintro e' w5 ⟨ds,er,x',X',rfl,hP,hl,ho,hd,n33,n34⟩
 have HST:Hid ((Instr.storeAt 61 (.pointer (some ⟨r+1,0,none⟩)) (.agg ds.toArray)).run prog w5=.ok () (w5.setRow (r+1) ds.toArray)):=store_row (hd.blk (i:=34) (by decide) (by decide) (put_same _ _ _)) hl ho
 obtain ⟨hdz,lz⟩:=hd.told3 n33 n34 ds
 have HDz:Hid (DS w0 (w5.setRow (r+1) ds.toArray) K x' y pd X'):=hdz
 have HLz:Hid (LAt 61 (w5.setRow (r+1) ds.toArray) (r+1) ds):=lz
 have HP:Hid (P ds er x' X'):=hP
 have HL:Hid (ds.length=41):=hl
 clear hdz lz hd hP ho hl HD4 HIN HK HLK HI c0
 generalize w5.setRow (r+1) ds.toArray=wz at *
 go_wp2_with ((with_reducible refine C.at_ops ?_);(refine stI 61 HST.out ?_))
 (try simp only[Exit.inBlock,Exit.then])
 exact bodyPost_ret (C.results_lat results16 _ _ (r+1) 61 _ _ (by rfl) HLz.out underlying61 rfl (by rw[size_row,HL.out])) rfl ⟨ds,er,x',X',rfl,HP.out,HDz.out⟩
theorem step_free {P:List Value→Int→Sx→(Nat→Th)→Prop}(h:DS w0 w K x y pd X)(h8:8≤i)(h33:i<33)(e:X i=.pt B 5 t v L k)
  (hin:∀r w1,DS w0 w1 K x y pd (X3 X r K)→Calls prog 47 #[qp B,.agg (pdk K).toArray] w1 fun e w'=>∃ds er x' X',e=.returned (.tuple #[.agg ds.toArray,.int .i64 er])∧P ds er x' X'∧ds.length=41∧ds.toArray.all (·.oneCell')=true∧DS w0 w' K x' y pd (X3 X' r K)∧X' 33=.no∧X' 34=.no) :
  Calls prog 16 #[qp B,.agg (pdk K).toArray] w fun e w'=>∃ds er x' X',e=.returned (.tuple #[.agg ds.toArray,.int .i64 er])∧P ds er x' X'∧DS w0 w' K x' y pd X':=by
 obtain ⟨r,hr⟩:∃r,w.heap.size=r:=⟨_,rfl⟩
 obtain ⟨w2,hw2⟩:∃W,(w.alloc (.cells (pdk K).toArray 37)).alloc (.cells row0.toArray 61)=W:=⟨_,rfl⟩
 have HD2:Hid (DS w0 w2 K x y pd (X3 X r K)):=by rw[← hw2,← hr];exact h.two3
 have HAL:Hid ((Instr.alloc 61 true (.tuple #[])).run prog (w.alloc (.cells (pdk K).toArray 37))=.ok (.pointer (some ⟨r+1,0,none⟩)) w2):=by
  have:=alloc_row (w.alloc (.cells (pdk K).toArray 37))
  rw[World.size_alloc,hr,hw2] at this
  exact this
 have HI:Hid (X3 X r K i=.pt B 5 t v L k):=(put_other _ _ (by omega)).trans ((put_other _ _ (by omega)).trans e)
 have HK:Hid (∀W,DS w0 W K x y pd (X3 X r K)→DkIn W r K):=fun W hW=>hW.blk (i:=33) (by decide) (by decide) ((put_other _ _ (by decide)).trans (put_same _ _ _))
 have HLK:Hid (_):=(HK.out w2 HD2.out).load
 have HIN:Hid (_):=hin r
 clear h hw2 hin
 go_enter func16,ntmps16
 go_wp2_with ((with_reducible refine C.at_ops ?_);(first | (refine alI 61 HAL.out ?_) | (refine ldI 37 HLK.out ?_)))
 refine (whole_at w2 K).mono ?_
 rintro e' w3 ⟨rfl,b3⟩
 have HD3:Hid (DS w0 w3 K x y pd (X3 X r K)):=HD2.out.later b3
 have HLK:Hid (_):=(HK.out w3 HD3.out).load
 clear b3 HD2 HAL
 go_wp2_with ((with_reducible refine C.at_ops ?_);(refine ldI 37 HLK.out ?_))
 refine (enabled_busy HD3.out h8 (by omega) HI.out (by decide)).mono ?_
 rintro e' w4 ⟨rfl,b4⟩
 have HD4:Hid (DS w0 w4 K x y pd (X3 X r K)):=HD3.out.later b4
 have HLK:Hid (_):=(HK.out w4 HD4.out).load
 have c0:=(HD4.out.pt h8 (by omega) HI.out).c0
 clear b4 HD3
 go_wp2_with ((with_reducible refine C.at_ops ?_);(refine ldI 37 HLK.out ?_))
 refine (HIN.out w4 HD4.out).mono ?_
 rintro e' w5 ⟨ds,er,x',X',rfl,hP,hl,ho,hd,n33,n34⟩
 have HST:Hid ((Instr.storeAt 61 (.pointer (some ⟨r+1,0,none⟩)) (.agg ds.toArray)).run prog w5=.ok () (w5.setRow (r+1) ds.toArray)):=store_row (hd.blk (i:=34) (by decide) (by decide) (put_same _ _ _)) hl ho
 obtain ⟨hdz,lz⟩:=hd.told3 n33 n34 ds
 have HDz:Hid (DS w0 (w5.setRow (r+1) ds.toArray) K x' y pd X'):=hdz
 have HLz:Hid (LAt 61 (w5.setRow (r+1) ds.toArray) (r+1) ds):=lz
 have HP:Hid (P ds er x' X'):=hP
 have HL:Hid (ds.length=41):=hl
 clear hdz lz hd hP ho hl HD4 HIN HK HLK HI c0
 generalize w5.setRow (r+1) ds.toArray=wz at *
 go_wp2_with ((with_reducible refine C.at_ops ?_);(refine stI 61 HST.out ?_))
 (try simp only[Exit.inBlock,Exit.then])
 exact bodyPost_ret (C.results_lat results16 _ _ (r+1) 61 _ _ (by rfl) HLz.out underlying61 rfl (by rw[size_row,HL.out])) rfl ⟨ds,er,x',X',rfl,HP.out,HDz.out⟩
theorem step_choose {P:List Value→Int→Sx→(Nat→Th)→Prop}(h:DS w0 w K x y pd X)(h8:8≤i)(h33:i<33)(hN:x.a.next≤1000)(hdue:dueS x K.c.hi=true)(e:X i=.pt B 1 t v L k)
  (hin:∀r w1,DS w0 w1 K x y pd (X3 X r K)→Calls prog 48 #[qp B,.agg (pdk K).toArray] w1 fun e w'=>∃ds er x' X',e=.returned (.tuple #[.agg ds.toArray,.int .i64 er])∧P ds er x' X'∧ds.length=41∧ds.toArray.all (·.oneCell')=true∧DS w0 w' K x' y pd (X3 X' r K)∧X' 33=.no∧X' 34=.no) :
  Calls prog 16 #[qp B,.agg (pdk K).toArray] w fun e w'=>∃ds er x' X',e=.returned (.tuple #[.agg ds.toArray,.int .i64 er])∧P ds er x' X'∧DS w0 w' K x' y pd X':=by
 obtain ⟨r,hr⟩:∃r,w.heap.size=r:=⟨_,rfl⟩
 obtain ⟨w2,hw2⟩:∃W,(w.alloc (.cells (pdk K).toArray 37)).alloc (.cells row0.toArray 61)=W:=⟨_,rfl⟩
 have HD2:Hid (DS w0 w2 K x y pd (X3 X r K)):=by rw[← hw2,← hr];exact h.two3
 have HAL:Hid ((Instr.alloc 61 true (.tuple #[])).run prog (w.alloc (.cells (pdk K).toArray 37))=.ok (.pointer (some ⟨r+1,0,none⟩)) w2):=by
  have:=alloc_row (w.alloc (.cells (pdk K).toArray 37))
  rw[World.size_alloc,hr,hw2] at this
  exact this
 have HI:Hid (X3 X r K i=.pt B 1 t v L k):=(put_other _ _ (by omega)).trans ((put_other _ _ (by omega)).trans e)
 have HK:Hid (∀W,DS w0 W K x y pd (X3 X r K)→DkIn W r K):=fun W hW=>hW.blk (i:=33) (by decide) (by decide) ((put_other _ _ (by decide)).trans (put_same _ _ _))
 have HLK:Hid (_):=(HK.out w2 HD2.out).load
 have HIN:Hid (_):=hin r
 clear h hw2 hin
 go_enter func16,ntmps16
 go_wp2_with ((with_reducible refine C.at_ops ?_);(first | (refine alI 61 HAL.out ?_) | (refine ldI 37 HLK.out ?_)))
 refine (whole_at w2 K).mono ?_
 rintro e' w3 ⟨rfl,b3⟩
 have HD3:Hid (DS w0 w3 K x y pd (X3 X r K)):=HD2.out.later b3
 have HLK:Hid (_):=(HK.out w3 HD3.out).load
 clear b3 HD2 HAL
 go_wp2_with ((with_reducible refine C.at_ops ?_);(refine ldI 37 HLK.out ?_))
 refine (enabled_idle HD3.out hN h8 (by omega) HI.out).mono ?_
 rintro e' w4 ⟨rfl,b4⟩
 rw[hdue]
 have HD4:Hid (DS w0 w4 K x y pd (X3 X r K)):=HD3.out.later b4
 have HLK:Hid (_):=(HK.out w4 HD4.out).load
 have c0:=(HD4.out.pt h8 (by omega) HI.out).c0
 clear b4 HD3
 go_wp2_with ((with_reducible refine C.at_ops ?_);(refine ldI 37 HLK.out ?_))
 refine (HIN.out w4 HD4.out).mono ?_
 rintro e' w5 ⟨ds,er,x',X',rfl,hP,hl,ho,hd,n33,n34⟩
 have HST:Hid ((Instr.storeAt 61 (.pointer (some ⟨r+1,0,none⟩)) (.agg ds.toArray)).run prog w5=.ok () (w5.setRow (r+1) ds.toArray)):=store_row (hd.blk (i:=34) (by decide) (by decide) (put_same _ _ _)) hl ho
 obtain ⟨hdz,lz⟩:=hd.told3 n33 n34 ds
 have HDz:Hid (DS w0 (w5.setRow (r+1) ds.toArray) K x' y pd X'):=hdz
 have HLz:Hid (LAt 61 (w5.setRow (r+1) ds.toArray) (r+1) ds):=lz
 have HP:Hid (P ds er x' X'):=hP
 have HL:Hid (ds.length=41):=hl
 clear hdz lz hd hP ho hl HD4 HIN HK HLK HI c0
 generalize w5.setRow (r+1) ds.toArray=wz at *
 go_wp2_with ((with_reducible refine C.at_ops ?_);(refine stI 61 HST.out ?_))
 (try simp only[Exit.inBlock,Exit.then])
 exact bodyPost_ret (C.results_lat results16 _ _ (r+1) 61 _ _ (by rfl) HLz.out underlying61 rfl (by rw[size_row,HL.out])) rfl ⟨ds,er,x',X',rfl,HP.out,HDz.out⟩
theorem step_idle (h:DS w0 w K x y pd X)(h8:8≤i)(h33:i<33)(e33:X 33=.no)(e34:X 34=.no)(hN:x.a.next≤1000)(hdue:dueS x K.c.hi=false)(e:X i=.pt B 1 t v L k) :
  Calls prog 16 #[qp B,.agg (pdk K).toArray] w fun e w'=>e=.returned (.tuple #[.agg row0.toArray,.int .i64 190])∧DS w0 w' K x y pd X:=by
 obtain ⟨r,hr⟩:∃r,w.heap.size=r:=⟨_,rfl⟩
 obtain ⟨w2,hw2⟩:∃W,(w.alloc (.cells (pdk K).toArray 37)).alloc (.cells row0.toArray 61)=W:=⟨_,rfl⟩
 have HD2:Hid (DS w0 w2 K x y pd (X3 X r K)):=by rw[← hw2,← hr];exact h.two3
 have HAL:Hid ((Instr.alloc 61 true (.tuple #[])).run prog (w.alloc (.cells (pdk K).toArray 37))=.ok (.pointer (some ⟨r+1,0,none⟩)) w2):=by
  have:=alloc_row (w.alloc (.cells (pdk K).toArray 37))
  rw[World.size_alloc,hr,hw2] at this
  exact this
 have HI:Hid (X3 X r K i=.pt B 1 t v L k):=(put_other _ _ (by omega)).trans ((put_other _ _ (by omega)).trans e)
 have HK:Hid (∀W,DS w0 W K x y pd (X3 X r K)→DkIn W r K):=fun W hW=>hW.blk (i:=33) (by decide) (by decide) ((put_other _ _ (by decide)).trans (put_same _ _ _))
 have HLK:Hid (_):=(HK.out w2 HD2.out).load
 clear h hw2
 go_enter func16,ntmps16
 go_wp2_with ((with_reducible refine C.at_ops ?_);(first | (refine alI 61 HAL.out ?_) | (refine ldI 37 HLK.out ?_)))
 refine (whole_at w2 K).mono ?_
 rintro e' w3 ⟨rfl,b3⟩
 have HD3:Hid (DS w0 w3 K x y pd (X3 X r K)):=HD2.out.later b3
 have HLK:Hid (_):=(HK.out w3 HD3.out).load
 clear b3 HD2 HAL
 go_wp2_with ((with_reducible refine C.at_ops ?_);(refine ldI 37 HLK.out ?_))
 refine (enabled_idle HD3.out hN h8 (by omega) HI.out).mono ?_
 rintro e' w4 ⟨rfl,b4⟩
 rw[hdue]
 have HD4:Hid (DS w0 w4 K x y pd (X3 X r K)):=HD3.out.later b4
 have HLK:Hid (_):=(HK.out w4 HD4.out).load
 have c0:=(HD4.out.pt h8 (by omega) HI.out).c0
 clear b4 HD3
 have HBD:Hid (_):=build_row0 w4
 have HST:Hid ((Instr.storeAt 61 (.pointer (some ⟨r+1,0,none⟩)) (.agg row0.toArray)).run prog w4=.ok () (w4.setRow (r+1) row0.toArray)):=store_row (HD4.out.blk (i:=34) (by decide) (by decide) (put_same _ _ _)) (rowC_len (C.zs_len 32)) (rowC_one _ _ _ _ _)
 obtain ⟨hdz,lz⟩:=HD4.out.told3 e33 e34 row0
 have HDz:Hid (DS w0 (w4.setRow (r+1) row0.toArray) K x y pd X):=hdz
 have HLz:Hid (LAt 61 (w4.setRow (r+1) row0.toArray) (r+1) row0):=lz
 clear hdz lz HD4 HK HLK HI c0
 generalize w4.setRow (r+1) row0.toArray=wz at *
 go_wp2_with ((with_reducible refine C.at_ops ?_);(first | ((refine C.wpList_build_is (vs:=[]) (by rfl) 61 rfl (by rfl) HBD.out ?_);simp only[Act.put,zA,zB,zC]) | (refine stI 61 HST.out ?_)))
 (try simp only[Exit.inBlock,Exit.then])
 exact bodyPost_ret (C.results_lat results16 _ _ (r+1) 61 _ _ (by rfl) HLz.out underlying61 rfl (by rw[size_row,rowC_len (C.zs_len 32)])) rfl ⟨rfl,HDz.out⟩
end
end Go.Proofs.YtcdjepkhdjpjcaaGreatDoor.Q
