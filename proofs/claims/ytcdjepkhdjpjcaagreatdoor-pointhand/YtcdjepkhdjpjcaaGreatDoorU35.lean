import Derived.Test.YtcdjepkhdjpjcaaGreatDoorU34
set_option maxHeartbeats 20000000
set_option maxRecDepth 100000
namespace Go.Proofs.Zq.Q
open Go.Proofs.Tryz
open Go.RowKit
theorem oE{P:Program}{ops:Array Oper}{o:Oper}{a:Act}{w w':World}{K:Act->World->Prop}{Q:Exit->Act->World->Prop}{E:Prop}
  (hg:o.guard=none) (ty:TypeId) (ho:o.op=.buildSlice ty 0 #[]) {v:Value} (hr:(Instr.buildSlice ty 0 #[]).run P w=.ok v w') (hK:K (a.put o.dst v) w') :
  if Region.wanted o (yielded ops a.tmps)=true then Oper.wp P o a w K Q else E:=by
 have hw:Region.wanted o (yielded ops a.tmps)=true:=by simp[Region.wanted,hg]
 rw[aE hw];have dM:(execOp a.eval o).run P w=.ok (.value v) w':=by unfold execOp;simp only[ho];simp[hr,Result.andThen_ok]
 unfold Oper.wp;rw[dM];exact hK
section
variable {w0 w w':World} {K:Ks} {x y:Sx} {pd:List Cm} {X:Nat->Th} {i j B:Nat} {d t:Int} {v:Value} {L:List C.En}
theorem Nd(w:World):(Instr.buildSlice 160 0 #[]).run prog w=.ok (.slice (some ⟨w.heap.size,0,none⟩) 0 0) (w.alloc (.cells #[] 241)):=by
 obtain ⟨i0,hi,ij,gm,iL⟩:=cj C.Dm.inf;simp[Instr.buildSlice,run_underlying C.Dm.ut,sizeOf,typeInfo,hi,newRow,Instr.fill];rw[show Array.range 0=(#[]:Array Nat) by simp[Array.range]];simp
theorem MY{q:Option Addr}{c:Nat}(h:C.lC w q L.length L)(hL:L.length<=64):∃q' c' w',(Builtin.append_ #[160,160] 160 #[.slice (some ⟨w.heap.size,0,none⟩) 0 0,.slice q L.length c]).run prog (w.alloc (.cells #[] 241))=.ok (.slice q' L.length c') w'/\C.eU 241 w' w.heap.size (.slice q' L.length c') L/\Below w.heap.size w w':=by
 have hb:=ag w (.cells #[] 241);have h0:C.eU 241 (w.alloc (.cells #[] 241)) w.heap.size (.slice (some ⟨w.heap.size,0,none⟩) 0 0) []:=gN w #[] 0 (az _) (aI _) rfl;obtain ⟨q',c',w',hr,ho,hg,-⟩:=C.PJ C.Dm (c:=c) h0 C.dW.nil (h.later hb) (by simp;omega) (by simp);exact⟨q',c',w',hr,ho,Below.grown hb hg (by simp) (fun k e=>by cases e;exact az _)⟩
theorem Sf(w:World)(d t:Int)(q:Option Addr)(n c:Nat):(Instr.build 162 #[(0,.int .i64 d),(1,.int .u64 t),(2,.slice q n c)]).run prog w=.ok (.agg #[.int .i64 d,.int .u64 t,.slice q n c]) w:=eo w 162 _ _ (by kernel_rfl)
theorem DS.Zu(h:DS w0 w K x y pd X)(h8:8<=j)(eC:j<40)(hw:C.dW L)(hL:L.length<=64){w2:World}(b2:Below w.heap.size w w2){v':Value}(ho:C.eU 241 w2 w.heap.size v' L):DS w0 (w2.alloc (.cells #[.int .i64 d,.int .u64 t,v'] 162)) K x y pd (put X j (.gT w2.heap.size d t v' L)):=by
 have ba:=ag w2 (.cells #[.int .i64 d,.int .u64 t,v'] 162);refine h.NH h8 eC (S:=fun _=>False) (N:=fun g=>v'.ownBlock=some g) (fun G at'=>?_) (E.Kept.bP _ (ah b2 ba)) (fun b hb=>hb.elim) (fun b hb=>.inr ?_) (fun g hg=>?_)
 ·exact⟨⟨aG w2 _,E.dD (sL ho) ba,hw,hL⟩,fun g hg=>.inr hg⟩
 ·have:b=w2.heap.size:=hb;have:=b2.size;omega
 ·have a:=fQ ho g hg;refine⟨a.1,by rw[a_];omega,fun (eg:g=w2.heap.size)=>?_⟩;have:=a.2;omega
theorem Uu(h:DS w0 w K x y pd X)(h8:8<=i)(eC:i<40)(e:X i=.gT B d t v L)(j8:8<=j)(IV:j<40):Calls prog 143 #[E.qp B] w fun e w'=>∃R v',e=.returned (E.qp R)/\DS w0 w' K x y pd (put X j (.gT R d t v' L)):=by
 have hp:=h.gT h8 eC e;have hL0:=hp.nR;obtain ⟨qq,cc,rfl,hE,hcc⟩:=hp.GG;obtain ⟨LL,hLL⟩:=zE L;subst hLL;have HP0:Hid (js w.drew B d t (.slice qq L.length cc) L):=hp.later (av 1);have HD:Hid (DS w0 w.drew K x y pd X):=h.later (av 1);have hE0:C.lC w.drew qq L.length L:=hE.later (av 1);have Mw:=hp.wf;clear h hp hE;go_enter func143,ntmps143;go_wp2_with fail;refine zR (fun W=>js W B d t (.slice qq L.length cc) L) HP0.out fun aa=>?_;generalize w.drew=w1 at *;have HP:=zH HP0;obtain ⟨q',c',w2,hr,ho,b2⟩:=MY (c:=cc) hE0 hL0;have rQ:=zH hr;have HO:=zH ho;have gD:=zH b2;have pI:=zH (Nd w1);clear hr ho b2 hE0 HP0;refine gh 0 1 2 aa ?_;refine de 3 aa (fun _ s=>s.c0) ?_;refine gh 4 5 6 aa ?_;refine de 7 aa (fun _ s=>s.c1) ?_;refine gh 9 10 11 aa ?_;refine de 12 aa (fun _ s=>s.c2) ?_;refine iA 8 fun Kc aJ=>?_;refine oE (by rfl) 160 rfl pI.out ?_;simp only[Act.put];refine aJ.out _ _ (HP.out.later (ag w1 _)) (fun aa=>?_);clear aJ Kc;refine iA 13 fun Kc aJ=>?_;refine C.cM (by rfl) _ _ 160 160 rfl _ _ rfl rfl rQ.out ?_;simp only[Act.put];refine aJ.out _ _ (HP.out.later gD.out) (fun aa=>?_);clear aJ Kc;refine tkb 14 [(0,.int .i64 d),(1,.int .u64 t),(2,.slice q' L.length c')] aa (fun w=>Sf w d t _ _ _) ?_;refine iA 15 fun Kc aJ=>?_;go_simp;refine aJ.out _ _ (HP.out.later (ah gD.out (ag w2 _))) (fun aa=>?_);clear aJ Kc;refine tk 16 aa ?_;clear aa;refine zD ?_;go_wp2;go_ret;exact⟨_,_,rfl,HD.out.Zu j8 IV Mw hL0 gD.out HO.out⟩
theorem Uj(h:js w B d t v L)(h0:0<=d)(h1:d<=100)(h2:La d L.length≠2):Calls prog 144 #[E.qp B] w fun e w'=>∃u,e=.returned u/\C.eU 241 w' w.heap.size u []/\Below w.heap.size w w':=by
 have HS:=zH (qA h h0 h1);go_enter func144,ntmps144;go_wp2_with fail;refine Calls.mono HS.out ?_;rintro e w9 ⟨rfl,b9⟩;have SM:=zH b9;clear b9 HS h;go_wp2;go_ret;exact⟨_,rfl,cq _ _ _ _,SM.out⟩
theorem Li{k:Nat}(h:js w B ((k:Int)+1) t v L)(hk:k<L.length)(h2:La ((k:Int)+1) L.length=2):Calls prog 144 #[E.qp B] w fun e w'=>∃u,e=.returned u/\C.eU 241 w' w.heap.size u (L.drop k)/\Below w.heap.size w w':=by
 have hs:=qA h (by omega) (by have:=h.nR;omega);rw[h2] at hs;have HS:=zH hs;have hL0:=h.nR;obtain ⟨qq,cc,rfl,hE,hcc⟩:=h.GG;obtain ⟨b,o,rfl,-⟩:=hE.cells (by omega);have HP0:=zH h;have hEd:=hE.drop (k:=k) (c:=cc) (by omega) hcc;rw[C.Xf,aD (by omega),iZ,fo,show L.length-k=(L.drop k).length from (cN ..).symm] at hEd;have wR:(L.drop k).length<=64:=by rw[cN];omega
 have HE:=zH hEd;have HN:Hid ((L.drop k).length=L.length-k):=cN ..;clear h hE hs h2 hEd;go_enter func144,ntmps144;go_wp2_with fail;refine Calls.mono HS.out ?_;rintro e w9 ⟨rfl,b9⟩;have SM:Hid (Below w.heap.size w w9.drew):=ah b9 (av 1);have HP:Hid (js w9.drew B ((k:Int)+1) t (.slice (some ⟨b,o,none⟩) L.length cc) L):=HP0.out.later SM.out;obtain ⟨q',c',w2,hr,ho,b2⟩:=MY (c:=cc-k) (HE.out.later SM.out) wR;rw[HN.out] at hr;have rQ:=zH hr;have HO:Hid (C.eU 241 w2 w9.drew.heap.size (.slice q' (L.length-k) c') (L.drop k)):=by
  show C.eU _ _ _ _ _;rw[<-HN.out];exact ho
 have gD:Hid (Below w9.drew.heap.size w9.drew w2):=b2;have pI:=zH (Nd w9.drew);have hwk:IntKind.i64.wrap (k:Int)=(k:Int):=by rw[aY];omega
 have Ti:(0:Int)<=(k:Int):=by omega
 have hk1:(k:Int)<=(L.length:Int):=by omega
 have tU:¬cc=k:=by omega
 clear b9 HS HP0 HE hr ho b2 wR;go_wp2_with fail;refine zR (fun W=>js W B ((k:Int)+1) t (.slice (some ⟨b,o,none⟩) L.length cc) L) HP.out fun aa=>?_;generalize w9.drew=w1 at *;refine gh 1 2 3 aa ?_;refine de 4 aa (fun _ s=>s.c2) ?_;refine gh 5 6 7 aa ?_;refine de 8 aa (fun _ s=>s.c0) ?_;refine fI 9 10 aa ?_;refine iA 0 fun Kc aJ=>?_;refine oE (by rfl) 160 rfl pI.out ?_;simp only[Act.put];refine aJ.out _ _ (HP.out.later (ag w1 _)) (fun aa=>?_);clear aJ Kc;refine iA 11 fun Kc aJ=>?_;refine C.cM (by rfl) _ _ 160 160 rfl _ _ rfl rfl rQ.out ?_;simp only[Act.put];refine aJ.out _ _ (HP.out.later gD.out) (fun aa=>?_);clear aJ Kc;refine tk 12 aa ?_;clear aa;refine zD ?_;go_wp2;go_ret;exact⟨_,rfl,C.eH HO.out SM.out.size,ah SM.out gD.out⟩
end
theorem YW:(prog.info? 37).bind (·.zero)=some (.agg (bare qz).toArray):=by kernel_rfl
theorem XI(w:World):(Instr.alloc 37 true (.tuple #[])).run prog w=.ok (.pointer (some ⟨w.heap.size,0,none⟩)) (w.alloc (.cells (bare qz).toArray 37)):=by
 simp only[Instr.alloc,aU,C.zv 37 _ YW,aH];simp[newVar,newRow,Value.cells]
theorem TS(w:World)(K:Ks):(Instr.storeAt 37 (.pointer (some ⟨w.heap.size,0,none⟩)) (.agg (gl K).toArray)).run prog (w.alloc (.cells (bare qz).toArray 37))=.ok () (w.alloc (.cells (gl K).toArray 37)):=by
 have:=bE.store (bE.new 37 w (bare qz)) (ds:=gl K) (by rw[zQ];rfl) rfl (by simp[aN,Value.oneCell']);rw[jA] at this;exact this
section
variable {w0 w:World} {K:Ks} {x y:Sx} {pd:List Cm} {X:Nat->Th}
theorem DS.GR{k:Nat}{u:Th}(h:DS w0 w K x y pd (put X k u))(e:X k=.no):DS w0 w K x y pd X:=h.forget fun i _ _=>by
 by_cases e2:i=k
 ·subst e2;exact .inr e
 ·exact .inl (af _ _ e2).symm
theorem DS.abU(h:DS w0 w K x y pd X){i:Nat}(h8:8<=i)(eC:i<40){t:TypeId}{s:Nat}{v:Value}{n:Nat}{xs:List Value}(e:X i=.row t s v n xs):w.ownsRow 0 t s v n xs:=by
 obtain ⟨T,G,h,hX⟩:=h;have:=h.jN.at' i eC;rw[hX i h8 eC,e] at this;exact this
end
theorem akS(w:World)(xs ys:List Int)(hx:xs.length=32)(hy:ys.length=32):(binOp .neq 51 (.agg (U8 xs).toArray) (.agg (U8 ys).toArray)).run prog w=.ok (.bool (!decide (xs=ys))) w:=by
 rw[run_neq_struct,C.MP w 9998 xs ys hx hy];rfl
theorem Ra(w:World)(xs:List Int)(hx:xs.length=32):(binOp .neq 51 (.agg (U8 xs).toArray) (.agg (U8 xs).toArray)).run prog w=.ok (.bool false) w:=by
 rw[akS w xs xs hx hx,aP rfl];rfl
section
variable {P:Program} {ops:Array Oper} {Q:Exit->Act->World->Prop} {md:Region.Mode} {S:World->Prop} {fuel:Nat} {listed:Array Bool} {a:Act} {w:World}
theorem tkq(i:Nat){oi:Oper}{ty t2:TypeId}{x y:Operand}{xs ys:Array Value}{v:Value}{a':Act}(hS:S w)(hgt:P.eqGuardType P.depth ty=false)(dM:∀w,(binOp .neq ty (.agg xs) (.agg ys)).run P w=.ok v w)(h:wpAnyH P md ops Q S fuel (listed.setIfInBounds i true) a' w)(hi:ops[i]?=some oi:=by simp;rfl)(ho:oi.op=.binOp .neq ty x y t2:=by rfl)(hx:a.eval x=.agg xs:=by rfl)(hy:a.eval y=.agg ys:=by rfl)(hs:Region.noSelect ops=true:=by kernel_rfl)(hf:Region.free md ops listed i=true:=by kernel_rfl)(hr:(Region.ready md ops listed).contains i=true:=by kernel_rfl)(hg:Region.wanted oi (yielded ops a.tmps)=true:=by rfl)(ha:a.put oi.dst v=a':=by simp only[Act.put,zA,zB,zC];with_reducible rfl)(hQ:∀c a w,Q (.panic c) (a.put oi.dst v) w->Q (.panic c) a w:=by exact fun _ _ _ h=>h):wpAnyH P md ops Q S (fuel+1) listed a w :=
 dz hi hs hf hr hQ (C.CP hg ty ho hx hy hgt dM) hS (ha ▸ h)
