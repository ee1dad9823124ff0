/- Texts laid together by program. -/
import Derived.Test.YtheenjkmglmihaaQ19
/- The statement PlanRaw as a contract. -/
set_option linter.unusedVariables false
set_option maxRecDepth 8000
set_option linter.unusedSimpArgs false
namespace Go.Proofs.Ytheenjkmglmihaa
open Lib (hid)
open Go.RowKit
namespace Pl
open Cm Ac

set_option maxHeartbeats 8000000 in
theorem Raw_any (v:Value) (L:List PromC) (w:World) (h:RdP w v L):Calls Try.prog 3 #[v] w (SaysB true w):=by
 obtain⟨a,cap,rfl⟩:=h.form
 obtain⟨_,_,hv,hlc,hcm, -⟩:=h.row.ex
 cases hv
 have AW:=hid (fun W=>awake16_ok W)
 by_cases hg:10<L.length
 ·clear h
  generalize L.length=N at*
  have d:decide (10<(N:Int))=true:=by simp;omega
  go_enter Try.func3,Try.ntmps3
  go_wp2_with (go_at_call 7;refine(AW.out _).mono ?_;rintro e w7 ⟨rfl,hb7⟩)
  go_ret
  exact⟨rfl,hb7⟩
 have HN12:Hid (L.length<=12):=hid (by omega)
 have HRP:=hid h
 have HA:=hid (fun i hi=>rdp_at h.row i hi)
 have HR:=hid h.votes
 have d:decide (10<(L.length:Int))=false:=by simp;omega
 clear h
 obtain⟨N,hn⟩: ∃N,L.length=N:=⟨_,rfl⟩
 have HN:=hid hn
 rw[hn] at hlc d hg HRP ⊢
 clear hn
 go_enter Try.func3,Try.ntmps3
 go_wp2
 go_loopw [2,3,12] (fun _ i _ wr=> ∃j:Nat,j<=N/\i= .int .i64 (j:Int)/\Hid (Below w.heap.size w wr)) (fun _ i _ _=>N - (intOf i).toNat)
 case atStart=>exact⟨0,by omega,rfl,hid (Below.refl _ _)⟩
 case round=>
  obtain⟨j,hj,rfl,HB⟩:=hrel
  by_cases hlt:j<N
  case pos=>
   have hjl:j<L.length:=by rw[HN.out];exact hlt
   obtain⟨b,o,rfl,hc⟩:=HA.out j hjl
   obtain⟨q0,q1,q2,q3,q4,q5⟩:=hc _ HB.out
   have hr:=HR.out L[j] (mem_get hjl)
   obtain⟨p,hp⟩: ∃p,L[j]=p:=⟨_,rfl⟩
   rw[hp] at q0 q1 q2 q3 q4 q5 hr
   have HCC:=hid (fun wx hb=>by have:=hc wx hb;rw[hp] at this;exact this)
   clear hc hp hjl
   have CG:=hid (fun W (hb:Below w.heap.size w W)=>GreatP_any p W (hr.later hb))
   have CM:=hid (fun W (hb:Below w.heap.size w W)=>MayP_any p W (hr.later hb))
   have CR:=hid (fun W (hb:Below w.heap.size w W)=>MayPromise_any p W (hr.later hb))
   generalize mayP p.val=MB at CM CR
   clear hr
   obtain⟨pw,pd,pv,ps,pt,pl,pa,pc⟩:=p
   unfold PromC.u at q5 HCC
   unfold promVal PromC.u at CG CM CR
   dsimp only at q0 q1 q2 q3 q4 q5 CG CM CR HCC
   generalize pl.length=pn at*
   have hj0:(0:Int)<=(j:Int):=by omega
   have hj1:(j:Int)<(N:Int):=by omega
   go_wp2_with fail
   refine(CG.out _ HB.out).mono ?_
   rintro e w2 ⟨⟨gb,rfl⟩,hb2⟩
   have HB2:=hid (step HB.out hb2)
   clear hb2 q0 q1 q2 q3 q4 q5
   obtain⟨q0,q1,q2,q3,q4,q5⟩:=HCC.out _ HB2.out
   cases gb
   case true=>
    go_wp2_with (go_at_call 7;refine(AW.out _).mono ?_;rintro e w7 ⟨rfl,hb7⟩)
    go_ret
    exact⟨rfl,step HB2.out hb7⟩
   go_upto_region 8 with fail
   have k0:=cell_regrown q0
   have k1:=cell_regrown q1
   have k2:=cell_regrown q2
   have k3:=cell_regrown q3
   have k4:=cell_regrown q4
   have k5:=cell_regrown q5
   have D1:=hid (fun d os=>Calls.regrown_of (w:=w2) (d:=d) (os:=os) (CM.out _ (step HB2.out (below_regrown w2 d os))))
   have D2:=hid (fun d os=>Calls.regrown_of (w:=w2) (d:=d) (os:=os) (CR.out _ (step HB2.out (below_regrown w2 d os))))
   have em:(MB != MB)=false:=by cases MB<;>rfl
   refine wp_region_quiet_below (by kernel_rfl) (by kernel_rfl) ?_
   repeat (go_big_quiet_step (fail))
   go_big_quiet_step (exact D1.out _ _)
   repeat (go_big_quiet_step (fail))
   go_big_quiet_step (exact D2.out _ _)
   repeat (go_big_quiet_step (fail))
   refine wpQuiet_nil ?_
   intro wz hw'
   have HBZ:Hid (Below w2.heap.size w2 wz):=hid (by obtain⟨⟨dq,osq⟩,hw2⟩:=hw';rw[hw2];exact below_regrown w2 dq osq)
   clear hw' k0 k1 k2 k3 k4 k5 D1 D2 q0 q1 q2 q3 q4 q5
   go_wp2
   go_roundw
   case rel=>exact⟨j+1,by omega,by go_num,hid (step HB2.out HBZ.out)⟩
   case measure=>simp [intOf];omega
  obtain rfl:j=N:=by omega
  have HRD:=hid (HRP.out.later HB.out)
  clear hlt hj HRP HA HR hg d hlc
  obtain⟨wo,rfl⟩: ∃wo,wo=wr:=⟨_,rfl⟩
  have CMK:=hid (Make_any _ L _ HRD.out HN12.out)
  have CRF:=hid (fun W' (hb:Below _ _ W')=>MakePlan_any _ L W' (HRD.out.later hb) HN12.out)
  rw[<-make_same] at CMK
  obtain⟨⟨R,RC⟩,hR⟩: ∃R,makeR (valsP L)=R:=⟨_,rfl⟩
  rw[hR] at CMK CRF
  clear hR
  unfold GivesP at CMK
  unfold GivesQ at CRF
  dsimp only at CMK CRF
  go_upto_region 11 with (go_at_call 11;refine CMK.out.mono ?_;rintro e w2 ⟨va,vc,La,rfl,hva,hoa,hb2⟩;have HVA:=hid hva;have HOA:=hid hoa.rd;have HBA:=hid hb2;clear hva hoa hb2;unfold planVal;dsimp only)
  obtain⟨na,hna⟩: ∃na,La.length=na:=⟨_,rfl⟩
  rw[hna]
  have hbp:=newAlloc w2 (.cells #[.int .i64 R.done,.int .i64 R.tv,.int .i64 R.ts,.int .i64 R.time,.slice va na vc,.int .i64 R.ev,.int .i64 R.es,.int .i64 R.last] 32)
  have HX3:Hid (HeapAt (w2.alloc (.cells #[.int .i64 R.done,.int .i64 R.tv,.int .i64 R.ts,.int .i64 R.time,.slice va na vc,.int .i64 R.ev,.int .i64 R.es,.int .i64 R.last] 32)) w2.heap.size (.cells #[.int .i64 R.done,.int .i64 R.tv,.int .i64 R.ts,.int .i64 R.time,.slice va na vc,.int .i64 R.ev,.int .i64 R.es,.int .i64 R.last] 32)):=hid (alloc_atB _ _ _ rfl)
  have HOA3:=hid (HOA.out.later hbp)
  have HBA3:=hid (step HBA.out hbp)
  generalize w2.alloc (.cells #[.int .i64 R.done,.int .i64 R.tv,.int .i64 R.ts,.int .i64 R.time,.slice va na vc,.int .i64 R.ev,.int .i64 R.es,.int .i64 R.last] 32)=W3 at HX3 HOA3 HBA3 ⊢
  generalize w2.heap.size=g3 at HX3 ⊢
  clear hbp
  have CRF2:=hid (CRF.out _ HBA3.out)
  clear CRF CMK
  go_upto_region 12 with (go_at_call 12;refine CRF2.out.mono ?_;rintro e w4 ⟨vd,ve,Lb,rfl,hvb,hob,hb4⟩;have HVB:=hid hvb;have HOB:=hid hob;have HB4:=hid (step HBA3.out hb4);have HX4:=hid (HX3.out.later hb4);have HOA4:=hid (HOA3.out.later hb4);clear hvb hob hb4;unfold planVal;dsimp only)
  obtain⟨nb,hnb⟩: ∃nb,Lb.length=nb:=⟨_,rfl⟩
  rw[hnb]
  have hbp:=newAlloc w4 (.cells #[.int .i64 R.done,.int .i64 R.tv,.int .i64 R.ts,.int .i64 R.time,.slice vd nb ve,.int .i64 R.ev,.int .i64 R.es,.int .i64 R.last] 36)
  have HX5:=hid (HX4.out.later hbp)
  have HY5:Hid (HeapAt (w4.alloc (.cells #[.int .i64 R.done,.int .i64 R.tv,.int .i64 R.ts,.int .i64 R.time,.slice vd nb ve,.int .i64 R.ev,.int .i64 R.es,.int .i64 R.last] 36)) w4.heap.size (.cells #[.int .i64 R.done,.int .i64 R.tv,.int .i64 R.ts,.int .i64 R.time,.slice vd nb ve,.int .i64 R.ev,.int .i64 R.es,.int .i64 R.last] 36)):=hid (alloc_atB _ _ _ rfl)
  have HB5:=hid (step HB4.out hbp)
  have HOA5:=hid (HOA4.out.later hbp)
  have HOB5:=hid (HOB.out.later hbp)
  generalize w4.alloc (.cells #[.int .i64 R.done,.int .i64 R.tv,.int .i64 R.ts,.int .i64 R.time,.slice vd nb ve,.int .i64 R.ev,.int .i64 R.es,.int .i64 R.last] 36)=W5 at HX5 HY5 HB5 HOA5 HOB5 ⊢
  generalize w4.heap.size=g5 at HY5 ⊢
  clear hbp
  have CSM:=hid (Same_one R La Lb va vd vc ve W5 HOA5.out HOB5.out (by rw[HVA.out,HVB.out]))
  rw[hna,hnb] at CSM
  unfold planVal at CSM
  obtain⟨Rd,Rt,Rs,Rm,Rb,Re,Rf,Rl⟩:=R
  dsimp only at CSM HX5 HY5
  have c0:=cell_at HX5.out 0
  have c1:=cell_at HX5.out 1
  have c2:=cell_at HX5.out 2
  have c3:=cell_at HX5.out 3
  have c4:=cell_at HX5.out 4
  have c5:=cell_at HX5.out 5
  have c6:=cell_at HX5.out 6
  have c7:=cell_at HX5.out 7
  have d0:=cell_at HY5.out 0
  have d1:=cell_at HY5.out 1
  have d2:=cell_at HY5.out 2
  have d3:=cell_at HY5.out 3
  have d4:=cell_at HY5.out 4
  have d5:=cell_at HY5.out 5
  have d6:=cell_at HY5.out 6
  have d7:=cell_at HY5.out 7
  simp at c0 c1 c2 c3 c4 c5 c6 c7 d0 d1 d2 d3 d4 d5 d6 d7
  have eRC:(RC==RC)=true:=by simp
  clear hna hnb
  go_wp2_with (first
   | (go_at_call 13;refine CSM.out.mono ?_;rintro e w6 ⟨rfl,hb6⟩;have HB6:=hid (step HB5.out hb6);clear hb6 c0 c1 c2 c3 c4 c5 c6 c7 d0 d1 d2 d3 d4 d5 d6 d7)
   | (go_at_call 7;refine(AW.out _).mono ?_;rintro e w7 ⟨rfl,hb7⟩))
  go_ret
  exact⟨by simp,step HB.out (step HB6.out hb7)⟩
end Pl
end Go.Proofs.Ytheenjkmglmihaa
