/- Texts laid together by program. -/
import Derived.Test.YtbpmfjjbfiiiaaaQS30
import Derived.Test.YtbpmfjjbfiiiaaaQS31
import Derived.Test.YtbpmfjjbfiiiaaaQS32
import Derived.Lib.QuietBelow
/- LeadStops of layer 17, as a contract. -/
set_option linter.unusedVariables false
set_option maxRecDepth 8000
set_option linter.unusedSimpArgs false
namespace Go.Proofs.Ytbpmfjjbfiiiaaa
open Lib (hid)
open Go.RowKit
namespace Ld
open Cm Ac Pl Vw

theorem HasL.gle {w:World} {g m:Nat} {s:LedV} {pv bv:Value} (h:HasL w g m s pv bv):g<=w.heap.size:=Nat.le_of_lt h.lt
theorem toldL2 {w w':World} {x:ToldC} (h:ToldOk w x) (hb:Below w.heap.size w w'):ToldOk w' x:=⟨h.d,h.v,h.s,h.t,h.rd.later hb⟩
theorem done_small (ta tb:ToldC) {w:World} (ha:ToldOk w ta) (hb:ToldOk w tb):(makeF [promN 0 ta.val,promN 2 tb.val]).1.done <8/\okS [] [promN 0 ta.val,promN 2 tb.val]=true:=by
 have hok:okS [] [promN 0 ta.val,promN 2 tb.val]=true:=okS_snoc (l:= [promN 0 ta.val]) (okS_snoc (l:= []) rfl (promN_may (k:=0) (by omega) (told_okC ha)) (fun q hq=>by cases hq)) (promN_may (k:=2) (by omega) (told_okC hb)) (fun q hq=>by rw[List.mem_singleton] at hq;rw[hq];show(0:Int)≠2;decide)
 refine⟨?_,hok⟩
 have hp:=plan_at hok (by simp)
 rw[make_plan hok (by simp)]
 obtain⟨p,hp1,hp2⟩:=hp.has
 have hlt: ∀q∈ [promN 0 ta.val,promN 2 tb.val],q.done<8:=by
  intro q hq
  simp only[List.mem_cons,List.not_mem_nil,or_false] at hq
  rcases hq with rfl | rfl
  ·show ta.val.done % 8<8
   omega
  ·show tb.val.done % 8<8
   omega
 have:=hlt p hp1
 show(planF (sortP _)).done <8
 omega
theorem led_start {view:Int} (hv:0<=view/\view<256) (ta tb:ToldC) {w:World} (ha:ToldOk w ta) (hb:ToldOk w tb):
  ∃(S:LedV) (R:PlanV),AddI R.done view 9 S/\0<=R.done/\R.done<8/\S.next=R.done+1+(R.bats.length:Int)/\R.bats.length<=9/\S.bats=R.bats/\S.tv=R.ev/\S.ts=R.es/\S.time=R.last/\ ∀W,Below w.heap.size w W->
   Calls Try.prog 7 #[.int .u8 view,toldV ta,toldV tb] W (fun e w'=> ∃g pv bv va vc,∃Lb:List BatC,e= .returned (.tuple #[.pointer (some ⟨g,0,none⟩),planVal R (.slice va Lb.length vc)])/\valsB Lb=R.bats/\OwnBs W.heap.size w' (.slice va Lb.length vc) Lb/\
    (∀k,(Value.slice va Lb.length vc).ownBlock =some k-> ¬LS g pv bv k)/\HasL w' g g S pv bv/\Below W.heap.size W w'/\W.heap.size<=g):=by
 obtain⟨hd8,hok⟩:=done_small ta tb ha hb
 have mo:=make_ok hok (by simp)
 exact⟨ledS view (promN 0 ta.val) (promN 2 tb.val),(makeF [promN 0 ta.val,promN 2 tb.val]).1,AddI.start hok,mo.d0,hd8,rfl,mo.l9,rfl,rfl,rfl,rfl,fun W h=>led_any view ta tb W hv (toldL2 ha h) (toldL2 hb h)⟩
set_option maxHeartbeats 32000000 in
theorem Stops17_any (view adds done how:Int) (ta tb:ToldC) (w:World) (hv:0<=view/\view<256) (hadd:0<=adds/\adds<256) (hdn:0<=done/\done<256) (hhw:0<=how/\how<256) (ha:ToldOk w ta) (hb:ToldOk w tb):
  Calls Try.prog 5 #[.int .u8 view,toldV ta,toldV tb,.int .u8 adds,.int .u8 done,.int .u8 how] w (SaysB true w):=by
 obtain⟨S,R,hAI,hr0,hr8,hsn,hr9, -, -, -, -,hCL⟩:=led_start hv ta tb ha hb
 clear ha hb
 have CL:=hid hCL
 have HAI:=hid hAI
 have HSN:=hid hsn
 clear hCL hAI hsn
 obtain⟨ad,aw,as_,am,al,aa,ac⟩:=ta
 obtain⟨bd,bw,bs,bm,bl,ba,bc⟩:=tb
 unfold toldV ToldC.u at CL
 unfold toldV ToldC.u
 dsimp only at CL ⊢
 generalize al.length=an at CL ⊢
 generalize bl.length=bn at CL ⊢
 have hb2:=stepAlloc (newAlloc w (.cells #[.int .u8 ad,.int .u8 aw,.int .u8 as_,.int .u8 am,.slice aa an ac] 24)) (.cells #[.int .u8 bd,.int .u8 bw,.int .u8 bs,.int .u8 bm,.slice ba bn bc] 24)
 have ka:=cells_later (alloc_atB w (.cells #[.int .u8 ad,.int .u8 aw,.int .u8 as_,.int .u8 am,.slice aa an ac] 24) _ rfl) (newAlloc _ (.cells #[.int .u8 bd,.int .u8 bw,.int .u8 bs,.int .u8 bm,.slice ba bn bc] 24))
 have kb:=alloc_atB (w.alloc (.cells #[.int .u8 ad,.int .u8 aw,.int .u8 as_,.int .u8 am,.slice aa an ac] 24)) (.cells #[.int .u8 bd,.int .u8 bw,.int .u8 bs,.int .u8 bm,.slice ba bn bc] 24) (w.heap.size+1) (by simp)
 obtain⟨rd,rt,rs,rm,rb,re,rf,rl⟩:=R
 unfold planVal at CL
 dsimp only at CL HAI HSN hr0 hr8 hr9
 have HR:=hid (And.intro hr0 (And.intro hr8 hr9))
 clear hr0 hr8 hr9
 go_enter Try.func5,Try.ntmps5
 go_upto_region 1 with fail
 generalize (w.alloc (.cells #[.int .u8 ad,.int .u8 aw,.int .u8 as_,.int .u8 am,.slice aa an ac] 24)).alloc (.cells #[.int .u8 bd,.int .u8 bw,.int .u8 bs,.int .u8 bm,.slice ba bn bc] 24)=W2 at hb2 ka kb ⊢
 have HB2:=hid hb2
 have x0:=cell_at ka 0
 have x1:=cell_at ka 1
 have x2:=cell_at ka 2
 have x3:=cell_at ka 3
 have x4:=cell_at ka 4
 have y0:=cell_at kb 0
 have y1:=cell_at kb 1
 have y2:=cell_at kb 2
 have y3:=cell_at kb 3
 have y4:=cell_at kb 4
 simp at x0 x1 x2 x3 x4 y0 y1 y2 y3 y4
 have CL2:=hid (CL.out W2 hb2)
 clear hb2 ka kb CL
 go_upto_region 2 with (go_at_call 7;refine CL2.out.mono ?_;rintro e w3 ⟨g,pv3,bv3,va,vc,Lb,rfl,hvb, -, -,h3,hb3,hg3⟩;have HVB:Hid (Lb.length=rb.length):=hid (by rw[<-hvb,valsB_length]);have H3:=hid h3;have HB3:=hid hb3;have HG3:=hid hg3;rw[HVB.out];clear hvb h3 hb3 hg3 x0 x1 x2 x3 x4 y0 y1 y2 y3 y4)
 obtain⟨N,hN⟩: ∃N,rb.length=N:=⟨_,rfl⟩
 have HN:=hid hN
 rw[hN] at HSN HR ⊢
 clear CL2 hN
 have hbp:=newAlloc w3 (.cells #[.int .i64 rd,.int .i64 rt,.int .i64 rs,.int .i64 rm,.slice va N vc,.int .i64 re,.int .i64 rf,.int .i64 rl] 31)
 have kp:=alloc_atB w3 (.cells #[.int .i64 rd,.int .i64 rt,.int .i64 rs,.int .i64 rm,.slice va N vc,.int .i64 re,.int .i64 rf,.int .i64 rl] 31) _ rfl
 have HB4:=hid (step (step HB2.out HB3.out) hbp)
 have HL:=hid (H3.out.later hbp)
 have HGW:Hid (w.heap.size<=g):=hid (by have:=HG3.out;have:=HB2.out.size;omega)
 have HNP:Hid (¬LS g pv3 bv3 w3.heap.size):=hid (fun q=>by have:=H3.out.ls_lt _ q;omega)
 generalize w3.alloc (.cells #[.int .i64 rd,.int .i64 rt,.int .i64 rs,.int .i64 rm,.slice va N vc,.int .i64 re,.int .i64 rf,.int .i64 rl] 31)=W4 at HB4 HL kp ⊢
 generalize w3.heap.size=bP at HNP kp ⊢
 have HKP:=hid kp
 have HBG:Hid (Below g W4 W4):=hid (Below.refl _ _)
 clear hbp kp H3 HB3 HG3
 have hr:=HR.out
 obtain⟨A4,hA4⟩: ∃A4:Nat,adds % 4=(A4:Int):=⟨(adds % 4).toNat,by omega⟩
 have ewa:IntKind.i64.wrap adds=adds:=by rw[IntKind.wrap_i64];omega
 have hA4':A4<=3:=by omega
 have ha0:0<=adds:=hadd.1
 have ewat:IntKind.i64.wrap (rd+(N:Int))=rd+(N:Int):=by rw[IntKind.wrap_i64];omega
 have HADD:=hid (And.intro hadd (And.intro hdn hhw))
 clear hadd hdn hhw hr
 obtain⟨AT,hAT⟩: ∃AT,rd+(N:Int)=AT:=⟨_,rfl⟩
 rw[hAT] at ewat
 have hAT2:=hAT
 go_upto_region 4 with fail
 clear hAT2
 go_wp2
 go_loopw [15] (fun i wr=> ∃(k:Nat) (s:LedV) (pv bv:Value),k<=A4/\i= .int .i64 (k:Int)/\Hid (AddI rd view (9+k) s)/\Hid (HasL wr g g s pv bv)/\Hid (Below g W4 wr)/\Hid (HeapAt wr bP (.cells #[.int .i64 rd,.int .i64 rt,.int .i64 rs,.int .i64 rm,.slice va N vc,.int .i64 re,.int .i64 rf,.int .i64 rl] 31))/\Hid (¬LS g pv bv bP)) (fun i _=>A4 - (intOf i).toNat)
 case atStart=>exact⟨0,S,_,_,by omega,rfl,HAI,HL,HBG,HKP,HNP⟩
 case round=>
  obtain⟨k,s,pv,bv,hk,rfl,HS,HLs,HBs,HKs,HNs⟩:=hrel
  clear HL HBG HKP HNP HAI
  by_cases hlt:k<A4
  case pos=>
   have hk0:(k:Int)<(A4:Int):=by omega
   have d:decide ((k:Int)<(A4:Int))=true:=decide_eq_true hk0
   have z0:=cell_at HKs.out 0
   have z1:=cell_at HKs.out 1
   have z2:=cell_at HKs.out 2
   have z3:=cell_at HKs.out 3
   have z4:=cell_at HKs.out 4
   have z5:=cell_at HKs.out 5
   have z6:=cell_at HKs.out 6
   have z7:=cell_at HKs.out 7
   simp at z0 z1 z2 z3 z4 z5 z6 z7
   have CA:=hid (LAdd_any g g s AT rl (.slice none 0 0) [] pv bv wr HLs.out (RdX.nil _) (by have:=HS.out.len;omega) (by have:=HS.out.first;have:=HR.out.1;omega))
   unfold AddL at CA
   have HS2:=hid (HS.out.add AT rl [] (by simp))
   generalize addF s AT rl []=RA at CA HS2
   obtain⟨s2,r2⟩:=RA
   dsimp only at CA HS2
   go_wp2_with (go_at_call 9;refine CA.out.mono ?_;rintro e w5 ⟨rfl,hd⟩;have HB5:=hid (hd.below HLs.out HBs.out (Nat.le_refl _));obtain⟨pv5,bv5,h5,hc5,n5,m5⟩:=hd;have HL5:=hid h5;have HK5:=hid (hc5.at_ HKs.out HNs.out);have HN5:=hid (LS.next_ n5 m5 (get_ltB HKs.out) HNs.out);clear h5 hc5 n5 m5 z0 z1 z2 z3 z4 z5 z6 z7)
   go_roundw
   case rel=>exact⟨k+1,s2,pv5,bv5,by omega,by go_num,by rw[show 9+(k+1)=9+k+1 by omega];exact HS2,HL5,HB5,HK5,HN5⟩
   case measure=>simp [intOf];omega
  obtain rfl:k=A4:=by omega
  clear hlt hk
  obtain⟨wo,rfl⟩: ∃x,x=wr:=⟨_,rfl⟩
  have CW:=hid (fun W=>awake17_ok W)
  have CX:=hid (LNext_any g g s pv bv wo HLs.out)
  have hfs:0<=firstF s:=by have:=HS.out.first;have:=HR.out.1;unfold firstF;omega
  have HFS:=hid hfs
  clear hfs
  have CS:=hid (LSlots_any g g s rd pv bv wo HLs.out HFS.out HS.out.top (by have:=HR.out.1;omega) (by have:=HR.out.2.1;omega) HS.out.reqs)
  go_upto_region 9 with (go_at_call 8;refine CX.out.mono ?_;rintro e w5 ⟨rfl,rfl⟩)
  clear hA4' ha0 ewa hA4
  have z0:=cell_at HKs.out 0
  simp at z0
  go_upto_region 10 with (go_at_call 13;refine CS.out.mono ?_;rintro e w6 ⟨ma,mc,M,rfl,hM,hmo,hb6⟩;have HM:=hid hM;have HMO:=hid hmo;have HL6:=hid (HLs.out.later hb6);have HB6:=hid (HBs.out.trans (hb6.mono HLs.out.gle));have HK6:=hid (cells_later HKs.out hb6);have HWM:=hid hb6.size;clear hM hmo hb6 z0)
  clear CX CS HLs HBs HKs
  have z0:=cell_at HK6.out 0
  simp at z0
  obtain⟨hadd,hdn,hhw⟩:=HADD.out
  obtain⟨c,hc⟩: ∃c:Nat,done % 14=(c:Int):=⟨(done % 14).toNat,by omega⟩
  have hc14:c<14:=by omega
  have ewd:IntKind.i64.wrap done=done:=by rw[IntKind.wrap_i64];omega
  have ewc:IntKind.i64.wrap (rd+(c:Int))=rd+(c:Int):=by have:=HR.out.1;have:=HR.out.2.1;rw[IntKind.wrap_i64];omega
  have hd0:0<=done:=hdn.1
  obtain⟨q3,hq3⟩: ∃q3:Nat,how % 3=(q3:Int):=⟨(how % 3).toNat,by omega⟩
  have hq33:q3<3:=by omega
  have hh0:0<=how:=hhw.1
  have HV:=hid hv
  clear hadd hdn hhw hv
  go_upto_region 12 with fail
  clear z0 ewd ewc hd0 hc
  obtain⟨D,hD⟩: ∃D,rd+(c:Int)=D:=⟨_,rfl⟩
  have HD:=hid hD
  rw[hD]
  clear hD
  match q3,hq33,hq3 with
  | 0,_,hq3=>
   have hq0:how % 3=0:=hq3
   clear hq3 hh0
   have CST:=hid (LStop_any g g s pv bv w6 HL6.out)
   unfold StopL at CST
   rw[HS.out.n,HS.out.view] at CST
   go_upto_region 14 with (go_at_call 24;refine CST.out.mono ?_;rintro e w7 ⟨rfl,hd⟩;have HB7:=hid (hd.below HL6.out HB6.out (Nat.le_refl _));obtain⟨pv7,bv7,h7, -⟩:=hd;have HL7:=hid h7;clear h7)
   clear CST
   go_wp2_with fail
   go_at_call 21
   refine(LPhase_any g g (idleL 3 view) pv7 bv7 w7 HL7.out).mono ?_
   rintro e wq1 ⟨rfl,rfl⟩
   go_wp2_with fail
   go_at_call 8
   refine(LNext_any g g (idleL 3 view) pv7 bv7 w7 HL7.out).mono ?_
   rintro e wq2 ⟨rfl,rfl⟩
   have CSA:=hid (LSlots_any g g (idleL 3 view) 0 pv7 bv7 w7 HL7.out (by show(0:Int)<=0 - 0;decide) (by show(0:Int)<=2305843009213693962;decide) (by decide) (by decide) (fun b hb=>by cases hb))
   rw[show slotsF (idleL 3 view) 0= [] from rfl] at CSA
   go_wp2_with fail
   go_at_call 13
   refine CSA.out.mono ?_
   rintro e wsA ⟨saA,scA,GA,rfl,hGA, -,hsA⟩
   have hGA0:GA.length=0:=by have:=congrArg List.length hGA;rw[valsV_length] at this;exact this
   rw[hGA0]
   have HLsA:=hid (HL7.out.later hsA)
   have HBsA:=hid (HB7.out.trans (hsA.mono (HL7.out.gle)))
   clear hGA hGA0 CSA
   have CHA:=hid (LHeard_any g g (idleL 3 view) pv7 bv7 wsA HLsA.out)
   rw[show heardK ((idleL 3 view)).hd 7= [] from rfl] at CHA
   go_wp2_with fail
   go_at_call 22
   refine CHA.out.mono ?_
   rintro e whA ⟨haA,hcA,rfl, -,hhA⟩
   dsimp only[List.length_nil]
   have HLhA:=hid (HLsA.out.later hhA)
   have HBhA:=hid (HBsA.out.trans (hhA.mono (HLsA.out.gle)))
   clear CHA
   go_wp2_with fail
   go_at_call 16
   refine(CW.out _).mono ?_
   rintro e wz ⟨rfl,hz⟩
   have HBz:=hid (HBhA.out.trans (hz.mono (HLhA.out.gle)))
   clear hz
   go_wp2
   go_ret
   exact⟨by first | rfl | simp,HB4.out.trans (HBz.out.mono HGW.out)⟩
  | 1,_,hq3=>
   have hq1:how % 3=1:=hq3
   clear hq3 hh0
   have CB:=hid (LBegin_any g g s (view+1) pv bv w6 HL6.out)
   unfold BeginL beginF at CB
   rw[if_pos (show highF (view+1) 0=true by unfold highF;have:=HV.out;simp;omega),HS.out.n] at CB
   have ewv:IntKind.i64.wrap view=view:=by have:=HV.out;rw[IntKind.wrap_i64];omega
   have ewv1:IntKind.i64.wrap (view+1)=view+1:=by have:=HV.out;rw[IntKind.wrap_i64];omega
   go_upto_region 17 with (go_at_call 19;refine CB.out.mono ?_;rintro e w7 ⟨rfl,hd⟩;have HB7:=hid (hd.below HL6.out HB6.out (Nat.le_refl _));obtain⟨pv7,bv7,h7,hc7, -, -⟩:=hd;have HL7:=hid h7;have HK7:=hid (hc7.at_ HK6.out HNs.out);clear h7 hc7)
   clear CB
   have z0:=cell_at HK7.out 0
   simp at z0
   go_wp2_with fail
   go_at_call 21
   refine(LPhase_any g g (askL 3 (view+1)) pv7 bv7 w7 HL7.out).mono ?_
   rintro e wq1 ⟨rfl,rfl⟩
   go_wp2_with fail
   go_at_call 23
   refine(LView_any g g (askL 3 (view+1)) pv7 bv7 w7 HL7.out).mono ?_
   rintro e wq3 ⟨rfl,rfl⟩
   go_wp2_with fail
   go_at_call 8
   refine(LNext_any g g (askL 3 (view+1)) pv7 bv7 w7 HL7.out).mono ?_
   rintro e wq2 ⟨rfl,rfl⟩
   have CSA:=hid (LSlots_any g g (askL 3 (view+1)) rd pv7 bv7 w7 HL7.out (by show(0:Int)<=0 - 0;decide) (by show(0:Int)<=2305843009213693962;decide) (by have:=HR.out.1;omega) (by have:=HR.out.2.1;omega) (fun b hb=>by cases hb))
   rw[show slotsF (askL 3 (view+1)) rd= [] from(by unfold slotsF;rw[if_pos (show(askL 3 (view+1)).next <=rd from HR.out.1)])] at CSA
   go_wp2_with fail
   go_at_call 13
   refine CSA.out.mono ?_
   rintro e wsA ⟨saA,scA,GA,rfl,hGA, -,hsA⟩
   have hGA0:GA.length=0:=by have:=congrArg List.length hGA;rw[valsV_length] at this;exact this
   rw[hGA0]
   have HLsA:=hid (HL7.out.later hsA)
   have HBsA:=hid (HB7.out.trans (hsA.mono (HL7.out.gle)))
   clear hGA hGA0 CSA
   have CHA:=hid (LHeard_any g g (askL 3 (view+1)) pv7 bv7 wsA HLsA.out)
   rw[show heardK ((askL 3 (view+1))).hd 7= [] from rfl] at CHA
   go_wp2_with fail
   go_at_call 22
   refine CHA.out.mono ?_
   rintro e whA ⟨haA,hcA,rfl, -,hhA⟩
   dsimp only[List.length_nil]
   have HLhA:=hid (HLsA.out.later hhA)
   have HBhA:=hid (HBsA.out.trans (hhA.mono (HLsA.out.gle)))
   clear CHA
   go_wp2_with fail
   go_at_call 16
   refine(CW.out _).mono ?_
   rintro e wz ⟨rfl,hz⟩
   have HBz:=hid (HBhA.out.trans (hz.mono (HLhA.out.gle)))
   clear hz
   go_wp2
   go_ret
   exact⟨by first | rfl | simp,HB4.out.trans (HBz.out.mono HGW.out)⟩
  | 2,_,hq3=>
   have hq2:how % 3=2:=hq3
   clear hq3 hh0
   have hrd:=HR.out
   have hDb:0<=D/\D<100:=by have:=HD.out;omega
   have CT:=hid (LTrim_any g g s D pv bv w6 HL6.out HFS.out HS.out.top (by omega) (by omega))
   unfold TrimL at CT
   by_cases hge:s.next<=D
   ·have d:decide (s.next<=D)=true:=decide_eq_true hge
    rw[show trimF2 s D=idleL 3 view from by unfold trimF2;rw[if_pos HS.out.ph,if_pos hge,HS.out.n,HS.out.view]] at CT
    have HDB:=hid hDb
    clear hge hrd hDb
    go_upto_region 20 with (go_at_call 25;refine CT.out.mono ?_;rintro e w7 ⟨rfl,hd⟩;have HB7:=hid (hd.below HL6.out HB6.out (Nat.le_refl _));obtain⟨pv7,bv7,h7, -⟩:=hd;have HL7:=hid h7;clear h7)
    go_wp2_with fail
    go_at_call 21
    refine(LPhase_any g g (idleL 3 view) pv7 bv7 w7 HL7.out).mono ?_
    rintro e wq1 ⟨rfl,rfl⟩
    go_wp2_with fail
    go_at_call 8
    refine(LNext_any g g (idleL 3 view) pv7 bv7 w7 HL7.out).mono ?_
    rintro e wq2 ⟨rfl,rfl⟩
    have CSA:=hid (LSlots_any g g (idleL 3 view) D pv7 bv7 w7 HL7.out (by show(0:Int)<=0 - 0;decide) (by show(0:Int)<=2305843009213693962;decide) (by have:=HDB.out;omega) (by have:=HDB.out;omega) (fun b hb=>by cases hb))
    rw[show slotsF (idleL 3 view) D= [] from(by unfold slotsF;rw[if_pos (show(idleL 3 view).next <=D from HDB.out.1)])] at CSA
    go_wp2_with fail
    go_at_call 13
    refine CSA.out.mono ?_
    rintro e wsA ⟨saA,scA,GA,rfl,hGA, -,hsA⟩
    have hGA0:GA.length=0:=by have:=congrArg List.length hGA;rw[valsV_length] at this;exact this
    rw[hGA0]
    have HLsA:=hid (HL7.out.later hsA)
    have HBsA:=hid (HB7.out.trans (hsA.mono (HL7.out.gle)))
    clear hGA hGA0 CSA
    go_wp2_with fail
    go_at_call 16
    refine(CW.out _).mono ?_
    rintro e wz ⟨rfl,hz⟩
    have HBz:=hid (HBsA.out.trans (hz.mono (HLsA.out.gle)))
    clear hz
    go_wp2
    go_ret
    exact⟨by first | rfl | simp,HB4.out.trans (HBz.out.mono HGW.out)⟩
   have d:decide (s.next<=D)=false:=decide_eq_false hge
   obtain⟨tph,tnx,tfi,trq,tsl⟩:=HS.out.trim (c:=c) (by have:=HD.out;omega)
   rw[HD.out] at tph tnx tfi trq tsl
   rw[HS.out.was] at tsl HM
   obtain⟨ST,hST⟩: ∃ST,trimF2 s D=ST:=⟨_,rfl⟩
   rw[hST] at tph tnx tfi trq tsl CT
   clear hST
   have HTP:=hid tph
   have HTN:=hid tnx
   have HTF:Hid (0<=firstF ST):=hid (by have:=HR.out.1;omega)
   have HTR:=hid trq
   have HTS:=hid tsl
   have HDB:=hid hDb
   have HGE:=hid hge
   clear tph tnx tfi trq tsl hge hDb hrd
   go_upto_region 21 with (go_at_call 25;refine CT.out.mono ?_;rintro e w7 ⟨rfl,hd⟩;have HB7:=hid (hd.below HL6.out HB6.out (Nat.le_refl _));obtain⟨pv7,bv7,h7,hc7, -, -⟩:=hd;have HL7:=hid h7;have HK7:=hid (hc7.at_ HK6.out HNs.out);have HMO7:=hid (OwnV.did hc7 HL6.out HMO.out);clear h7 hc7)
   clear CT HL6 HB6 HK6 HMO HNs d
   have z0:=cell_at HK7.out 0
   simp at z0
   have CS2:=hid (LSlots_any g g ST rd pv7 bv7 w7 HL7.out HTF.out (by rw[HTN.out];exact HS.out.top) (by have:=HR.out.1;omega) (by have:=HR.out.2.1;omega) HTR.out)
   rw[HTS.out] at CS2
   go_upto_region 22 with (go_at_call 13;refine CS2.out.mono ?_;rintro e w8 ⟨ga,gc,G,rfl,hG,hgo,hb8⟩;have HG:=hid hG;have HGO:=hid hgo;have HL8:=hid (HL7.out.later hb8);have HB8:=hid (HB7.out.trans (hb8.mono HL7.out.gle));have HMO8:=hid (HMO7.out.later hb8);clear hG hgo hb8 z0)
   clear CS2 HL7 HB7 HK7 HMO7
   have HGL:Hid (G.length=M.length - c):=hid (by
    have h1:=congrArg List.length HG.out
    have h2:=congrArg List.length HM.out
    rw[valsV_length] at h1 h2
    rw[List.length_drop] at h1
    omega)
   have HMS:Hid (∀(i:Nat) (h:i<M.length),M[i].slot =rd+1+(i:Int)):=hid (fun i h=>by
    have h2:=congrArg List.length HM.out
    rw[valsV_length,votesAt_length] at h2
    have h3:=votesAt_get view (s.bats.take 3) (rd+1) i (by omega)
    rw[<-HM.out,List.getElem?_eq_getElem (by rw[valsV_length];exact h),valsV_get M i h] at h3
    injection h3 with h3
    have:=congrArg VoteV.slot h3
    exact this)
   have HGM:Hid (∀(k:Nat) (h:k<G.length) (h':c+k<M.length),G[k].val =M[c+k].val):=hid (fun k h h'=>by
    have h1:(valsV G)[k]?=(valsV M)[c+k]?:=by rw[HG.out,HM.out,List.getElem?_drop]
    rw[List.getElem?_eq_getElem (by rw[valsV_length];exact h),List.getElem?_eq_getElem (by rw[valsV_length];exact h'),valsV_get G k h,valsV_get M _ h'] at h1
    injection h1)
   obtain⟨ML,hML⟩: ∃ML,M.length=ML:=⟨_,rfl⟩
   have HML:=hid hML
   have HM3:Hid (ML<=3):=hid (by
    have h2:=congrArg List.length HM.out
    rw[valsV_length,votesAt_length,List.length_take] at h2
    omega)
   rw[hML] at HGL HMO8 ⊢
   clear hML
   obtain⟨GL,hGL⟩: ∃GL,G.length=GL:=⟨_,rfl⟩
   have HGN:=hid hGL
   rw[hGL] at HGL HGO ⊢
   clear hGL
   go_upto_region 24 with fail
   go_wp2
   go_loopw [21,22] (fun kk ii wr=> ∃i:Nat,i<=ML/\ii= .int .i64 (i:Int)/\kk= .int .i64 ((i - c:Nat):Int)/\Hid (Below w8.heap.size w8 wr)) (fun _ ii _=>ML - (intOf ii).toNat)
   case atStart=>exact⟨0,by omega,rfl,by simp,hid (Below.refl _ _)⟩
   case round=>
    obtain⟨i,hi,rfl,rfl,HBr⟩:=hrel
    obtain⟨k,hk⟩: ∃k,i - c=k:=⟨_,rfl⟩
    rw[hk]
    by_cases hlt:i<ML
    case neg=>
     obtain rfl:i=ML:=by omega
     have hkg:k=GL:=by have:=HGL.out;omega
     subst hkg
     have HLr:=hid (HL8.out.later HBr.out)
     have HBB:=hid (HB8.out.trans (HBr.out.mono HL8.out.gle))
     clear hk hi hlt
     obtain⟨wv,rfl⟩: ∃x,x=wr:=⟨_,rfl⟩
     have CPh:=hid (LPhase_any g g ST pv7 bv7 wv HLr.out)
     rw[HTP.out] at CPh
     have CNx:=hid (LNext_any g g ST pv7 bv7 wv HLr.out)
     rw[HTN.out] at CNx
     go_wp2_with fail
     go_at_call 21
     refine CPh.out.mono ?_
     rintro e wq1 ⟨rfl,rfl⟩
     go_wp2_with fail
     go_at_call 8
     refine CNx.out.mono ?_
     rintro e wq2 ⟨rfl,rfl⟩
     go_wp2_with fail
     go_at_call 16
     refine(CW.out _).mono ?_
     rintro e wz ⟨rfl,hz⟩
     have HBz:=hid (HBB.out.trans (hz.mono HLr.out.gle))
     clear hz
     go_wp2
     go_ret
     exact⟨by first | rfl | simp,HB4.out.trans (HBz.out.mono HGW.out)⟩
    have hil:i<M.length:=by rw[HML.out];exact hlt
    have hj0:(0:Int)<=(i:Int):=by omega
    have hj1:(i:Int)<(ML:Int):=by omega
    have hmr:=HMO8.out.row
    obtain⟨mb,rfl, -⟩:=own_some (by have:=HMO8.out.row;rw[HML.out] at this;exact this) (by omega:0<ML)
    obtain⟨b',o',hbo,hcl⟩:=rdv_at (RdX.own cellsV_length hmr) i hil
    cases hbo
    obtain⟨q0, -⟩:=hcl _ HBr.out
    rw[Nat.zero_add,HMS.out i hil] at q0
    clear hcl hmr
    have hi3:i<3:=by have:=HM3.out;omega
    have k3:IntKind.i64.wrap ((i:Int)+1)=(i:Int)+1:=by rw[IntKind.wrap_i64];omega
    by_cases hci:c<=i
    case neg=>
     have hk0:k=0:=by omega
     subst hk0
     have d:decide (D<rd+1+(i:Int))=false:=decide_eq_false (by have:=HD.out;omega)
     have hk1:i+1 - c=0:=by omega
     clear hk hci
     go_wp2
     go_roundw
     case rel=>exact⟨i+1,by omega,by go_num,by rw[hk1],HBr⟩
     case measure=>simp [intOf];omega
    have d:decide (D<rd+1+(i:Int))=true:=decide_eq_true (by have:=HD.out;omega)
    have hkg:k<G.length:=by have h1:=HGL.out;have h2:=HGN.out;omega
    have hkgl:k<GL:=by have h1:=HGL.out;omega
    obtain⟨gb,rfl, -⟩:=own_some (by have:=HGO.out.row;rw[HGN.out] at this;exact this) (by omega:0<GL)
    have hck:c+k=i:=by omega
    have HEQ:Hid (G[k].val =M[i].val):=hid (by
     have:=HGM.out k hkg (by rw[hck];exact hil)
     rw[this]
     congr 1
     simp only[hck])
    have hk1:i+1 - c=k+1:=by omega
    have hk0:(0:Int)<=(k:Int):=by omega
    have hkG:(k:Int)<(GL:Int):=by omega
    have k4:IntKind.i64.wrap ((k:Int)+1)=(k:Int)+1:=by rw[IntKind.wrap_i64];omega
    have hcM:=(RdX.cap (l:=M) (RdX.own cellsV_length (by have:=HMO8.out.row;rw[HML.out] at this ⊢;exact this):RdX 8 cellsV w8 (.slice (some ⟨mb,0,none⟩) ML mc) M))
    have hcG:=(RdX.cap (l:=G) (RdX.own cellsV_length (by have:=HGO.out.row;rw[HGN.out] at this ⊢;exact this):RdX 8 cellsV w8 (.slice (some ⟨gb,0,none⟩) GL gc) G))
    rw[HML.out] at hcM
    rw[HGN.out] at hcG
    unfold maxLen at hcM hcG
    obtain⟨hcM1,hcM2⟩:=hcM
    obtain⟨hcG1,hcG2⟩:=hcG
    have HS1:=hid (fun(c1:Nat) (h1:1<=c1) (h2:c1<=maxLen)=>RdV.sub1 (show RdV w8 (.slice (some ⟨mb,0,none⟩) ML mc) M from⟨RdX.own cellsV_length (by have:=HMO8.out.row;rw[HML.out] at this ⊢;exact this),fun x hx=>(HMO8.out.reqs x hx).rd⟩) i hil c1 h1 h2)
    have HS2:=hid (fun(c1:Nat) (h1:1<=c1) (h2:c1<=maxLen)=>RdV.sub1 (show RdV w8 (.slice (some ⟨gb,0,none⟩) GL gc) G from⟨RdX.own cellsV_length (by have:=HGO.out.row;rw[HGN.out] at this ⊢;exact this),fun x hx=>(HGO.out.reqs x hx).rd⟩) k hkg c1 h1 h2)
    simp only[Nat.zero_add] at HS1 HS2
    have CSV:=hid (fun(c1 c2:Nat) (W:World) (h1:RdV W (.slice (some ⟨gb,k*8,none⟩) 1 c1) [G[k]]) (h2:RdV W (.slice (some ⟨mb,i*8,none⟩) 1 c2) [M[i]])=>SameVotes_any (.slice (some ⟨gb,k*8,none⟩) 1 c1) (.slice (some ⟨mb,i*8,none⟩) 1 c2) [G[k]] [M[i]] W h1 h2)
    have HSV:Hid (sameVs (valsV [G[k]]) (valsV [M[i]])=true):=hid (by
     rw[show valsV [G[k]]= [G[k].val] from rfl,show valsV [M[i]]= [M[i].val] from rfl,HEQ.out]
     exact sameVs_refl _)
    rw[HSV.out] at CSV
    have dk1:decide ((GL:Int)<=(k:Int))=false:=decide_eq_false (by omega)
    have dk2: ¬GL<=k:=by omega
    generalize G[k]=gx at*
    generalize M[i]=mx at*
    go_upto_region 27 with fail
    clear q0 d hci hck hk
    refine wp_region_quiet_below (by kernel_rfl) (by kernel_rfl) ?_
    try simp only[List.append_eq,List.cons_append,List.nil_append]
    have D1:=hid (fun d os=>Calls.regrown_of (w:=wr) (d:=d) (os:=os) (CSV.out (gc - k) (mc - i) _ ((HS2.out (gc - k) (by omega) (by unfold maxLen;omega)).later (step HBr.out (below_regrown wr d os))) ((HS1.out (mc - i) (by omega) (by unfold maxLen;omega)).later (step HBr.out (below_regrown wr d os)))))
    clear CSV HS1 HS2
    repeat (go_big_quiet_step (fail))
    go_big_quiet_step (exact D1.out _ _)
    repeat (go_big_quiet_step (fail))
    refine wpQuiet_nil ?_
    intro _ hw'
    obtain⟨⟨dq,osq⟩,hw2⟩:=hw'
    subst hw2
    have HBN:=hid (step HBr.out (below_regrown wr dq osq))
    clear D1
    go_wp2
    go_roundw
    case rel=>exact⟨i+1,by omega,by go_num,by rw[hk1];go_num,HBN⟩
    case measure=>simp [intOf];omega
end Ld
end Go.Proofs.Ytbpmfjjbfiiiaaa
