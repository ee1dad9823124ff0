/- Texts laid together by program. -/
import Derived.Test.YtbpmfjjbfiiiaaaQT7
import Derived.Lib.QuietBelow
/- LeadRefuses of layer 17, as a contract. -/
set_option linter.unusedVariables false
set_option maxRecDepth 8000
set_option linter.unusedSimpArgs false
namespace Go.Proofs.Ytbpmfjjbfiiiaaa
open Lib (hid)
open Go.RowKit
namespace Ld
open Cm Ac Pl Vw

theorem toldL {w w':World} {x:ToldC} (h:ToldOk w x) (hb:Below w.heap.size w w'):ToldOk w' x:=⟨h.d,h.v,h.s,h.t,h.rd.later hb⟩
theorem add_no {s:LedV} {d t:Int} {rs:List ReqV} (h2:s.ph=2) (h:mayB (batL s t rs)=false):addF s d t rs=(s,0,1):=by
 unfold addF
 rw[if_pos h2,if_neg (fun q=>by rw[h] at q;cases q.2)]
theorem add_done {s:LedV} {d t:Int} {rs:List ReqV} (h2:s.ph=2) (h:highF d 0=false):addF s d t rs=(s,0,1):=by
 unfold addF
 rw[if_pos h2,if_neg (fun q=>by rw[h] at q;cases q.1)]
theorem may_time (s:LedV) (rs:List ReqV):mayB (batL s (-1) rs)=false:=by
 unfold mayB batL highF
 simp
theorem may_twins (s:LedV) (t:Int) (r:ReqV):mayB (batL s t [r,r])=false:=by
 have h:reqsF [r,r]=false:=by
  unfold reqsF okR okR
  simp [hasC]
 unfold mayB batL
 dsimp only
 rw[h]
 simp
theorem may_seq (s:LedV) (t:Int) (c:Int) (k:CmdV):mayB (batL s t [⟨c,0,k⟩])=false:=by
 have h:reqsF [⟨c,0,k⟩]=false:=by
  unfold reqsF okR mayR highF
  simp
 unfold mayB batL
 dsimp only
 rw[h]
 simp
theorem hear_bad (bad:Int):(hearF (askL 3 0) ⟨bad,1,0,0,0,[]⟩).2=(false,if 0<=bad/\bad<3 then 0 else 1):=by
 by_cases h:0<=bad/\bad<3
 ·rw[if_pos h]
  have hm:mayP ⟨bad,1,0,0,0,[]⟩=true:=by
   unfold mayP headP highF mayVs
   simp
   omega
  have hk:hb (askL 3 0).hd bad.toNat=false:=by
   obtain⟨k,hk⟩: ∃k:Nat,bad=(k:Int):=⟨bad.toNat,by omega⟩
   subst hk
   have:k<3:=by omega
   match k,this with
   | 0,_=>rfl
   | 1,_=>rfl
   | 2,_=>rfl
  rw[hear_few rfl hm (show bad<3 from h.2) hk (by show((0+1:Nat):Int)<quorumF 3;decide)]
 ·rw[if_neg h]
  unfold hearF
  rw[if_pos (show(askL 3 0).ph =1 from rfl)]
  rw[if_neg (fun q=>h (by
   have ho:=mayP_ok q.1
   exact⟨ho.w0,q.2⟩))]
theorem p0_any (w:World):Calls Try.prog 28 #[] w (fun e w'=>e= .returned (.agg #[.int .i64 0,.int .i64 0,.int .i64 0,.int .i64 0,.int .i64 0,.slice none 0 0])/\Below w.heap.size w w'):=by
 have hb:=newAlloc w (.cells #[.int .i64 0,.int .i64 0,.int .i64 0,.int .i64 0,.int .i64 0,.slice none 0 0] 59)
 have k:=alloc_atB w (.cells #[.int .i64 0,.int .i64 0,.int .i64 0,.int .i64 0,.int .i64 0,.slice none 0 0] 59) _ rfl
 obtain⟨W1,hW1⟩: ∃W1,W1=w.alloc (.cells #[.int .i64 0,.int .i64 0,.int .i64 0,.int .i64 0,.int .i64 0,.slice none 0 0] 59):=⟨_,rfl⟩
 rw[<-hW1] at hb k
 have HBF:=hid ((((((hb.setCell (p:=⟨w.heap.size,0,none⟩) (Nat.le_refl _) (.int .i64 0)).setCell (p:=⟨w.heap.size,1,none⟩) (Nat.le_refl _) (.int .i64 0)).setCell (p:=⟨w.heap.size,2,none⟩) (Nat.le_refl _) (.int .i64 0)).setCell (p:=⟨w.heap.size,3,none⟩) (Nat.le_refl _) (.int .i64 0)).setCell (p:=⟨w.heap.size,4,none⟩) (Nat.le_refl _) (.int .i64 0)).setCell (p:=⟨w.heap.size,5,none⟩) (Nat.le_refl _) (.slice none 0 0))
 have e0:=cell_at k 0
 have e1:=cell_at k 1
 have e2:=cell_at k 2
 have e3:=cell_at k 3
 have e4:=cell_at k 4
 have e5:=cell_at k 5
 have ef:=frozen_at k
 simp at e0 e1 e2 e3 e4 e5
 clear hb k
 go_enter Try.func28,Try.ntmps28
 go_upto_region 1 with fail
 rw[<-hW1]
 clear hW1
 go_wp2
 refine bodyPost_ret (by simp [results,Try.results28,go_sem,e0,e1,e2,e3,e4,e5]<;>rfl) rfl ⟨rfl,HBF.out⟩
set_option maxHeartbeats 16000000 in
theorem Refuses17_any (view n bad:Int) (ta tb:ToldC) (w:World) (hv:0<=view/\view<256) (hn:0<=n/\n<256) (ha:ToldOk w ta) (hb:ToldOk w tb):
  Calls Try.prog 6 #[.int .u8 view,toldV ta,toldV tb,.int .u8 n,.int .i64 bad] w (SaysB true w):=by
 have HMA:Hid (mayP (promN 0 ta.val)=true):=hid (promN_may (k:=0) (by omega) (told_okC ha))
 have HMB:Hid (mayP (promN 2 tb.val)=true):=hid (promN_may (k:=2) (by omega) (told_okC hb))
 have HMK:Hid (MakeOk [promN 0 ta.val,promN 2 tb.val]):=hid (make_ok (okS_snoc (l:= [promN 0 ta.val]) (okS_snoc (l:= []) rfl HMA.out (fun q hq=>by cases hq)) HMB.out (fun q hq=>by rw[List.mem_singleton] at hq;rw[hq];show(0:Int)≠2;decide)) (by simp))
 have CL:=hid (fun W (h:Below w.heap.size w W)=>led_any view ta tb W hv (toldL ha h) (toldL hb h))
 generalize promN 0 ta.val=PA at CL HMK
 generalize promN 2 tb.val=PQ at CL HMK
 clear ha hb HMA HMB
 obtain⟨N0,rfl⟩: ∃N0:Nat,n=(N0:Int):=⟨n.toNat,by omega⟩
 have hN0:N0<256:=by omega
 obtain⟨ad,aw,as_,am,al,aa,ac⟩:=ta
 obtain⟨bd,bw,bs,bm,bl,ba,bc⟩:=tb
 unfold toldV ToldC.u at CL
 unfold toldV ToldC.u
 dsimp only at CL ⊢
 generalize al.length=an at CL ⊢
 generalize bl.length=bn at CL ⊢
 have hb2:=stepAlloc (newAlloc w (.cells #[.int .u8 ad,.int .u8 aw,.int .u8 as_,.int .u8 am,.slice aa an ac] 24)) (.cells #[.int .u8 bd,.int .u8 bw,.int .u8 bs,.int .u8 bm,.slice ba bn bc] 24)
 have ka:=cells_later (alloc_atB w (.cells #[.int .u8 ad,.int .u8 aw,.int .u8 as_,.int .u8 am,.slice aa an ac] 24) _ rfl) (newAlloc _ (.cells #[.int .u8 bd,.int .u8 bw,.int .u8 bs,.int .u8 bm,.slice ba bn bc] 24))
 have kb:=alloc_atB (w.alloc (.cells #[.int .u8 ad,.int .u8 aw,.int .u8 as_,.int .u8 am,.slice aa an ac] 24)) (.cells #[.int .u8 bd,.int .u8 bw,.int .u8 bs,.int .u8 bm,.slice ba bn bc] 24) (w.heap.size+1) (by simp)
 go_enter Try.func6,Try.ntmps6
 go_upto_region 1 with fail
 generalize (w.alloc (.cells #[.int .u8 ad,.int .u8 aw,.int .u8 as_,.int .u8 am,.slice aa an ac] 24)).alloc (.cells #[.int .u8 bd,.int .u8 bw,.int .u8 bs,.int .u8 bm,.slice ba bn bc] 24)=W2 at hb2 ka kb ⊢
 have HB2:=hid hb2
 have x0:=cell_at ka 0
 have x1:=cell_at ka 1
 have x2:=cell_at ka 2
 have x3:=cell_at ka 3
 have x4:=cell_at ka 4
 have y0:=cell_at kb 0
 have y1:=cell_at kb 1
 have y2:=cell_at kb 2
 have y3:=cell_at kb 3
 have y4:=cell_at kb 4
 simp at x0 x1 x2 x3 x4 y0 y1 y2 y3 y4
 have CL2:=hid (CL.out W2 hb2)
 clear hb2 ka kb CL
 unfold LedG at CL2
 have HD0:=hid HMK.out.d0
 have HD1:=hid HMK.out.d1
 have HL9:=hid HMK.out.l9
 obtain⟨RR,hRR⟩: ∃RR,makeF [PA,PQ]=RR:=⟨_,rfl⟩
 have HRR:=hid hRR
 rw[hRR] at CL2 HD0 HD1 HL9
 have HST:Hid ((ledS view PA PQ).ph =2/\(ledS view PA PQ).bats =RR.1.bats/\(ledS view PA PQ).next =RR.1.done+1+(RR.1.bats.length:Int)):=hid (by
  unfold ledS takeF
  rw[show(markF (markF (askL 3 view) PA) PQ).ps = [PA,PQ] from rfl,hRR]
  exact⟨rfl,rfl,rfl⟩)
 clear hRR HRR HMK
 obtain⟨S,hS⟩: ∃S,ledS view PA PQ=S:=⟨_,rfl⟩
 rw[hS] at CL2 HST
 clear hS
 obtain⟨⟨rd,rt,rs,rm,rb,re,rf,rl⟩,rc⟩:=RR
 unfold planVal at CL2
 dsimp only at CL2 HST HD0 HD1 HL9
 go_upto_region 2 with (go_at_call 7;refine CL2.out.mono ?_;rintro e w3 ⟨g,pv3,bv3,va,vc,Lb,rfl,hvb, -, -,h3,hb3,hg3⟩;have HVB:Hid (Lb.length=rb.length):=hid (by rw[<-hvb,valsB_length]);have H3:=hid h3;have HB3:=hid hb3;have HG3:=hid hg3;rw[HVB.out];clear hvb h3 hb3 hg3 x0 x1 x2 x3 x4 y0 y1 y2 y3 y4)
 obtain⟨N,hN⟩: ∃N,rb.length=N:=⟨_,rfl⟩
 rw[hN] at HST HL9 ⊢
 clear CL2
 have HNN:=hid hN
 clear hN
 have hbp:=newAlloc w3 (.cells #[.int .i64 rd,.int .i64 rt,.int .i64 rs,.int .i64 rm,.slice va N vc,.int .i64 re,.int .i64 rf,.int .i64 rl] 31)
 have kp:=alloc_atB w3 (.cells #[.int .i64 rd,.int .i64 rt,.int .i64 rs,.int .i64 rm,.slice va N vc,.int .i64 re,.int .i64 rf,.int .i64 rl] 31) _ rfl
 have HB4:=hid (step (step HB2.out HB3.out) hbp)
 have HL_W4:=hid (H3.out.later hbp)
 generalize w3.alloc (.cells #[.int .i64 rd,.int .i64 rt,.int .i64 rs,.int .i64 rm,.slice va N vc,.int .i64 re,.int .i64 rf,.int .i64 rl] 31)=W4 at HB4 HL_W4 kp ⊢
 generalize w3.heap.size=b12 at kp ⊢
 have z0:=cell_at kp 0
 have z1:=cell_at kp 1
 have z2:=cell_at kp 2
 have z3:=cell_at kp 3
 have z4:=cell_at kp 4
 have z5:=cell_at kp 5
 have z6:=cell_at kp 6
 have z7:=cell_at kp 7
 simp at z0 z1 z2 z3 z4 z5 z6 z7
 have HS2:=hid HST.out.1
 have HSN:Hid (S.next=rd+1+(N:Int)):=hid HST.out.2.2
 have HBL:Hid (S.bats.length<=1000):=hid (by rw[HST.out.2.1,HNN.out];have:=HL9.out;omega)
 have HX0:Hid (0<=S.next):=hid (by rw[HSN.out];have:=HD0.out;omega)
 have hd0:=HD0.out
 have hd1:=HD1.out
 have hl9:=HL9.out
 have ew:IntKind.i64.wrap (rd+(N:Int))=rd+(N:Int):=by rw[IntKind.wrap_i64];omega
 clear hbp kp hd0 hd1 hl9 HD0 HD1 HL9 HST H3 HB3
 go_upto_region 5 with fail
 clear z0 z1 z2 z3 z4 z5 z6 z7 ew
 obtain⟨AT,hAT⟩: ∃AT,rd+(N:Int)=AT:=⟨_,rfl⟩
 rw[hAT]
 clear hAT
 have HB_W4:Hid (Below g W4 W4):=hid (Below.refl _ _)
 have HGE:Hid (g<=g):=hid (Nat.le_refl _)
 obtain⟨g0,hg0⟩: ∃x,x=g:=⟨_,rfl⟩
 obtain⟨W0,hW0⟩: ∃x,x=W4:=⟨_,rfl⟩
 have HB_W4:Hid (Below g0 W0 W4):=hid (by rw[hW0];exact Below.refl _ _)
 have HGE:Hid (g0<=g):=hid (by rw[hg0];exact Nat.le_refl _)
 have HG0:Hid (w.heap.size<=g0):=hid (by rw[hg0];have:=HG3.out;have:=HB2.out.size;omega)
 have HB0:Hid (Below w.heap.size w W0):=hid (by rw[hW0];exact HB4.out)
 clear hg0 hW0 HB4 HG3
 have CX:=hid (LNext_any g g S pv3 bv3 W4 HL_W4.out)
 go_upto_region 6 with (go_at_call 8;refine CX.out.mono ?_;rintro e w5 ⟨rfl,rfl⟩)
 clear CX
 have CA:=hid (fun W pv bv (h:HasL W g g S pv bv)=>LAdd_any g g S AT (-1) (.slice none 0 0) [] pv bv W h (RdX.nil _) HBL.out HX0.out)
 unfold AddL at CA
 rw[add_no HS2.out (may_time S [])] at CA
 go_upto_region 7 with ((go_at_call 9;refine(CA.out _ _ _ HL_W4.out).mono ?_;rintro e w6 ⟨rfl,hd⟩;have HB_w6:=hid (hd.below HL_W4.out (show Below g0 W0 W4 from HB_W4.out) HGE.out);obtain⟨pv6,bv6,h_, -⟩:=hd;have HL_w6:=hid h_;clear h_))
 have CA2:=hid (fun W pv bv (h:HasL W g g S pv bv)=>LAdd_any g g S (-1) 0 (.slice none 0 0) [] pv bv W h (RdX.nil _) HBL.out HX0.out)
 unfold AddL at CA2
 rw[add_done HS2.out (by decide)] at CA2
 clear CA
 go_upto_region 8 with ((go_at_call 9;refine(CA2.out _ _ _ HL_w6.out).mono ?_;rintro e w7 ⟨rfl,hd⟩;have HB_w7:=hid (hd.below HL_w6.out (show Below g0 W0 w6 from HB_w6.out) HGE.out);obtain⟨pv7,bv7,h_, -⟩:=hd;have HL_w7:=hid h_;clear h_))
 clear CA2
 have CR:=hid (fun W=>Req_any 1 N0 N0 N0 N0 W (by omega) hN0 hN0 hN0 hN0)
 unfold reqVal at CR
 obtain⟨RV,hRV⟩: ∃RV,reqOf 1 N0 N0 N0 N0=RV:=⟨_,rfl⟩
 rw[hRV] at CR
 clear hRV
 go_wp2_with fail
 go_at_call 27
 refine(CR.out _).mono ?_
 rintro e w8 ⟨rfl,hb8⟩
 have HL_w8:=hid (HL_w7.out.later hb8)
 have HB_w8:=hid (HB_w7.out.trans (hb8.mono (by have:=HL_w7.out.lt;have:=HGE.out;omega)))
 clear hb8
 go_wp2_with fail
 go_at_call 27
 refine(CR.out _).mono ?_
 rintro e w9 ⟨rfl,hb9⟩
 have HL_w9:=hid (HL_w8.out.later hb9)
 have HB_w9:=hid (HB_w8.out.trans (hb9.mono (by have:=HL_w8.out.lt;have:=HGE.out;omega)))
 clear hb9 CR
 have hbr:=newAlloc w9 (.cells #[.int .i64 RV.client,.int .i64 RV.seq,.int .i64 RV.cmd.kind,.int .i64 RV.cmd.session,.string (bstr RV.cmd.name),.int .i64 RV.client,.int .i64 RV.seq,.int .i64 RV.cmd.kind,.int .i64 RV.cmd.session,.string (bstr RV.cmd.name)] 71)
 have hlit:RdR (w9.alloc (.cells #[.int .i64 RV.client,.int .i64 RV.seq,.int .i64 RV.cmd.kind,.int .i64 RV.cmd.session,.string (bstr RV.cmd.name),.int .i64 RV.client,.int .i64 RV.seq,.int .i64 RV.cmd.kind,.int .i64 RV.cmd.session,.string (bstr RV.cmd.name)] 71)) (.slice (some ⟨w9.heap.size,0,none⟩) 2 2) [RV,RV]:=by
  have h:=World.ownsRow_lit (base:=w9.heap.size) (e:=71) (size:=5) w9 #[.int .i64 RV.client,.int .i64 RV.seq,.int .i64 RV.cmd.kind,.int .i64 RV.cmd.session,.string (bstr RV.cmd.name),.int .i64 RV.client,.int .i64 RV.seq,.int .i64 RV.cmd.kind,.int .i64 RV.cmd.session,.string (bstr RV.cmd.name)] 2 (Nat.le_refl _) (by unfold maxLen;omega) (by simp)
  exact RdX.own (l:= [RV,RV]) cellsR_length h
 have HL_V:=hid (HL_w9.out.later hbr)
 have HB_V:=hid (HB_w9.out.trans (hbr.mono (by have:=HL_w9.out.lt;have:=HGE.out;omega)))
 have CA3:=hid (LAdd_any g g S AT 0 _ [RV,RV] pv7 bv7 _ HL_V.out hlit HBL.out HX0.out)
 unfold AddL at CA3
 rw[add_no HS2.out (may_twins S 0 RV)] at CA3
 clear hbr hlit
 go_upto_region 9 with (go_at_call 9;refine CA3.out.mono ?_;rintro e w10 ⟨rfl,hd⟩;have HB_w10:=hid (hd.below HL_V.out HB_V.out HGE.out);obtain⟨pv10,bv10,h_, -⟩:=hd;have HL_w10:=hid h_;clear h_)
 clear CA3
 have hbr:=newAlloc w10 (.cells #[.int .i64 1,.int .i64 0,.int .i64 0,.int .i64 0,.string ⟨#[]⟩] 71)
 have hlit:RdR (w10.alloc (.cells #[.int .i64 1,.int .i64 0,.int .i64 0,.int .i64 0,.string ⟨#[]⟩] 71)) (.slice (some ⟨w10.heap.size,0,none⟩) 1 1) [(⟨1,0,⟨0,0,[]⟩⟩:ReqV)]:=by
  have h:=World.ownsRow_lit (base:=w10.heap.size) (e:=71) (size:=5) w10 #[.int .i64 1,.int .i64 0,.int .i64 0,.int .i64 0,.string ⟨#[]⟩] 1 (Nat.le_refl _) (by unfold maxLen;omega) (by simp)
  exact RdX.own (l:= [(⟨1,0,⟨0,0,[]⟩⟩:ReqV)]) cellsR_length h
 have HL_V:=hid (HL_w10.out.later hbr)
 have HB_V:=hid (HB_w10.out.trans (hbr.mono (by have:=HL_w10.out.lt;have:=HGE.out;omega)))
 have CA4:=hid (LAdd_any g g S AT 0 _ [(⟨1,0,⟨0,0,[]⟩⟩:ReqV)] pv10 bv10 _ HL_V.out hlit HBL.out HX0.out)
 unfold AddL at CA4
 rw[add_no HS2.out (may_seq S 0 1 ⟨0,0,[]⟩)] at CA4
 clear hbr hlit
 go_upto_region 10 with (go_at_call 9;refine CA4.out.mono ?_;rintro e w11 ⟨rfl,hd⟩;have HB_w11:=hid (hd.below HL_V.out HB_V.out HGE.out);obtain⟨pv11,bv11,h_, -⟩:=hd;have HL_w11:=hid h_;clear h_)
 clear CA4
 have hvb:highF (-1 - (N0:Int)) 0=false:=by unfold highF;simp;omega
 have CB:=hid (LBegin_any g g S (-1 - (N0:Int)) pv11 bv11 w11 HL_w11.out)
 unfold BeginL beginF at CB
 rw[hvb] at CB
 simp only[Bool.false_eq_true,if_false] at CB
 have ewn:IntKind.i64.wrap (N0:Int)=(N0:Int):=by rw[IntKind.wrap_i64];omega
 have ewm:IntKind.i64.wrap (-1 - (N0:Int))= -1 - (N0:Int):=by rw[IntKind.wrap_i64];omega
 clear hvb hN0 hn
 go_upto_region 11 with (go_at_call 19;refine CB.out.mono ?_;rintro e w12 ⟨rfl,hd⟩;have HB_w12:=hid (hd.below HL_w11.out HB_w11.out HGE.out);obtain⟨pv12,bv12,h_, -⟩:=hd;have HL_w12:=hid h_;clear h_)
 clear CB ewn ewm
 have CN:=hid (LNew_yes (n:=3) rfl w12)
 go_upto_region 12 with (go_at_call 17;refine CN.out.mono ?_;rintro e w13 ⟨rfl,h13,hb13⟩;have H13:=hid h13;have HBM:=hid hb13;clear h13 hb13)
 clear CN
 obtain⟨g2,hg2⟩: ∃x,w12.heap.size=x:=⟨_,rfl⟩
 rw[hg2] at H13 HBM ⊢
 have HG2:=hid hg2
 clear hg2
 have CB:=hid (LBegin_any g2 g2 (idleL 3 0) 0 _ _ w13 H13.out)
 unfold BeginL at CB
 rw[show beginF (idleL 3 0) 0=(askL 3 0,0) from rfl] at CB
 go_upto_region 14 with (go_at_call 19;refine CB.out.mono ?_;rintro e w14 ⟨rfl,hd⟩;have HBM14:=hid (hd.below H13.out (show Below g2 w12 w13 from HBM.out) (Nat.le_refl _));obtain⟨pv14,bv14,h_, -⟩:=hd;have H14:=hid h_;clear h_)
 clear CB H13 HBM
 have CH:=hid (LHear_any g2 g2 (askL 3 0) ⟨bad,1,0,0,0,[],none,0⟩ pv14 bv14 w14 H14.out (RdV.nil _) ⟨(fun k hk=>by cases hk),(fun x hx=>by cases hx)⟩ rfl (by show(3:Int)<=7;decide) rfl (fun q hq=>by cases hq) (by show(0:Nat)<=6;omega))
 unfold HearL at CH
 rw[show PromC.val ⟨bad,1,0,0,0,[],none,0⟩=⟨bad,1,0,0,0,[]⟩ from rfl] at CH
 have hbd:=hear_bad bad
 generalize hearF (askL 3 0) ⟨bad,1,0,0,0,[]⟩=RB at CH hbd
 obtain⟨sB,rB⟩:=RB
 dsimp only at hbd CH
 subst hbd
 unfold promVal PromC.u at CH
 dsimp only[List.length_nil] at CH
 obtain⟨JJ,hJJ⟩: ∃JJ:Int,(if 0<=bad/\bad<3 then 0 else 1)=JJ:=⟨_,rfl⟩
 rw[hJJ] at CH
 have HJJ:=hid hJJ
 clear hJJ
 go_upto_region 15 with (go_at_call 18;refine CH.out.mono ?_;rintro e w15 ⟨rfl,hd⟩;have HBM15:=hid (hd.below H14.out HBM14.out (Nat.le_refl _));clear hd)
 clear CH
 have HL_w15:=hid (HL_w12.out.later (by have:=HBM15.out;rw[<-HG2.out] at this;exact this))
 have HB_w15:=hid (HB_w12.out.trans (HBM15.out.mono (by have:=HL_w12.out.lt;have:=HGE.out;have:=HG2.out;omega)))
 clear HL_W4 HL_V HB_V HL_w6 HL_w7 HL_w8 HL_w9 HL_w10 HL_w11 HL_w12 HB_W4 HB_w6 HB_w7 HB_w8 HB_w9 HB_w10 HB_w11 HB_w12 HBM14 HBM15 H14 HG2 HBL HX0 HSN HS2
 have CTr:=hid (fun W=>LTrim_nil 1 W)
 have CSt:=hid (fun W=>LStop_nil W)
 have CP0:=hid (fun W=>p0_any W)
 have CHn:=hid (fun W=>LHear_nil ⟨0,0,0,0,0,[],none,0⟩ W)
 unfold promVal PromC.u at CHn
 dsimp only[List.length_nil] at CHn
 have CAn:=hid (fun W=>LAdd_nil 0 0 (.slice none 0 0) W)
 have CLn:=hid (fun W=>LLast_nil W)
 have CBn:=hid (fun W=>LBegin_nil 1 W)
 have CW:=hid (fun W=>awake17_ok W)
 go_upto_region 17 with (go_at_call 25;refine(CTr.out _).mono ?_;rintro e w16 ⟨rfl,hw16⟩;rw[hw16];clear hw16)
 go_upto_region 18 with (go_at_call 24;refine(CSt.out _).mono ?_;rintro e w17 ⟨rfl,hw17⟩;rw[hw17];clear hw17)
 go_wp2_with fail
 go_at_call 28
 refine(CP0.out _).mono ?_
 rintro e w18 ⟨rfl,hb18⟩
 have HB18:=hid (step (HB0.out.trans (HB_w15.out.mono HG0.out)) hb18)
 have HL18:=hid (HL_w15.out.later hb18)
 clear hb18
 go_upto_region 19 with (go_at_call 18;refine(CHn.out _).mono ?_;rintro e w19 ⟨rfl,hb19⟩;have HB19:=hid (step HB18.out hb19);have HL19:=hid (HL18.out.later hb19);clear hb19)
 go_upto_region 20 with (go_at_call 9;refine(CAn.out _).mono ?_;rintro e w20 ⟨rfl,rfl⟩)
 go_wp2_with fail
 go_at_call 15
 refine(CLn.out _).mono ?_
 rintro e w21 ⟨rfl,hb21⟩
 have hbt:=newAlloc w21 (.cells #[.int .i64 0,.int .i64 0] 28)
 have kt:=alloc_atB w21 (.cells #[.int .i64 0,.int .i64 0] 28) _ rfl
 have HB22:=hid (step (step HB19.out hb21) hbt)
 have HL22:=hid ((HL19.out.later hb21).later hbt)
 have HKT:=hid kt
 clear hb21 hbt kt
 go_upto_region 21 with fail
 generalize w21.alloc (.cells #[.int .i64 0,.int .i64 0] 28)=W6 at HKT HB22 HL22 ⊢
 generalize w21.heap.size=bt at HKT ⊢
 have t0:=cell_at HKT.out 0
 have t1:=cell_at HKT.out 1
 simp at t0 t1
 by_cases hb0:0<=bad
 case' neg=>
  have d0:decide (0<=bad)=false:=decide_eq_false hb0
  obtain rfl:JJ=1:=by rw[<-HJJ.out,if_neg (fun q=>hb0 q.1)]
 case' pos=>
  have d0:decide (0<=bad)=true:=decide_eq_true hb0
  by_cases hb3:bad<3
  case' neg=>
   have d3:decide (bad<3)=false:=decide_eq_false hb3
   obtain rfl:JJ=1:=by rw[<-HJJ.out,if_neg (fun q=>hb3 q.2)]
  case' pos=>
   have d3:decide (bad<3)=true:=decide_eq_true hb3
   obtain rfl:JJ=0:=by rw[<-HJJ.out,if_pos ⟨hb0,hb3⟩]
  all_goals clear hb3
 all_goals
  clear hb0
  have qt0:=cell_regrown t0
  have qt1:=cell_regrown t1
  have D1:=hid (fun d os=>Calls.regrown_of (w:=W6) (d:=d) (os:=os) ((LNext_any g g S pv12 bv12 _ (HL22.out.later (below_regrown W6 d os))).mono fun _ _ h=>Tells.b h))
  have D2:=hid (fun d os=>Calls.regrown_of (w:=W6) (d:=d) (os:=os) ((LBegin_nil 1 _).mono fun _ _ h=>Tells.b h))
  have D3:=hid (fun d os=>Calls.regrown_of (w:=W6) (d:=d) (os:=os) ((LPhase_nil _).mono fun _ _ h=>Tells.b h))
  have D4:=hid (fun d os=>Calls.regrown_of (w:=W6) (d:=d) (os:=os) ((LView_nil _).mono fun _ _ h=>Tells.b h))
  have D5:=hid (fun d os=>Calls.regrown_of (w:=W6) (d:=d) (os:=os) ((LNext_nil _).mono fun _ _ h=>Tells.b h))
  have D6:=hid (fun d os=>Calls.regrown_of (w:=W6) (d:=d) (os:=os) ((LHeard_nil _).mono fun _ _ h=>Tells.b h))
  have D7:=hid (fun d os=>Calls.regrown_of (w:=W6) (d:=d) (os:=os) ((LSlots_nil 0 _).mono fun _ _ h=>Tells.b h))
  have D8:=hid (fun d os=>Calls.regrown_of (w:=W6) (d:=d) (os:=os) (awake17_ok _))
  clear t0 t1 CTr CSt CP0 CHn CAn CLn CBn CW
  try simp only[List.append_eq,List.cons_append,List.nil_append]
  refine wp_region_quiet_below (by kernel_rfl) (by kernel_rfl) ?_
  try simp only[List.append_eq,List.cons_append,List.nil_append]
  repeat (go_big_quiet_step (fail))
  go_big_quiet_step (exact D1.out _ _)
  repeat (go_big_quiet_step (fail))
  go_big_quiet_step (exact D2.out _ _)
  repeat (go_big_quiet_step (fail))
  go_big_quiet_step (exact D3.out _ _)
  repeat (go_big_quiet_step (fail))
  go_big_quiet_step (exact D4.out _ _)
  repeat (go_big_quiet_step (fail))
  go_big_quiet_step (exact D5.out _ _)
  repeat (go_big_quiet_step (fail))
  go_big_quiet_step (exact D6.out _ _)
  repeat (go_big_quiet_step (fail))
  go_big_quiet_step (exact D7.out _ _)
  repeat (go_big_quiet_step (fail))
  go_big_quiet_step (exact D8.out _ _)
  repeat (go_big_quiet_step (fail))
  refine wpQuiet_nil ?_
  intro _ hw'
  obtain⟨⟨dq,osq⟩,hw''⟩:=hw'
  subst hw''
  go_wp2
  go_ret
  exact⟨by simp,step HB22.out (below_regrown W6 dq osq)⟩
end Ld
end Go.Proofs.Ytbpmfjjbfiiiaaa
