/- Texts laid together by program. -/
import Derived.Test.YtbpmfjjbfiiiaaaQS8
import Derived.Lib.QuietBelow
/- Contract of the document's MayPromise. -/
set_option linter.unusedVariables false
set_option maxRecDepth 8000
set_option linter.unusedSimpArgs false
namespace Go.Proofs.Ytbpmfjjbfiiiaaa
open Lib (hid)
open Go.RowKit
namespace Pl
open Cm Ac

theorem voteR_1 {d b:Int} {v:VoteV} (hd:0<=d) (hb:d<=b) (h:highF v.slot 1=false):voteOk d b v=false:=by
 unfold highF at h
 unfold voteOk
 by_cases q:v.slot<=b
 ·rw[decide_eq_false (by omega: ¬b<v.slot)];rfl
 ·rw[decide_eq_true (by omega:1<=v.slot),Bool.true_and] at h
  rw[h]
  simp
theorem voteR_2 {d b:Int} {v:VoteV} (hb:d<=b) (h:v.slot<=d):voteOk d b v=false:=voteOk_1 (by omega)
theorem voteR_3 {d b:Int} {v:VoteV} (h:9<v.slot - d):voteOk d b v=false:=by
 unfold voteOk
 rw[decide_eq_false (by omega: ¬v.slot<=d+9)]
 simp
theorem voteR_5 {d b:Int} {v:VoteV} (h1:highF v.slot 1=true) (h3: ¬9<v.slot - d) (h4: ¬v.slot<=b):voteOk d b v=(highF v.ballot 0 && mayB v.bat):=by
 unfold highF at h1
 unfold voteOk
 simp only[Bool.and_eq_true,decide_eq_true_eq] at h1
 rw[decide_eq_true (by omega:b<v.slot),decide_eq_true (by omega:v.slot<=d+9),decide_eq_true h1.2]
 simp
theorem hiSlot {s d:Int} (h1:highF s 1=true) (hd0:0<=d) (hd1:d<=2305843009213693952):IntKind.i64.wrap (s - d)=s - d:=by
 unfold highF at h1
 simp only[Bool.and_eq_true,decide_eq_true_eq] at h1
 rw[IntKind.wrap_i64]
 omega
set_option maxHeartbeats 16000000 in
theorem MayPromise_any (p:PromC) (w:World) (h:RdV w p.u p.votes):Calls Try.prog 43 #[promVal p] w (SaysB (mayP p.val) w):=by
 rw[mayP_val]
 unfold headP
 obtain⟨pw,pd,pv,ps,pt,l,a,cap⟩:=p
 unfold PromC.u at h
 unfold promVal PromC.val PromC.u
 dsimp only at h ⊢
 have HB:=hid (newAlloc w (.cells #[.int .i64 pw,.int .i64 pd,.int .i64 pv,.int .i64 ps,.int .i64 pt,.slice a l.length cap] 59))
 have C1:=hid (fun w=>high12_any pd 0 w)
 have C3:=hid (fun w=>MayTip_any pv ps w)
 have C4:=hid (fun w=>high12_any pt 0 w)
 have HQ:=hid (@highF_two pd)
 have hm:=h.len
 have hl0:=valsV_length l
 have HA:=hid (fun i hi=>rdv_at h.row i hi)
 have HR:=hid h.reqs
 have HD:=hid (fun b i hi=>mayVs_step pd b (valsV l) i hi)
 have HE:=hid (fun b=>mayVs_end pd b (valsV l) (valsV l).length (Nat.le_refl _))
 have HG:=hid (fun i (hi:i<l.length) hi'=>valsV_get l i hi hi')
 obtain⟨_,_,hv,hlc,hcm, -⟩:=h.row.ex
 cases hv
 clear h
 generalize valsV l=V at HD HE HG hl0 ⊢
 obtain⟨L,hL⟩: ∃L,l.length=L:=⟨_,rfl⟩
 have HL:=hid hL
 rw[hL] at hm hl0 hlc HB ⊢
 clear hL
 rw[hl0] at HE
 have HV:=hid hl0
 clear hl0
 unfold tipVal at C3
 generalize highF pd 0=H1 at C1 HQ ⊢
 generalize (highF pv 0 && highF ps 0)=H3 at C3 ⊢
 generalize highF pt 0=H4 at C4 ⊢
 by_cases k1:pw<0
 ·have d1:decide (pw<0)=true:=decide_eq_true k1
  have d1':decide (0<=pw)=false:=decide_eq_false (by omega)
  clear k1
  go_enter Try.func43,Try.ntmps43
  go_wp2
  go_ret
  exact⟨by simp [d1'],HB.out⟩
 have d1:decide (pw<0)=false:=decide_eq_false k1
 have d1':decide (0<=pw)=true:=decide_eq_true (by omega)
 by_cases k2:7<=pw
 ·have d2:decide (7<=pw)=true:=decide_eq_true k2
  have d2':decide (pw<7)=false:=decide_eq_false (by omega)
  clear k1 k2
  go_enter Try.func43,Try.ntmps43
  go_wp2
  go_ret
  exact⟨by simp [d2'],HB.out⟩
 have d2:decide (7<=pw)=false:=decide_eq_false k2
 have d2':decide (pw<7)=true:=decide_eq_true (by omega)
 clear k1 k2
 rw[d1',d2']
 clear d1' d2'
 cases H1
 case false=>
  go_enter Try.func43,Try.ntmps43
  go_wp2_with fail
  refine(C1.out _).mono ?_
  rintro e w1 ⟨rfl,rfl⟩
  go_wp2
  go_ret
  exact⟨by simp,HB.out⟩
 obtain⟨hd0,hd1⟩:=HQ.out rfl
 have HD0:=hid hd0
 have HD1:=hid hd1
 clear hd0 hd1 HQ
 cases H3
 case false=>
  go_enter Try.func43,Try.ntmps43
  go_wp2_with fail
  refine(C1.out _).mono ?_
  rintro e w1 ⟨rfl,rfl⟩
  go_wp2_with fail
  refine(C3.out _).mono ?_
  rintro e w1 ⟨rfl,hb⟩
  go_wp2
  go_ret
  exact⟨by simp,step HB.out hb⟩
 cases H4
 case false=>
  go_enter Try.func43,Try.ntmps43
  go_wp2_with fail
  refine(C1.out _).mono ?_
  rintro e w1 ⟨rfl,rfl⟩
  go_wp2_with fail
  refine(C3.out _).mono ?_
  rintro e w1 ⟨rfl,hb⟩
  obtain⟨z0,z1,z2,z3,z4,z5⟩:=box6p hb
  go_wp2_with fail
  refine(C4.out _).mono ?_
  rintro e w2 ⟨rfl,rfl⟩
  go_wp2
  go_ret
  exact⟨by simp,step HB.out hb⟩
 by_cases c3:9<L
 ·rw[decide_eq_false (by omega)]
  have d3:decide (9<(L:Int))=true:=by simp;omega
  go_enter Try.func43,Try.ntmps43
  go_wp2_with fail
  refine(C1.out _).mono ?_
  rintro e w1 ⟨rfl,rfl⟩
  go_wp2_with fail
  refine(C3.out _).mono ?_
  rintro e w1 ⟨rfl,hb⟩
  obtain⟨z0,z1,z2,z3,z4,z5⟩:=box6p hb
  go_wp2_with fail
  refine(C4.out _).mono ?_
  rintro e w2 ⟨rfl,rfl⟩
  go_wp2
  go_ret
  exact⟨by simp,step HB.out hb⟩
 rw[decide_eq_true (by omega:L<=9)]
 have d3:decide (9<(L:Int))=false:=by simp;omega
 go_enter Try.func43,Try.ntmps43
 go_wp2_with fail
 refine(C1.out _).mono ?_
 rintro e w1 ⟨rfl,rfl⟩
 go_wp2_with fail
 refine(C3.out _).mono ?_
 rintro e w1 ⟨rfl,hb⟩
 obtain⟨z0,z1,z2,z3,z4,z5⟩:=box6p hb
 go_wp2_with fail
 refine(C4.out _).mono ?_
 rintro e w2 ⟨rfl,rfl⟩
 obtain⟨W0,hW0⟩: ∃W0,W0=w1:=⟨_,rfl⟩
 have HBX:Hid (∀w',Below W0.heap.size W0 w'->w'.cell? ⟨w.heap.size,1,none⟩=some (.int .i64 pd)/\w'.cell? ⟨w.heap.size,5,none⟩=some (.slice a L cap)):=hid (fun w' hb'=>by
  rw[hW0] at hb'
  obtain⟨-,x1, -, -, -,x5⟩:=box6p (step hb hb')
  exact⟨x1,x5⟩)
 have HBW:=hid (step HB.out hb)
 rw[<-hW0] at z0 z1 z2 z3 z4 z5 HBW ⊢
 clear hb hW0 HB C1 C3 C4
 go_wp2
 clear z0 z1 z2 z3 z4 z5
 go_loopw [3,4,37] (fun i y t wr=> ∃(j:Nat) (B:Int),j<=L/\i= .int .i64 j/\Hid (pd<=B/\(0<j-> ∀h:j - 1<l.length,l[j - 1].slot =B))/\Hid (j=0->B=pd)/\Hid (Below W0.heap.size W0 wr)/\Hid (mayVs pd pd V=mayVs pd B (V.drop j))) (fun i _ _ _=>L - (intOf i).toNat)
 case atStart=>exact⟨0,pd,by omega,rfl,hid ⟨Int.le_refl _,fun q=>absurd q (by omega)⟩,hid (fun _=>rfl),hid (Below.refl _ _),hid rfl⟩
 case round=>
  obtain⟨j,B,hj,rfl,HPB,HPB0,HBR,ha⟩:=hrel
  obtain⟨x1,x5⟩:=HBX.out _ HBR.out
  by_cases hlt:j<L
  ·have hjl:j<l.length:=by rw[HL.out];exact hlt
   have hjv:j<V.length:=by rw[HV.out];exact hlt
   have hb1:=newAlloc wr (.cells (cellsV l[j]).toArray 48)
   obtain⟨b,o,rfl,hc⟩:=HA.out j hjl
   have hbw:=step HBW.out HBR.out
   obtain⟨q0,q1,q2,q3,q4,q5,q6,q7⟩:=hc _ hbw
   have hd:=HD.out B j hjv
   rw[HG.out j hjl hjv] at hd
   have hr:=HR.out l[j] (List.getElem_mem hjl)
   have hpv:0<j-> ∀w',Below wr.heap.size wr w'->w'.cell? ⟨b,o+(j - 1)*8,none⟩=some (.int .i64 B):=fun h0 w' hb'=>by
    have hp:j - 1<l.length:=by omega
    obtain⟨b',o',e,hc'⟩:=HA.out (j - 1) hp
    cases e
    obtain⟨r0, -⟩:=hc' _ (step hbw hb')
    rw[HPB.out.2 h0 hp] at r0
    exact r0
   clear HA HD HG hc HR
   generalize hx:l[j]=x at q0 q1 q2 q3 q4 q5 q6 q7 hd hr hb1
   have HJX:Hid (∀h:j+1 - 1<l.length,l[j+1 - 1].slot =x.slot):=hid (fun h=>by rw[<-hx];rfl)
   clear hx
   obtain⟨xs,xb,xx,xa,xc⟩:=x
   obtain⟨xf,xv,xtv,xts,xt,xr⟩:=xx
   unfold VoteC.val at hd
   unfold cellsV at hb1
   unfold VoteC.u at hr q7 hb1
   dsimp only at q0 q1 q2 q3 q4 q5 q6 q7 hd hr hb1 HJX
   obtain⟨x1',x5'⟩:=HBX.out _ (step HBR.out hb1)
   have hpv':=fun h0=>hpv h0 _ hb1
   have HB1:=hid (step HBR.out hb1)
   have cn:=fun W=>high12_any xs 1 W
   have cb:=fun W=>high12_any xb 0 W
   have cm:=fun W (hb:Below W0.heap.size W0 W)=>RefMayB_any ⟨xf,xv,xtv,xts,xt,xr⟩ _ W (hr.later (step HBW.out hb))
   have g1:=fun h=>voteR_1 (d:=pd) (b:=B) (v:=⟨xs,xb,⟨xf,xv,xtv,xts,xt,xr⟩⟩) HD0.out HPB.out.1 h
   have g2:=fun h=>voteR_2 (d:=pd) (b:=B) (v:=⟨xs,xb,⟨xf,xv,xtv,xts,xt,xr⟩⟩) HPB.out.1 h
   have g3:=fun h=>voteR_3 (d:=pd) (b:=B) (v:=⟨xs,xb,⟨xf,xv,xtv,xts,xt,xr⟩⟩) h
   have g4:=fun h=>voteOk_1 (d:=pd) (b:=B) (v:=⟨xs,xb,⟨xf,xv,xtv,xts,xt,xr⟩⟩) h
   have g5:=fun h h' h''=>voteR_5 (d:=pd) (b:=B) (v:=⟨xs,xb,⟨xf,xv,xtv,xts,xt,xr⟩⟩) h h' h''
   have g6:=fun h=>hiSlot (s:=xs) (d:=pd) h HD0.out HD1.out
   dsimp only at g1 g2 g3 g4 g5
   unfold batVal at cm
   dsimp only at cm
   generalize voteOk pd B ⟨xs,xb,⟨xf,xv,xtv,xts,xt,xr⟩⟩=V1 at hd g1 g2 g3 g4 g5
   generalize mayB ⟨xf,xv,xtv,xts,xt,xr⟩=V2 at cm g5
   generalize highF xb 0=V3 at cb g5
   generalize highF xs 1=V0 at cn g1 g5 g6
   generalize xr.length=xn at*
   have HDD:=hid hd
   obtain⟨y0,y1,y2,y3,y4,y5,y6,y7⟩:=box8p (Below.refl _ (wr.alloc (.cells #[.int .i64 xs,.int .i64 xb,.bool xf,.int .i64 xv,.int .i64 xtv,.int .i64 xts,.int .i64 xt,.slice xa xn xc] 48)))
   have hj0:(0:Int)<=(j:Int):=by omega
   have hj1:(j:Int)<(L:Int):=by omega
   have CN:=hid cn
   have CB:=hid cb
   have CM:=hid cm
   have HPV:=hid hpv'
   have G1:=hid g1
   have G2:=hid g2
   have G3:=hid g3
   have G4:=hid g4
   have G5:=hid g5
   have G6:=hid g6
   clear cn cb cm hr hjl hjv hd g1 g2 g3 g4 g5 g6 hpv hpv' hb1 hbw
   go_upto_region 7 with fail
   have kx1:=cell_regrown x1'
   have kx5:=cell_regrown x5'
   have m0:=cell_regrown y0
   have m1:=cell_regrown y1
   have m2:=cell_regrown y2
   have m3:=cell_regrown y3
   have m4:=cell_regrown y4
   have m5:=cell_regrown y5
   have m6:=cell_regrown y6
   have m7:=cell_regrown y7
   generalize hW:wr.alloc (.cells #[.int .i64 xs,.int .i64 xb,.bool xf,.int .i64 xv,.int .i64 xtv,.int .i64 xts,.int .i64 xt,.slice xa xn xc] 48)=W at*
   have D1:=hid (fun d os=>Calls.regrown_of (w:=W) (d:=d) (os:=os) ((CN.out _).mono (fun e w' q=>⟨q.1,by rw[q.2];exact Below.refl _ _⟩)))
   have D2:=hid (fun d os=>Calls.regrown_of (w:=W) (d:=d) (os:=os) ((CB.out _).mono (fun e w' q=>⟨q.1,by rw[q.2];exact Below.refl _ _⟩)))
   have D3:=hid (fun d os=>Calls.regrown_of (w:=W) (d:=d) (os:=os) (CM.out _ (step HB1.out (below_regrown W d os))))
   clear y0 y1 y2 y3 y4 y5 y6 y7 x1 x5 x1' x5' q0 q1 q2 q3 q4 q5 q6 q7 hW CN CM CB
   cases V0
   case false=>
    have K:=hid (G1.out rfl)
    refine wp_region_quiet_below (by kernel_rfl) (by kernel_rfl) ?_
    repeat (go_big_quiet_step (fail))
    go_big_quiet_step (exact D1.out _ _)
    repeat (go_big_quiet_step (fail))
    refine wpQuiet_nil ?_
    intro wz hw'
    have hbz:Hid (Below W0.heap.size W0 wz):=hid (by obtain⟨⟨dq,osq⟩,hw2⟩:=hw';rw[hw2];exact step HB1.out (below_regrown W dq osq))
    clear hw'
    go_wp2
    go_ret
    exact⟨by rw[ha.out,HDD.out,K.out];simp,step HBW.out hbz.out⟩
   have e6:=G6.out rfl
   by_cases k2:xs<=pd
   ·have K:=hid (G2.out k2)
    have d4:decide (xs<=pd)=true:=decide_eq_true k2
    clear k2
    refine wp_region_quiet_below (by kernel_rfl) (by kernel_rfl) ?_
    repeat (go_big_quiet_step (fail))
    go_big_quiet_step (exact D1.out _ _)
    repeat (go_big_quiet_step (fail))
    refine wpQuiet_nil ?_
    intro wz hw'
    have hbz:Hid (Below W0.heap.size W0 wz):=hid (by obtain⟨⟨dq,osq⟩,hw2⟩:=hw';rw[hw2];exact step HB1.out (below_regrown W dq osq))
    clear hw'
    go_wp2
    go_ret
    exact⟨by rw[ha.out,HDD.out,K.out];simp,step HBW.out hbz.out⟩
   have d4:decide (xs<=pd)=false:=decide_eq_false k2
   by_cases k3:9<xs - pd
   ·have K:=hid (G3.out k3)
    have d5:decide (9<xs - pd)=true:=decide_eq_true k3
    clear k2 k3
    refine wp_region_quiet_below (by kernel_rfl) (by kernel_rfl) ?_
    repeat (go_big_quiet_step (fail))
    go_big_quiet_step (exact D1.out _ _)
    repeat (go_big_quiet_step (fail))
    refine wpQuiet_nil ?_
    intro wz hw'
    have hbz:Hid (Below W0.heap.size W0 wz):=hid (by obtain⟨⟨dq,osq⟩,hw2⟩:=hw';rw[hw2];exact step HB1.out (below_regrown W dq osq))
    clear hw'
    go_wp2
    go_ret
    exact⟨by rw[ha.out,HDD.out,K.out];simp,step HBW.out hbz.out⟩
   have d5:decide (9<xs - pd)=false:=decide_eq_false k3
   by_cases k0:0<j
   case neg=>
    obtain rfl:j=0:=by omega
    obtain rfl:B=pd:=HPB0.out rfl
    have k4:=k2
    have K5:=hid (G5.out rfl k3 k4)
    clear k2 k3
    cases V3
    case false=>
     refine wp_region_quiet_below (by kernel_rfl) (by kernel_rfl) ?_
     repeat (go_big_quiet_step (fail))
     go_big_quiet_step (exact D1.out _ _)
     repeat (go_big_quiet_step (fail))
     go_big_quiet_step (exact D2.out _ _)
     repeat (go_big_quiet_step (fail))
     refine wpQuiet_nil ?_
     intro wz hw'
     have hbz:Hid (Below W0.heap.size W0 wz):=hid (by obtain⟨⟨dq,osq⟩,hw2⟩:=hw';rw[hw2];exact step HB1.out (below_regrown W dq osq))
     clear hw'
     go_wp2
     go_ret
     exact⟨by rw[ha.out,HDD.out,K5.out];simp,step HBW.out hbz.out⟩
    cases V2
    case false=>
     refine wp_region_quiet_below (by kernel_rfl) (by kernel_rfl) ?_
     repeat (go_big_quiet_step (fail))
     go_big_quiet_step (exact D1.out _ _)
     repeat (go_big_quiet_step (fail))
     go_big_quiet_step (exact D2.out _ _)
     repeat (go_big_quiet_step (fail))
     go_big_quiet_step (exact D3.out _ _)
     repeat (go_big_quiet_step (fail))
     refine wpQuiet_nil ?_
     intro wz hw'
     have hbz:Hid (Below W0.heap.size W0 wz):=hid (by obtain⟨⟨dq,osq⟩,hw2⟩:=hw';rw[hw2];exact step HB1.out (below_regrown W dq osq))
     clear hw'
     go_wp2
     go_ret
     exact⟨by rw[ha.out,HDD.out,K5.out];simp,step HBW.out hbz.out⟩
    refine wp_region_quiet_below (by kernel_rfl) (by kernel_rfl) ?_
    repeat (go_big_quiet_step (fail))
    go_big_quiet_step (exact D1.out _ _)
    repeat (go_big_quiet_step (fail))
    go_big_quiet_step (exact D2.out _ _)
    repeat (go_big_quiet_step (fail))
    go_big_quiet_step (exact D3.out _ _)
    repeat (go_big_quiet_step (fail))
    refine wpQuiet_nil ?_
    intro wz hw'
    have hbz:Hid (Below W0.heap.size W0 wz):=hid (by obtain⟨⟨dq,osq⟩,hw2⟩:=hw';rw[hw2];exact step HB1.out (below_regrown W dq osq))
    clear hw'
    go_wp2
    go_roundw
    case rel=>exact⟨0+1,xs,by omega,by go_num,hid ⟨by have:=HPB.out.1;have:=k4;omega,fun _=>HJX.out⟩,hid (fun q=>absurd q (by omega)),hbz,hid (by rw[ha.out,HDD.out,K5.out];simp)⟩
    case measure=>simp [intOf];omega
   obtain⟨J,hJ⟩: ∃J,j - 1=J:=⟨_,rfl⟩
   have hJ1:J<L:=by omega
   have hJ2:IntKind.i64.wrap ((j:Int) - 1)=(J:Int):=by rw[IntKind.wrap_i64];omega
   have mp:=cell_regrown (HPV.out k0)
   rw[hJ] at mp
   have HJJ:=hid hJ
   clear hJ
   by_cases k4:xs<=B
   ·have K:=hid (G4.out k4)
    have d6:decide (xs<=B)=true:=decide_eq_true k4
    clear k2 k3 k4
    refine wp_region_quiet_below (by kernel_rfl) (by kernel_rfl) ?_
    repeat (go_big_quiet_step (fail))
    go_big_quiet_step (exact D1.out _ _)
    repeat (go_big_quiet_step (fail))
    refine wpQuiet_nil ?_
    intro wz hw'
    have hbz:Hid (Below W0.heap.size W0 wz):=hid (by obtain⟨⟨dq,osq⟩,hw2⟩:=hw';rw[hw2];exact step HB1.out (below_regrown W dq osq))
    clear hw'
    go_wp2
    go_ret
    exact⟨by rw[ha.out,HDD.out,K.out];simp,step HBW.out hbz.out⟩
   have d6:decide (xs<=B)=false:=decide_eq_false k4
   have K5:=hid (G5.out rfl k3 k4)
   clear k2 k3
   have k4h:=hid k4
   clear k4
   cases V3
   case false=>
    refine wp_region_quiet_below (by kernel_rfl) (by kernel_rfl) ?_
    repeat (go_big_quiet_step (fail))
    go_big_quiet_step (exact D1.out _ _)
    repeat (go_big_quiet_step (fail))
    go_big_quiet_step (exact D2.out _ _)
    repeat (go_big_quiet_step (fail))
    refine wpQuiet_nil ?_
    intro wz hw'
    have hbz:Hid (Below W0.heap.size W0 wz):=hid (by obtain⟨⟨dq,osq⟩,hw2⟩:=hw';rw[hw2];exact step HB1.out (below_regrown W dq osq))
    clear hw'
    go_wp2
    go_ret
    exact⟨by rw[ha.out,HDD.out,K5.out];simp,step HBW.out hbz.out⟩
   cases V2
   case false=>
    refine wp_region_quiet_below (by kernel_rfl) (by kernel_rfl) ?_
    repeat (go_big_quiet_step (fail))
    go_big_quiet_step (exact D1.out _ _)
    repeat (go_big_quiet_step (fail))
    go_big_quiet_step (exact D2.out _ _)
    repeat (go_big_quiet_step (fail))
    go_big_quiet_step (exact D3.out _ _)
    repeat (go_big_quiet_step (fail))
    refine wpQuiet_nil ?_
    intro wz hw'
    have hbz:Hid (Below W0.heap.size W0 wz):=hid (by obtain⟨⟨dq,osq⟩,hw2⟩:=hw';rw[hw2];exact step HB1.out (below_regrown W dq osq))
    clear hw'
    go_wp2
    go_ret
    exact⟨by rw[ha.out,HDD.out,K5.out];simp,step HBW.out hbz.out⟩
   refine wp_region_quiet_below (by kernel_rfl) (by kernel_rfl) ?_
   repeat (go_big_quiet_step (fail))
   go_big_quiet_step (exact D1.out _ _)
   repeat (go_big_quiet_step (fail))
   go_big_quiet_step (exact D2.out _ _)
   repeat (go_big_quiet_step (fail))
   go_big_quiet_step (exact D3.out _ _)
   repeat (go_big_quiet_step (fail))
   refine wpQuiet_nil ?_
   intro wz hw'
   have hbz:Hid (Below W0.heap.size W0 wz):=hid (by obtain⟨⟨dq,osq⟩,hw2⟩:=hw';rw[hw2];exact step HB1.out (below_regrown W dq osq))
   clear hw'
   go_wp2
   go_roundw
   case rel=>exact⟨j+1,xs,by omega,by go_num,hid ⟨by have:=HPB.out.1;have:=k4h.out;omega,fun _=>HJX.out⟩,hid (fun q=>absurd q (by omega)),hbz,hid (by rw[ha.out,HDD.out,K5.out];simp)⟩
   case measure=>simp [intOf];omega
  ·obtain rfl:j=L:=by omega
   go_wp2
   go_ret
   exact⟨by rw[ha.out,HE.out];rfl,step HBW.out HBR.out⟩
end Pl
end Go.Proofs.Ytbpmfjjbfiiiaaa
