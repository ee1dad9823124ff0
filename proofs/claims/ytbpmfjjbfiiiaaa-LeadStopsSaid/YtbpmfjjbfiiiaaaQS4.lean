/- Texts laid together by program. -/
import Derived.Test.YtbpmfjjbfiiiaaaQS3
import Derived.Lib.QuietBelow
/- Contracts: package batch's Same, Valid, isNumber, hasClient, mayReqs, May, and the document's. -/
set_option linter.unusedVariables false
set_option maxRecDepth 8000
set_option linter.unusedSimpArgs false
namespace Go.Proofs.Ytbpmfjjbfiiiaaa
open Lib (hid)
open Go.RowKit Go.Shelf
namespace Cm

theorem isNumB_any (v:Int) (w:World):Calls Try.prog 33 #[.int .i64 v] w (Says (highF v 0) w):=by
  unfold highF
  by_cases h1:0<=v<;>by_cases h2:v<=2305843009213693952<;>
    (go_enter Try.func33,Try.ntmps33
     go_wp2
     go_ret
     exact⟨by simp [h1,h2]<;>omega,rfl⟩)
theorem high12_any (v least:Int) (w:World):Calls Try.prog 54 #[.int .i64 v,.int .i64 least] w (Says (highF v least) w):=by
  unfold highF
  by_cases h1:least<=v<;>by_cases h2:v<=2305843009213693952<;>
    (go_enter Try.func54,Try.ntmps54
     go_wp2
     go_ret
     exact⟨by simp [h1,h2]<;>omega,rfl⟩)
def tipVal (a b:Int):Value:=.agg #[.int .i64 a,.int .i64 b]
theorem MayTip_any (a b:Int) (w:World):Calls Try.prog 55 #[tipVal a b] w (SaysB (highF a 0 && highF b 0) w):=by
 unfold highF tipVal
 have HB:=hid (newAlloc w (.cells #[.int .i64 a,.int .i64 b] 28))
 by_cases e0:0<=a
 case neg=>
  have d0:decide (0<=a)=false:=decide_eq_false e0
  have E:=hid d0
  clear e0
  go_enter Try.func55,Try.ntmps55
  go_wp2
  go_ret
  exact⟨by simp [E.out],HB.out⟩
 have d0:decide (0<=a)=true:=decide_eq_true e0
 clear e0
 by_cases e1:a<=2305843009213693952
 case neg=>
  have d1:decide (a<=2305843009213693952)=false:=decide_eq_false e1
  have E:=hid d1
  clear e1
  go_enter Try.func55,Try.ntmps55
  go_wp2
  go_ret
  exact⟨by simp [E.out],HB.out⟩
 have d1:decide (a<=2305843009213693952)=true:=decide_eq_true e1
 clear e1
 by_cases e2:0<=b
 case neg=>
  have d2:decide (0<=b)=false:=decide_eq_false e2
  have E:=hid d2
  clear e2
  go_enter Try.func55,Try.ntmps55
  go_wp2
  go_ret
  exact⟨by simp [E.out],HB.out⟩
 have d2:decide (0<=b)=true:=decide_eq_true e2
 clear e2
 by_cases e3:b<=2305843009213693952
 case neg=>
  have d3:decide (b<=2305843009213693952)=false:=decide_eq_false e3
  have E:=hid d3
  clear e3
  go_enter Try.func55,Try.ntmps55
  go_wp2
  go_ret
  exact⟨by simp [E.out],HB.out⟩
 have d3:decide (b<=2305843009213693952)=true:=decide_eq_true e3
 clear e3
 have E:=hid (And.intro d0 (And.intro d1 (And.intro d2 d3)))
 go_enter Try.func55,Try.ntmps55
 go_wp2
 go_ret
 exact⟨by obtain⟨x0,x1,x2,x3⟩:=E.out;simp [x0,x1,x2,x3],HB.out⟩
set_option maxHeartbeats 2000000 in
theorem RefSameB_any (a b:BatV) (u v:Value) (w:World) (h:RdR w u a.reqs) (h2:RdR w v b.reqs):Calls Try.prog 14 #[batVal a u,batVal b v] w (SaysB (sameB a b) w):=by
 obtain⟨fa,va,ta,sa,ma,la⟩:=a
 obtain⟨fb,vb,tb,sb,mb,lb⟩:=b
 unfold batVal
 dsimp only at h h2 ⊢
 have HB:=hid (stepAlloc (newAlloc w (.cells #[.bool fa,.int .i64 va,.int .i64 ta,.int .i64 sa,.int .i64 ma,u] 42)) (.cells #[.bool fb,.int .i64 vb,.int .i64 tb,.int .i64 sb,.int .i64 mb,v] 42))
 have CS:=hid (SameReqs_any u v la lb _ (h.later HB.out) (h2.later HB.out))
 rw[show sameB ⟨fa,va,ta,sa,ma,la⟩ ⟨fb,vb,tb,sb,mb,lb⟩=(decide (fa=fb) && decide (va=vb) && (decide (ta=tb) && decide (sa=sb)) && decide (ma=mb) && sameRs la lb) from rfl]
 obtain⟨ua,uc,rfl⟩:=h.form
 obtain⟨xa,xc,rfl⟩:=h2.form
 clear h h2
 generalize sameRs la lb=S at CS ⊢
 generalize la.length=LA at*
 generalize lb.length=LB at*
 by_cases e:fa=fb
 case neg=>
  have d0:(fa==fb)=false:=by simpa using e
  go_enter Try.func14,Try.ntmps14
  go_wp2
  go_ret
  exact⟨by simp [e],HB.out⟩
 have d0:(fa==fb)=true:=by simpa using e
 have e0:=hid e
 clear e
 by_cases e:va=vb
 case neg=>
  have d1:(va==vb)=false:=by simpa using e
  go_enter Try.func14,Try.ntmps14
  go_wp2
  go_ret
  exact⟨by simp [e],HB.out⟩
 have d1:(va==vb)=true:=by simpa using e
 have e1:=hid e
 clear e
 by_cases e:ta=tb
 case neg=>
  have d2:(ta==tb)=false:=by simpa using e
  go_enter Try.func14,Try.ntmps14
  go_wp2
  go_ret
  exact⟨by simp [e],HB.out⟩
 have d2:(ta==tb)=true:=by simpa using e
 have e2:=hid e
 clear e
 by_cases e:sa=sb
 case neg=>
  have d3:(sa==sb)=false:=by simpa using e
  go_enter Try.func14,Try.ntmps14
  go_wp2
  go_ret
  exact⟨by simp [e],HB.out⟩
 have d3:(sa==sb)=true:=by simpa using e
 have e3:=hid e
 clear e
 by_cases e:ma=mb
 case neg=>
  have d4:(ma==mb)=false:=by simpa using e
  go_enter Try.func14,Try.ntmps14
  go_wp2
  go_ret
  exact⟨by simp [e],HB.out⟩
 have d4:(ma==mb)=true:=by simpa using e
 have e4:=hid e
 clear e
 go_enter Try.func14,Try.ntmps14
 go_wp2_with (go_at_call 36;refine CS.out.mono ?_;rintro e w1 ⟨rfl,hb1⟩)
 go_ret
 exact⟨by simp [e0.out,e1.out,e2.out,e3.out,e4.out],step HB.out hb1⟩
set_option maxHeartbeats 2000000 in
theorem SameB_any (a b:BatV) (u v:Value) (w:World) (h:RdR w u a.reqs) (h2:RdR w v b.reqs):Calls Try.prog 32 #[batVal a u,batVal b v] w (SaysB (sameB a b) w):=by
 obtain⟨fa,va,ta,sa,ma,la⟩:=a
 obtain⟨fb,vb,tb,sb,mb,lb⟩:=b
 unfold batVal
 dsimp only at h h2 ⊢
 have HB:=hid (stepAlloc (newAlloc w (.cells #[.bool fa,.int .i64 va,.int .i64 ta,.int .i64 sa,.int .i64 ma,u] 42)) (.cells #[.bool fb,.int .i64 vb,.int .i64 tb,.int .i64 sb,.int .i64 mb,v] 42))
 have CS:=hid (EqualR_any u v la lb _ (h.later HB.out) (h2.later HB.out))
 rw[show sameB ⟨fa,va,ta,sa,ma,la⟩ ⟨fb,vb,tb,sb,mb,lb⟩=(decide (fa=fb) && decide (va=vb) && (decide (ta=tb) && decide (sa=sb)) && decide (ma=mb) && sameRs la lb) from rfl]
 obtain⟨ua,uc,rfl⟩:=h.form
 obtain⟨xa,xc,rfl⟩:=h2.form
 clear h h2
 generalize sameRs la lb=S at CS ⊢
 generalize la.length=LA at*
 generalize lb.length=LB at*
 by_cases e:fa=fb
 case neg=>
  have d0:(fa==fb)=false:=by simpa using e
  go_enter Try.func32,Try.ntmps32
  go_wp2
  go_ret
  exact⟨by simp [e],HB.out⟩
 have d0:(fa==fb)=true:=by simpa using e
 have e0:=hid e
 clear e
 by_cases e:va=vb
 case neg=>
  have d1:(va==vb)=false:=by simpa using e
  go_enter Try.func32,Try.ntmps32
  go_wp2
  go_ret
  exact⟨by simp [e],HB.out⟩
 have d1:(va==vb)=true:=by simpa using e
 have e1:=hid e
 clear e
 by_cases e:ta=tb
 case neg=>
  have d2:(ta==tb)=false:=by simpa using e
  go_enter Try.func32,Try.ntmps32
  go_wp2
  go_ret
  exact⟨by simp [e],HB.out⟩
 have d2:(ta==tb)=true:=by simpa using e
 have e2:=hid e
 clear e
 by_cases e:sa=sb
 case neg=>
  have d3:(sa==sb)=false:=by simpa using e
  go_enter Try.func32,Try.ntmps32
  go_wp2
  go_ret
  exact⟨by simp [e],HB.out⟩
 have d3:(sa==sb)=true:=by simpa using e
 have e3:=hid e
 clear e
 by_cases e:ma=mb
 case neg=>
  have d4:(ma==mb)=false:=by simpa using e
  go_enter Try.func32,Try.ntmps32
  go_wp2
  go_ret
  exact⟨by simp [e],HB.out⟩
 have d4:(ma==mb)=true:=by simpa using e
 have e4:=hid e
 clear e
 go_enter Try.func32,Try.ntmps32
 go_wp2_with (go_at_call 46;refine CS.out.mono ?_;rintro e w1 ⟨rfl,hb1⟩)
 go_ret
 exact⟨by simp [e0.out,e1.out,e2.out,e3.out,e4.out],step HB.out hb1⟩
def validF (p q:Int) (b:BatV):Bool:= !b.fill && (decide (b.tv=p) && decide (b.ts=q))
theorem ValidB_any (b:BatV) (v:Value) (p q:Int) (w:World):Calls Try.prog 12 #[tipVal p q,batVal b v] w (SaysB (validF p q b) w):=by
 obtain⟨fb,vb,tb,sb,mb,lb⟩:=b
 unfold batVal tipVal validF
 dsimp only
 have HB:=hid (stepAlloc (newAlloc w (.cells #[.int .i64 p,.int .i64 q] 28)) (.cells #[.bool fb,.int .i64 vb,.int .i64 tb,.int .i64 sb,.int .i64 mb,v] 42))
 cases fb
 case true=>
  go_enter Try.func12,Try.ntmps12
  go_wp2
  go_ret
  exact⟨by simp,HB.out⟩
 by_cases e1:tb=p
 case neg=>
  have d1:(tb==p)=false:=by simpa using e1
  have E1:=hid e1
  clear e1
  go_enter Try.func12,Try.ntmps12
  go_wp2
  go_ret
  exact⟨by simp [E1.out],HB.out⟩
 have d1:(tb==p)=true:=by simpa using e1
 have E1:=hid e1
 clear e1
 by_cases e2:sb=q
 case neg=>
  have d2:(sb==q)=false:=by simpa using e2
  have E2:=hid e2
  clear e2
  go_enter Try.func12,Try.ntmps12
  go_wp2
  go_ret
  exact⟨by simp [E2.out],HB.out⟩
 have d2:(sb==q)=true:=by simpa using e2
 have E2:=hid e2
 clear e2
 go_enter Try.func12,Try.ntmps12
 go_wp2
 go_ret
 exact⟨by simp [E1.out,E2.out],HB.out⟩
theorem RefValidB_any (b:BatV) (v:Value) (p q:Int) (w:World):Calls Try.prog 57 #[tipVal p q,batVal b v] w (SaysB (validF p q b) w):=by
 obtain⟨fb,vb,tb,sb,mb,lb⟩:=b
 unfold batVal tipVal validF
 dsimp only
 have HB:=hid (stepAlloc (newAlloc w (.cells #[.int .i64 p,.int .i64 q] 28)) (.cells #[.bool fb,.int .i64 vb,.int .i64 tb,.int .i64 sb,.int .i64 mb,v] 42))
 cases fb
 case true=>
  go_enter Try.func57,Try.ntmps57
  go_wp2
  go_ret
  exact⟨by simp,HB.out⟩
 by_cases e1:tb=p
 case neg=>
  have d1:(tb==p)=false:=by simpa using e1
  have E1:=hid e1
  clear e1
  go_enter Try.func57,Try.ntmps57
  go_wp2
  go_ret
  exact⟨by simp [E1.out],HB.out⟩
 have d1:(tb==p)=true:=by simpa using e1
 have E1:=hid e1
 clear e1
 by_cases e2:sb=q
 case neg=>
  have d2:(sb==q)=false:=by simpa using e2
  have E2:=hid e2
  clear e2
  go_enter Try.func57,Try.ntmps57
  go_wp2
  go_ret
  exact⟨by simp [E2.out],HB.out⟩
 have d2:(sb==q)=true:=by simpa using e2
 have E2:=hid e2
 clear e2
 go_enter Try.func57,Try.ntmps57
 go_wp2
 go_ret
 exact⟨by simp [E1.out,E2.out],HB.out⟩
theorem enters_hasC: ∀args w,(callFunc 61 args).run Try.prog w= .ok (.enter 61 args) w:=enters_of Try.func61 (by kernel_rfl) rfl
theorem hasC1_any (r:ReqV) (w:World) (b:Nat) (c:Int) (hb:w.cell? ⟨b,0,none⟩=some (.int .i64 c)):
  Calls Try.prog 61 #[reqVal r,.pointer (some ⟨b,0,none⟩)] w (SaysB (decide (r.client=c)) w):=by
 obtain⟨gc,gq,gk,gs,gn⟩:=r
 unfold reqVal
 dsimp only
 have HB:=hid (newAlloc w (.cells #[.int .i64 gc,.int .i64 gq,.int .i64 gk,.int .i64 gs,.string (bstr gn)] 71))
 have z1:=(HB.out.cell (lt_of_cell hb)).trans hb
 clear hb
 go_enter Try.func61,Try.ntmps61
 go_wp2
 go_ret
 exact⟨by simp<;>rfl,HB.out⟩
theorem box1_atB (w:World) (v:Value) (t:TypeId) (w':World) (hb:Below (w.alloc (.cells #[v] t)).heap.size (w.alloc (.cells #[v] t)) w'):w'.cell? ⟨w.heap.size,0,none⟩=some v:=by
 have h:(w.alloc (.cells #[v] t)).cell? ⟨w.heap.size,0,none⟩=some v:=by simp
 exact(hb.cell (lt_of_cell h)).trans h
theorem hasClient_any (v:Value) (l:List ReqV) (c:Int) (w:World) (h:RdR w v l):Calls Try.prog 48 #[v,.int .i64 c] w (SaysB (hasC l c) w):=by
 have hmf: ∀(fn:Fn) (first cap:Array Value) (w:World),(Instr.makeFunc fn first cap).run Try.prog w= .ok (.func fn first cap) w:=fun _ _ _ _=>rfl
 have HI:=hid (HasR_any (fun r=>decide (r.client=c)) 61 #[.pointer (some ⟨w.heap.size,0,none⟩)] enters_hasC v l (w.alloc (.cells #[.int .i64 c] 3)) (h.later (newAlloc _ _))
  (fun W x hb=>hasC1_any x W w.heap.size c (box1_atB w _ _ W hb)))
 have HB:=hid (newAlloc w (.cells #[.int .i64 c] 3))
 rw[show hasC l c=l.any (fun r=>decide (r.client=c)) from rfl]
 obtain⟨a,cap,rfl⟩:=h.form
 clear h
 generalize l.any (fun r:ReqV=>decide (r.client=c))=r at HI ⊢
 generalize l.length=L at*
 go_enter Try.func48,Try.ntmps48
 go_wp2_with (go_at_call 60;refine HI.out.mono ?_;rintro e w' ⟨rfl,hb'⟩)
 go_ret
 exact⟨rfl,step HB.out hb'⟩
theorem okR_all (l:List ReqV):okR (l.take l.length) (l.drop l.length)=true:=by
 rw[List.drop_eq_nil_of_le (Nat.le_refl _)]
 rfl
set_option maxHeartbeats 4000000 in
theorem mayReqs_any (v:Value) (l:List ReqV) (w:World) (h:RdR w v l):Calls Try.prog 34 #[v] w (SaysB (reqsF l) w):=by
 have hm:=h.len
 obtain⟨a,cap,hv,hlc,hcm, -⟩:=h.ex
 subst hv
 unfold reqsF
 by_cases c3:l.length<=3
 case neg=>
  rw[decide_eq_false c3]
  clear h
  have d3:decide (3<(l.length:Int))=true:=by simp;omega
  generalize l.length=L at*
  go_enter Try.func34,Try.ntmps34
  go_wp2
  go_ret
  exact⟨by simp,Below.refl _ _⟩
 have d3:decide (3<(l.length:Int))=false:=by simp;omega
 rw[decide_eq_true c3,Bool.true_and]
 have HA:=hid (fun i hi=>rdr_at h i hi)
 have HT:=hid (fun i hi=>h.take i hi)
 have HD:=hid (okR_step l)
 have HE:=hid (okR_all l)
 clear h
 obtain⟨L,hL⟩: ∃L,l.length=L:=⟨_,rfl⟩
 have HL:=hid hL
 rw[hL] at hm c3 d3 HT HE hlc ⊢
 clear hL
 go_enter Try.func34,Try.ntmps34
 go_wp2
 go_loopw [3,4,10] (fun x y i wr=> ∃j:Nat,j<=L/\i= .int .i64 j/\Hid (Below w.heap.size w wr)/\Hid (okR [] l=okR (l.take j) (l.drop j))) (fun _ _ i _=>L - (intOf i).toNat)
 case atStart=>exact⟨0,by omega,rfl,hid (Below.refl _ _),hid rfl⟩
 case round=>
  obtain⟨j,hj,rfl,HB,ha⟩:=hrel
  by_cases hlt:j<L
  ·have hjl:j<l.length:=by rw[HL.out];exact hlt
   obtain⟨b,o,rfl,hc⟩:=HA.out j hjl
   obtain⟨q0,q1,q2,q3,q4⟩:=hc _ HB.out
   have hd:=HD.out j hjl
   have ht:=HT.out j hj
   clear HA HT HD hc
   generalize l[j]=x at q0 q1 q2 q3 q4 hd
   have HB1:=hid (stepAlloc HB.out (.cells #[.int .i64 x.client,.int .i64 x.seq,.int .i64 x.cmd.kind,.int .i64 x.cmd.session,.string (bstr x.cmd.name)] 71))
   have cm:=fun W=>MayReq_any x W
   have ch:=fun W (hb:Below w.heap.size w W)=>hasClient_any _ (l.take j) x.client W (ht.later hb)
   obtain⟨y0,y1,y2,y3,y4⟩:=box5 (Below.refl _ (wr.alloc (.cells #[.int .i64 x.client,.int .i64 x.seq,.int .i64 x.cmd.kind,.int .i64 x.cmd.session,.string (bstr x.cmd.name)] 71)))
   generalize hasC (l.take j) x.client=HC at hd ch
   generalize mayR x=HM at hd cm
   obtain⟨xc,xs,xk,xn,xm⟩:=x
   unfold reqVal at cm
   dsimp only at q0 q1 q2 q3 q4 hd cm ch y0 y1 y2 y3 y4 HB1
   have CM:=hid cm
   have CH:=hid ch
   have hj0:(0:Int)<=(j:Int):=by omega
   have hj1:(j:Int)<=(cap:Int):=by omega
   clear cm ch ht hjl
   go_upto_region 6 with fail
   have k0:=cell_regrown y0
   have k1:=cell_regrown y1
   have k2:=cell_regrown y2
   have k3:=cell_regrown y3
   have k4:=cell_regrown y4
   generalize hW:wr.alloc (.cells #[.int .i64 xc,.int .i64 xs,.int .i64 xk,.int .i64 xn,.string (bstr xm)] 71)=W at*
   have D1:=hid (fun d os=>Calls.regrown_of (w:=W) (d:=d) (os:=os) (CM.out _))
   have D2:=hid (fun d os=>Calls.regrown_of (w:=W) (d:=d) (os:=os) (CH.out _ (step HB1.out (below_regrown W d os))))
   clear y0 y1 y2 y3 y4 q0 q1 q2 q3 q4 hW CM CH
   cases HM
   case false=>
    have H:=hid hd
    clear hd
    refine wp_region_quiet_below (by kernel_rfl) (by kernel_rfl) ?_
    repeat (go_big_quiet_step (first
     | exact D1.out _ _))
    refine wpQuiet_nil ?_
    intro _ hw'
    obtain⟨⟨dq,osq⟩,hw''⟩:=hw'
    subst hw''
    go_wp2
    go_ret
    exact⟨by rw[ha.out,H.out];simp,step HB1.out (below_regrown W dq osq)⟩
   cases HC
   case true=>
    have H:=hid hd
    clear hd
    refine wp_region_quiet_below (by kernel_rfl) (by kernel_rfl) ?_
    repeat (go_big_quiet_step (first
     | exact D1.out _ _
     | exact D2.out _ _))
    refine wpQuiet_nil ?_
    intro _ hw'
    obtain⟨⟨dq,osq⟩,hw''⟩:=hw'
    subst hw''
    go_wp2
    go_ret
    exact⟨by rw[ha.out,H.out];simp,step HB1.out (below_regrown W dq osq)⟩
   have H:=hid hd
   clear hd
   refine wp_region_quiet_below (by kernel_rfl) (by kernel_rfl) ?_
   repeat (go_big_quiet_step (first
    | exact D1.out _ _
    | exact D2.out _ _))
   refine wpQuiet_nil ?_
   intro _ hw'
   obtain⟨⟨dq,osq⟩,hw''⟩:=hw'
   subst hw''
   go_wp2
   go_roundw
   case rel=>exact⟨j+1,by omega,by go_num,hid (step HB1.out (below_regrown W dq osq)),hid (by rw[ha.out,H.out];simp)⟩
   case measure=>simp [intOf];omega
  ·obtain rfl:j=L:=by omega
   go_wp2
   go_ret
   exact⟨by rw[ha.out,HE.out];rfl,HB.out⟩
theorem hasC_step (l:List ReqV) (k:Nat) (h:k<l.length) (c:Int):hasC (l.take (k+1)) c=(hasC (l.take k) c || decide (l[k].client =c)):=by
 unfold hasC
 rw[List.take_succ_eq_append_getElem h,List.any_append]
 simp
theorem hasC_hit (l:List ReqV) (i k:Nat) (hk:k<i) (h:k<l.length) (c:Int) (e:l[k].client =c):hasC (l.take i) c=true:=by
 unfold hasC
 rw[List.any_eq_true]
 refine⟨l[k],?_,by simpa using e⟩
 rw[List.mem_take_iff_getElem]
 exact⟨k,by omega,rfl⟩
set_option maxHeartbeats 4000000 in
theorem RefReqs_any (v:Value) (l:List ReqV) (w:World) (h:RdR w v l):Calls Try.prog 68 #[v] w (SaysB (reqsF l) w):=by
 have hm:=h.len
 obtain⟨a,cap,rfl⟩:=h.form
 unfold reqsF
 by_cases c3:l.length<=3
 case neg=>
  rw[decide_eq_false c3]
  clear h
  have d3:decide (3<(l.length:Int))=true:=by simp;omega
  generalize l.length=L at*
  go_enter Try.func68,Try.ntmps68
  go_wp2
  go_ret
  exact⟨by simp,Below.refl _ _⟩
 have d3:decide (3<(l.length:Int))=false:=by simp;omega
 rw[decide_eq_true c3,Bool.true_and]
 have HA:=hid (fun i hi=>rdr_at h i hi)
 have HD:=hid (okR_step l)
 have HE:=hid (okR_all l)
 have HS:=hid (hasC_step l)
 have HH:=hid (hasC_hit l)
 clear h
 obtain⟨L,hL⟩: ∃L,l.length=L:=⟨_,rfl⟩
 have HL:=hid hL
 rw[hL] at hm c3 d3 HE ⊢
 clear hL
 go_enter Try.func68,Try.ntmps68
 go_wp2
 go_loopw [3,4] (fun i z wr=> ∃j:Nat,j<=L/\i= .int .i64 j/\Hid (Below w.heap.size w wr)/\Hid (okR [] l=okR (l.take j) (l.drop j))) (fun i _ _=>L - (intOf i).toNat)
 case atStart=>exact⟨0,by omega,rfl,hid (Below.refl _ _),hid rfl⟩
 case round=>
  obtain⟨j,hj,rfl,HB,ha⟩:=hrel
  by_cases hlt:j<L
  ·have hjl:j<l.length:=by rw[HL.out];exact hlt
   obtain⟨b,o,rfl,hc⟩:=HA.out j hjl
   obtain⟨q0,q1,q2,q3,q4⟩:=hc _ HB.out
   have HX:Hid (∀k (hk:k<l.length) (w':World),Below w.heap.size w w'->w'.cell? ⟨b,o+k*5,none⟩=some (.int .i64 l[k].client)):=fun k hk w' hb=>by
    obtain⟨b',o',e,hc'⟩:=HA.out k hk
    cases e
    exact(hc' w' hb).1
   have hd:=HD.out j hjl
   have cm:=fun W=>RefMayReq_any l[j] W
   clear HA HD hc
   have HJ:=hid (HX.out j hjl)
   generalize l[j]=x at q0 q1 q2 q3 q4 hd cm HJ
   obtain⟨xc,xs,xk,xn,xm⟩:=x
   unfold reqVal at cm
   dsimp only at q0 q1 q2 q3 q4 hd cm HJ
   have CM:=hid cm
   have hj0:(0:Int)<=(j:Int):=by omega
   clear cm
   generalize hHM:mayR ⟨xc,xs,xk,xn,xm⟩=HM at hd CM
   clear hHM
   cases HM
   case false=>
    have H:=hid hd
    clear hd
    go_wp2_with (go_at_call 77;refine(CM.out _).mono ?_;rintro e w1 ⟨rfl,hb1⟩)
    go_ret
    exact⟨by rw[ha.out,H.out];simp,step HB.out hb1⟩
   have H:=hid hd
   clear hd
   go_upto_region 8 with (go_at_call 77;refine(CM.out _).mono ?_;rintro e w1 ⟨rfl,hb1⟩;have HB1:=hid (step HB.out hb1))
   clear hb1 q0 q1 q2 q3 q4 CM
   go_wp2
   go_loopw [4] (fun i wr=> ∃k:Nat,k<=j/\i= .int .i64 k/\Hid (Below w.heap.size w wr)/\Hid (hasC (l.take k) xc=false)) (fun i _=>j - (intOf i).toNat)
   case atStart=>exact⟨0,by omega,rfl,HB1,hid (by simp [hasC])⟩
   case round=>
    obtain⟨k,hk,rfl,HB2,hf⟩:=hrel
    by_cases hkj:k<j
    ·have hkl:k<l.length:=by omega
     have p0:=HX.out k hkl _ HB2.out
     have p1:=HJ.out _ HB2.out
     have hs:=HS.out k hkl xc
     have hh:=HH.out j k hkj hkl xc
     have hk0:(0:Int)<=(k:Int):=by omega
     have hk1:(k:Int)<(L:Int):=by omega
     have hj1:(j:Int)<(L:Int):=by omega
     generalize l[k].client =y at p0 hs hh
     by_cases e:y=xc
     ·have d:(y==xc)=true:=by simpa using e
      have HHH:=hid (hh e)
      clear hh hs e HX HJ HS HH
      go_upto_region 11 with fail
      go_quiet (fail)
      go_wp2
      go_ret
      exact⟨by rw[ha.out,H.out,HHH.out];simp,below_drewB HB2.out nq⟩
     ·have d:(y==xc)=false:=by simpa using e
      have HSS:Hid (hasC (l.take (k+1)) xc=false):=hid (by rw[hs,hf.out];simpa using e)
      clear hh hs e HX HJ HS HH
      go_upto_region 11 with fail
      go_quiet (fail)
      go_wp2
      go_roundw
      case rel=>exact⟨k+1,by omega,by go_num,hid (below_drewB HB2.out nq),HSS⟩
      case measure=>simp [intOf];omega
    ·obtain rfl:k=j:=by omega
     clear HX HJ HS HH
     go_wp2
     go_roundw
     case rel=>exact⟨k+1,by omega,by go_num,HB2,hid (by rw[ha.out,H.out,hf.out];simp)⟩
     case measure=>simp [intOf];omega
  ·obtain rfl:j=L:=by omega
   go_wp2
   go_ret
   exact⟨by rw[ha.out,HE.out];rfl,HB.out⟩
end Cm
end Go.Proofs.Ytbpmfjjbfiiiaaa
