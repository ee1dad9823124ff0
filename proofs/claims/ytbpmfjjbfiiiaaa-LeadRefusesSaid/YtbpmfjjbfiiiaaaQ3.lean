/- Texts laid together by program. -/
import Derived.Test.YtbpmfjjbfiiiaaaQ2
import Derived.Laws.StructEq
import Derived.Lib.QuietBelow
/- Contracts: the document's SameReqs, slices.Equal of requests. -/
set_option linter.unusedVariables false
set_option maxRecDepth 8000
set_option linter.unusedSimpArgs false
namespace Go.Proofs.Ytbpmfjjbfiiiaaa
open Lib (hid)
open Go.RowKit
namespace Cm

theorem below_drewB {B:Nat} {a w:World} (h:Below B a w) (n:Nat):Below B a (w.drewN n):=⟨h.os,h.tape,h.output,h.size,h.block⟩
theorem str_eqB (a b:List UInt8):((bstr a).toList ==(bstr b).toList)=decide (a=b):=by
 rw[ByteArray.toList_eq,ByteArray.toList_eq,bstr_toList,bstr_toList]
 by_cases h:a=b<;>simp [h]
set_option maxHeartbeats 4000000 in
theorem EqualR_any (u v:Value) (l m:List ReqV) (w:World) (h:RdR w u l) (h2:RdR w v m):
  Calls Try.prog 46 #[u,v] w (SaysB (sameRs l m) w):=by
 have hm:=h.len
 have hm2:=h2.len
 obtain⟨a,cap,rfl⟩:=h.form
 obtain⟨a2,cap2,rfl⟩:=h2.form
 by_cases hn:l.length=m.length
 ·have HA:=hid (fun i hi=>rdr_at h i hi)
  have HA2:=hid (fun i hi=>rdr_at h2 i hi)
  have HD:=hid (sameRs_step l m)
  have HE:=hid (sameRs_end l m)
  clear h h2
  obtain⟨L,hL⟩: ∃L,l.length=L:=⟨_,rfl⟩
  have hL2:m.length=L:=by omega
  have HL:=hid hL
  have HL2:=hid hL2
  rw[hL] at hm ⊢
  rw[hL2] at hm2 ⊢
  clear hL hL2 hn
  go_enter Try.func46,Try.ntmps46
  go_wp2
  go_loopw [5,13] (fun z i wr=> ∃j:Nat,j<=L/\i= .int .i64 j/\Hid (Below w.heap.size w wr)/\Hid (sameRs l m=sameRs (l.drop j) (m.drop j))) (fun z i _=>L - (intOf i).toNat)
  case atStart=>exact⟨0,by omega,rfl,hid (Below.refl _ _),hid rfl⟩
  case round=>
   obtain⟨j,hj,rfl,HB,ha⟩:=hrel
   by_cases hlt:j<L
   ·have h1:j<l.length:=by rw[HL.out];exact hlt
    have h2:j<m.length:=by rw[HL2.out];exact hlt
    obtain⟨b,o,rfl,hc⟩:=HA.out j h1
    obtain⟨b',o',rfl,hc2⟩:=HA2.out j h2
    obtain⟨q0,q1,q2,q3,q4⟩:=hc _ HB.out
    obtain⟨p0,p1,p2,p3,p4⟩:=hc2 _ HB.out
    have hd:=HD.out j h1 h2
    clear HA HA2 HD hc hc2
    generalize l[j]=x at q0 q1 q2 q3 q4 hd
    generalize m[j]=y at p0 p1 p2 p3 p4 hd
    obtain⟨xc,xs,xk,xn,xm⟩:=x
    obtain⟨yc,ys,yk,yn,ym⟩:=y
    dsimp only at q0 q1 q2 q3 q4 p0 p1 p2 p3 p4
    clear h1 h2
    have hE:=str_eqB xm ym
    rw[show eqR ⟨xc,xs,xk,xn,xm⟩ ⟨yc,ys,yk,yn,ym⟩=(decide (xc=yc) && decide (xs=ys) && (decide (xk=yk) && decide (xn=yn) && decide (xm=ym))) from rfl] at hd
    by_cases e:xc=yc
    case neg=>
     have d0:(xc==yc)=false:=by simpa using e
     have H:Hid (sameRs (l.drop j) (m.drop j)=false):=hid (by rw[hd];simp [e])
     clear hd e hE
     go_upto_region 6 with fail
     go_quiet (fail)
     go_wp2
     go_ret
     exact⟨by rw[ha.out,H.out];rfl,below_drewB HB.out nq⟩
    have d0:(xc==yc)=true:=by simpa using e
    rw[decide_eq_true e] at hd
    clear e
    by_cases e:xs=ys
    case neg=>
     have d1:(xs==ys)=false:=by simpa using e
     have H:Hid (sameRs (l.drop j) (m.drop j)=false):=hid (by rw[hd];simp [e])
     clear hd e hE
     go_upto_region 6 with fail
     go_quiet (fail)
     go_wp2
     go_ret
     exact⟨by rw[ha.out,H.out];rfl,below_drewB HB.out nq⟩
    have d1:(xs==ys)=true:=by simpa using e
    rw[decide_eq_true e] at hd
    clear e
    by_cases e:xk=yk
    case neg=>
     have d2:(xk==yk)=false:=by simpa using e
     have H:Hid (sameRs (l.drop j) (m.drop j)=false):=hid (by rw[hd];simp [e])
     clear hd e hE
     go_upto_region 6 with fail
     go_quiet (fail)
     go_wp2
     go_ret
     exact⟨by rw[ha.out,H.out];rfl,below_drewB HB.out nq⟩
    have d2:(xk==yk)=true:=by simpa using e
    rw[decide_eq_true e] at hd
    clear e
    by_cases e:xn=yn
    case neg=>
     have d3:(xn==yn)=false:=by simpa using e
     have H:Hid (sameRs (l.drop j) (m.drop j)=false):=hid (by rw[hd];simp [e])
     clear hd e hE
     go_upto_region 6 with fail
     go_quiet (fail)
     go_wp2
     go_ret
     exact⟨by rw[ha.out,H.out];rfl,below_drewB HB.out nq⟩
    have d3:(xn==yn)=true:=by simpa using e
    rw[decide_eq_true e] at hd
    clear e
    by_cases e:xm=ym
    case neg=>
     rw[decide_eq_false e] at hE
     have H:Hid (sameRs (l.drop j) (m.drop j)=false):=hid (by rw[hd];simp [e])
     clear hd e
     go_upto_region 6 with fail
     go_quiet (fail)
     go_wp2
     go_ret
     exact⟨by rw[ha.out,H.out];rfl,below_drewB HB.out nq⟩
    rw[decide_eq_true e] at hE hd
    clear e
    rw[Bool.and_true,Bool.and_true,Bool.and_true,Bool.true_and] at hd
    have H:=hid hd
    clear hd
    go_upto_region 6 with fail
    go_quiet (fail)
    go_wp2
    go_roundw
    case rel=>exact⟨j+1,by omega,by go_num,hid (below_drewB HB.out nq),hid (by rw[ha.out,H.out])⟩
    case measure=>simp [intOf];omega
   ·obtain rfl:j=L:=by omega
    have H:=hid (HE.out j (by rw[HL.out];exact Nat.le_refl _) (by rw[HL2.out];exact Nat.le_refl _))
    go_wp2
    go_ret
    exact⟨by rw[ha.out,H.out];rfl,HB.out⟩
 ·rw[sameRs_len l m hn]
  clear h h2
  have e:((l.length:Int) != (m.length:Int))=true:=by simp;omega
  generalize l.length=L at*
  generalize m.length=M at*
  go_enter Try.func46,Try.ntmps46
  go_wp2
  go_ret
  exact⟨rfl,Below.refl _ _⟩
end Cm
end Go.Proofs.Ytbpmfjjbfiiiaaa

/- Contracts: package batch's Same, Valid, isNumber, hasClient, mayReqs, May, and the document's. -/
set_option linter.unusedVariables false
set_option maxRecDepth 8000
set_option linter.unusedSimpArgs false
namespace Go.Proofs.Ytbpmfjjbfiiiaaa
open Lib (hid)
open Go.RowKit Go.Shelf
namespace Cm

theorem isNumB_any (v:Int) (w:World):Calls Try.prog 33 #[.int .i64 v] w (Says (highF v 0) w):=by
  unfold highF
  by_cases h1:0<=v<;>by_cases h2:v<=2305843009213693952<;>
    (go_enter Try.func33,Try.ntmps33
     go_wp2
     go_ret
     exact⟨by simp [h1,h2]<;>omega,rfl⟩)
def tipVal (a b:Int):Value:=.agg #[.int .i64 a,.int .i64 b]
set_option maxHeartbeats 2000000 in
theorem SameB_any (a b:BatV) (u v:Value) (w:World) (h:RdR w u a.reqs) (h2:RdR w v b.reqs):Calls Try.prog 32 #[batVal a u,batVal b v] w (SaysB (sameB a b) w):=by
 obtain⟨fa,va,ta,sa,ma,la⟩:=a
 obtain⟨fb,vb,tb,sb,mb,lb⟩:=b
 unfold batVal
 dsimp only at h h2 ⊢
 have HB:=hid (stepAlloc (newAlloc w (.cells #[.bool fa,.int .i64 va,.int .i64 ta,.int .i64 sa,.int .i64 ma,u] 42)) (.cells #[.bool fb,.int .i64 vb,.int .i64 tb,.int .i64 sb,.int .i64 mb,v] 42))
 have CS:=hid (EqualR_any u v la lb _ (h.later HB.out) (h2.later HB.out))
 rw[show sameB ⟨fa,va,ta,sa,ma,la⟩ ⟨fb,vb,tb,sb,mb,lb⟩=(decide (fa=fb) && decide (va=vb) && (decide (ta=tb) && decide (sa=sb)) && decide (ma=mb) && sameRs la lb) from rfl]
 obtain⟨ua,uc,rfl⟩:=h.form
 obtain⟨xa,xc,rfl⟩:=h2.form
 clear h h2
 generalize sameRs la lb=S at CS ⊢
 generalize la.length=LA at*
 generalize lb.length=LB at*
 by_cases e:fa=fb
 case neg=>
  have d0:(fa==fb)=false:=by simpa using e
  go_enter Try.func32,Try.ntmps32
  go_wp2
  go_ret
  exact⟨by simp [e],HB.out⟩
 have d0:(fa==fb)=true:=by simpa using e
 have e0:=hid e
 clear e
 by_cases e:va=vb
 case neg=>
  have d1:(va==vb)=false:=by simpa using e
  go_enter Try.func32,Try.ntmps32
  go_wp2
  go_ret
  exact⟨by simp [e],HB.out⟩
 have d1:(va==vb)=true:=by simpa using e
 have e1:=hid e
 clear e
 by_cases e:ta=tb
 case neg=>
  have d2:(ta==tb)=false:=by simpa using e
  go_enter Try.func32,Try.ntmps32
  go_wp2
  go_ret
  exact⟨by simp [e],HB.out⟩
 have d2:(ta==tb)=true:=by simpa using e
 have e2:=hid e
 clear e
 by_cases e:sa=sb
 case neg=>
  have d3:(sa==sb)=false:=by simpa using e
  go_enter Try.func32,Try.ntmps32
  go_wp2
  go_ret
  exact⟨by simp [e],HB.out⟩
 have d3:(sa==sb)=true:=by simpa using e
 have e3:=hid e
 clear e
 by_cases e:ma=mb
 case neg=>
  have d4:(ma==mb)=false:=by simpa using e
  go_enter Try.func32,Try.ntmps32
  go_wp2
  go_ret
  exact⟨by simp [e],HB.out⟩
 have d4:(ma==mb)=true:=by simpa using e
 have e4:=hid e
 clear e
 go_enter Try.func32,Try.ntmps32
 go_wp2_with (go_at_call 46;refine CS.out.mono ?_;rintro e w1 ⟨rfl,hb1⟩)
 go_ret
 exact⟨by simp [e0.out,e1.out,e2.out,e3.out,e4.out],step HB.out hb1⟩
def validF (p q:Int) (b:BatV):Bool:= !b.fill && (decide (b.tv=p) && decide (b.ts=q))
theorem ValidB_any (b:BatV) (v:Value) (p q:Int) (w:World):Calls Try.prog 12 #[tipVal p q,batVal b v] w (SaysB (validF p q b) w):=by
 obtain⟨fb,vb,tb,sb,mb,lb⟩:=b
 unfold batVal tipVal validF
 dsimp only
 have HB:=hid (stepAlloc (newAlloc w (.cells #[.int .i64 p,.int .i64 q] 28)) (.cells #[.bool fb,.int .i64 vb,.int .i64 tb,.int .i64 sb,.int .i64 mb,v] 42))
 cases fb
 case true=>
  go_enter Try.func12,Try.ntmps12
  go_wp2
  go_ret
  exact⟨by simp,HB.out⟩
 by_cases e1:tb=p
 case neg=>
  have d1:(tb==p)=false:=by simpa using e1
  have E1:=hid e1
  clear e1
  go_enter Try.func12,Try.ntmps12
  go_wp2
  go_ret
  exact⟨by simp [E1.out],HB.out⟩
 have d1:(tb==p)=true:=by simpa using e1
 have E1:=hid e1
 clear e1
 by_cases e2:sb=q
 case neg=>
  have d2:(sb==q)=false:=by simpa using e2
  have E2:=hid e2
  clear e2
  go_enter Try.func12,Try.ntmps12
  go_wp2
  go_ret
  exact⟨by simp [E2.out],HB.out⟩
 have d2:(sb==q)=true:=by simpa using e2
 have E2:=hid e2
 clear e2
 go_enter Try.func12,Try.ntmps12
 go_wp2
 go_ret
 exact⟨by simp [E1.out,E2.out],HB.out⟩
theorem enters_hasC: ∀args w,(callFunc 61 args).run Try.prog w= .ok (.enter 61 args) w:=enters_of Try.func61 (by kernel_rfl) rfl
theorem hasC1_any (r:ReqV) (w:World) (b:Nat) (c:Int) (hb:w.cell? ⟨b,0,none⟩=some (.int .i64 c)):
  Calls Try.prog 61 #[reqVal r,.pointer (some ⟨b,0,none⟩)] w (SaysB (decide (r.client=c)) w):=by
 obtain⟨gc,gq,gk,gs,gn⟩:=r
 unfold reqVal
 dsimp only
 have HB:=hid (newAlloc w (.cells #[.int .i64 gc,.int .i64 gq,.int .i64 gk,.int .i64 gs,.string (bstr gn)] 71))
 have z1:=(HB.out.cell (lt_of_cell hb)).trans hb
 clear hb
 go_enter Try.func61,Try.ntmps61
 go_wp2
 go_ret
 exact⟨by simp<;>rfl,HB.out⟩
theorem box1_atB (w:World) (v:Value) (t:TypeId) (w':World) (hb:Below (w.alloc (.cells #[v] t)).heap.size (w.alloc (.cells #[v] t)) w'):w'.cell? ⟨w.heap.size,0,none⟩=some v:=by
 have h:(w.alloc (.cells #[v] t)).cell? ⟨w.heap.size,0,none⟩=some v:=by simp
 exact(hb.cell (lt_of_cell h)).trans h
theorem hasClient_any (v:Value) (l:List ReqV) (c:Int) (w:World) (h:RdR w v l):Calls Try.prog 48 #[v,.int .i64 c] w (SaysB (hasC l c) w):=by
 have hmf: ∀(fn:Fn) (first cap:Array Value) (w:World),(Instr.makeFunc fn first cap).run Try.prog w= .ok (.func fn first cap) w:=fun _ _ _ _=>rfl
 have HI:=hid (HasR_any (fun r=>decide (r.client=c)) 61 #[.pointer (some ⟨w.heap.size,0,none⟩)] enters_hasC v l (w.alloc (.cells #[.int .i64 c] 3)) (h.later (newAlloc _ _))
  (fun W x hb=>hasC1_any x W w.heap.size c (box1_atB w _ _ W hb)))
 have HB:=hid (newAlloc w (.cells #[.int .i64 c] 3))
 rw[show hasC l c=l.any (fun r=>decide (r.client=c)) from rfl]
 obtain⟨a,cap,rfl⟩:=h.form
 clear h
 generalize l.any (fun r:ReqV=>decide (r.client=c))=r at HI ⊢
 generalize l.length=L at*
 go_enter Try.func48,Try.ntmps48
 go_wp2_with (go_at_call 60;refine HI.out.mono ?_;rintro e w' ⟨rfl,hb'⟩)
 go_ret
 exact⟨rfl,step HB.out hb'⟩
theorem okR_all (l:List ReqV):okR (l.take l.length) (l.drop l.length)=true:=by
 rw[List.drop_eq_nil_of_le (Nat.le_refl _)]
 rfl
set_option maxHeartbeats 4000000 in
theorem mayReqs_any (v:Value) (l:List ReqV) (w:World) (h:RdR w v l):Calls Try.prog 34 #[v] w (SaysB (reqsF l) w):=by
 have hm:=h.len
 obtain⟨a,cap,hv,hlc,hcm, -⟩:=h.ex
 subst hv
 unfold reqsF
 by_cases c3:l.length<=3
 case neg=>
  rw[decide_eq_false c3]
  clear h
  have d3:decide (3<(l.length:Int))=true:=by simp;omega
  generalize l.length=L at*
  go_enter Try.func34,Try.ntmps34
  go_wp2
  go_ret
  exact⟨by simp,Below.refl _ _⟩
 have d3:decide (3<(l.length:Int))=false:=by simp;omega
 rw[decide_eq_true c3,Bool.true_and]
 have HA:=hid (fun i hi=>rdr_at h i hi)
 have HT:=hid (fun i hi=>h.take i hi)
 have HD:=hid (okR_step l)
 have HE:=hid (okR_all l)
 clear h
 obtain⟨L,hL⟩: ∃L,l.length=L:=⟨_,rfl⟩
 have HL:=hid hL
 rw[hL] at hm c3 d3 HT HE hlc ⊢
 clear hL
 go_enter Try.func34,Try.ntmps34
 go_wp2
 go_loopw [3,4,10] (fun x y i wr=> ∃j:Nat,j<=L/\i= .int .i64 j/\Hid (Below w.heap.size w wr)/\Hid (okR [] l=okR (l.take j) (l.drop j))) (fun _ _ i _=>L - (intOf i).toNat)
 case atStart=>exact⟨0,by omega,rfl,hid (Below.refl _ _),hid rfl⟩
 case round=>
  obtain⟨j,hj,rfl,HB,ha⟩:=hrel
  by_cases hlt:j<L
  ·have hjl:j<l.length:=by rw[HL.out];exact hlt
   obtain⟨b,o,rfl,hc⟩:=HA.out j hjl
   obtain⟨q0,q1,q2,q3,q4⟩:=hc _ HB.out
   have hd:=HD.out j hjl
   have ht:=HT.out j hj
   clear HA HT HD hc
   generalize l[j]=x at q0 q1 q2 q3 q4 hd
   have HB1:=hid (stepAlloc HB.out (.cells #[.int .i64 x.client,.int .i64 x.seq,.int .i64 x.cmd.kind,.int .i64 x.cmd.session,.string (bstr x.cmd.name)] 71))
   have cm:=fun W=>MayReq_any x W
   have ch:=fun W (hb:Below w.heap.size w W)=>hasClient_any _ (l.take j) x.client W (ht.later hb)
   obtain⟨y0,y1,y2,y3,y4⟩:=box5 (Below.refl _ (wr.alloc (.cells #[.int .i64 x.client,.int .i64 x.seq,.int .i64 x.cmd.kind,.int .i64 x.cmd.session,.string (bstr x.cmd.name)] 71)))
   generalize hasC (l.take j) x.client=HC at hd ch
   generalize mayR x=HM at hd cm
   obtain⟨xc,xs,xk,xn,xm⟩:=x
   unfold reqVal at cm
   dsimp only at q0 q1 q2 q3 q4 hd cm ch y0 y1 y2 y3 y4 HB1
   have CM:=hid cm
   have CH:=hid ch
   have hj0:(0:Int)<=(j:Int):=by omega
   have hj1:(j:Int)<=(cap:Int):=by omega
   clear cm ch ht hjl
   go_upto_region 6 with fail
   have k0:=cell_regrown y0
   have k1:=cell_regrown y1
   have k2:=cell_regrown y2
   have k3:=cell_regrown y3
   have k4:=cell_regrown y4
   generalize hW:wr.alloc (.cells #[.int .i64 xc,.int .i64 xs,.int .i64 xk,.int .i64 xn,.string (bstr xm)] 71)=W at*
   have D1:=hid (fun d os=>Calls.regrown_of (w:=W) (d:=d) (os:=os) (CM.out _))
   have D2:=hid (fun d os=>Calls.regrown_of (w:=W) (d:=d) (os:=os) (CH.out _ (step HB1.out (below_regrown W d os))))
   clear y0 y1 y2 y3 y4 q0 q1 q2 q3 q4 hW CM CH
   cases HM
   case false=>
    have H:=hid hd
    clear hd
    refine wp_region_quiet_below (by kernel_rfl) (by kernel_rfl) ?_
    repeat (go_big_quiet_step (first
     | exact D1.out _ _))
    refine wpQuiet_nil ?_
    intro _ hw'
    obtain⟨⟨dq,osq⟩,hw''⟩:=hw'
    subst hw''
    go_wp2
    go_ret
    exact⟨by rw[ha.out,H.out];simp,step HB1.out (below_regrown W dq osq)⟩
   cases HC
   case true=>
    have H:=hid hd
    clear hd
    refine wp_region_quiet_below (by kernel_rfl) (by kernel_rfl) ?_
    repeat (go_big_quiet_step (first
     | exact D1.out _ _
     | exact D2.out _ _))
    refine wpQuiet_nil ?_
    intro _ hw'
    obtain⟨⟨dq,osq⟩,hw''⟩:=hw'
    subst hw''
    go_wp2
    go_ret
    exact⟨by rw[ha.out,H.out];simp,step HB1.out (below_regrown W dq osq)⟩
   have H:=hid hd
   clear hd
   refine wp_region_quiet_below (by kernel_rfl) (by kernel_rfl) ?_
   repeat (go_big_quiet_step (first
    | exact D1.out _ _
    | exact D2.out _ _))
   refine wpQuiet_nil ?_
   intro _ hw'
   obtain⟨⟨dq,osq⟩,hw''⟩:=hw'
   subst hw''
   go_wp2
   go_roundw
   case rel=>exact⟨j+1,by omega,by go_num,hid (step HB1.out (below_regrown W dq osq)),hid (by rw[ha.out,H.out];simp)⟩
   case measure=>simp [intOf];omega
  ·obtain rfl:j=L:=by omega
   go_wp2
   go_ret
   exact⟨by rw[ha.out,HE.out];rfl,HB.out⟩
theorem hasC_step (l:List ReqV) (k:Nat) (h:k<l.length) (c:Int):hasC (l.take (k+1)) c=(hasC (l.take k) c || decide (l[k].client =c)):=by
 unfold hasC
 rw[List.take_succ_eq_append_getElem h,List.any_append]
 simp
end Cm
end Go.Proofs.Ytbpmfjjbfiiiaaa

/- Contracts: package batch's May, and the document's. -/
set_option linter.unusedVariables false
set_option maxRecDepth 8000
set_option linter.unusedSimpArgs false
namespace Go.Proofs.Ytbpmfjjbfiiiaaa
open Lib (hid)
open Go.RowKit
namespace Cm

theorem sameRs_nil (l:List ReqV):sameRs l []=decide (l.length=0):=by
 cases l<;>simp [sameRs]
theorem may_fill (v t s m:Int) (l:List ReqV):mayB ⟨true,v,t,s,m,l⟩=sameB ⟨true,v,t,s,m,l⟩ fillB:=by
 unfold mayB sameB fillB
 simp [sameRs_nil]
set_option maxHeartbeats 2000000 in
theorem MayB_any (b:BatV) (u:Value) (w:World) (h:RdR w u b.reqs):Calls Try.prog 11 #[batVal b u] w (SaysB (mayB b) w):=by
 obtain⟨fb,vb,tb,sb,mb,lb⟩:=b
 have HB:=hid (newAlloc w (.cells #[.bool fb,.int .i64 vb,.int .i64 tb,.int .i64 sb,.int .i64 mb,u] 42))
 dsimp only at h
 cases fb
 case true=>
  have CS:=hid (SameB_any ⟨true,vb,tb,sb,mb,lb⟩ fillB u (.slice none 0 0) _ (h.later HB.out) (RdX.nil _))
  rw[may_fill]
  generalize sameB ⟨true,vb,tb,sb,mb,lb⟩ fillB=S at CS ⊢
  unfold batVal fillB at CS
  unfold batVal
  dsimp only at CS ⊢
  clear h
  go_enter Try.func11,Try.ntmps11
  go_wp2_with (go_at_call 32;refine CS.out.mono ?_;rintro e w1 ⟨rfl,hb1⟩)
  go_ret
  exact⟨rfl,step HB.out hb1⟩
 rw[show mayB ⟨false,vb,tb,sb,mb,lb⟩=(highF vb 0 && highF tb 0 && highF sb 0 && highF mb 0 && reqsF lb) from rfl]
 have C1:=hid (fun w=>isNumB_any vb w)
 have C2:=hid (fun w=>isNumB_any tb w)
 have C3:=hid (fun w=>isNumB_any sb w)
 have C4:=hid (fun w=>isNumB_any mb w)
 have C5:=hid (mayReqs_any u lb _ (h.later HB.out))
 obtain⟨ua,uc,rfl⟩:=h.form
 unfold batVal
 dsimp only
 clear h
 generalize lb.length=L at*
 generalize highF vb 0=H1 at C1 ⊢
 generalize highF tb 0=H2 at C2 ⊢
 generalize highF sb 0=H3 at C3 ⊢
 generalize highF mb 0=H4 at C4 ⊢
 generalize reqsF lb=H5 at C5 ⊢
 cases H1
 case false=>
  go_enter Try.func11,Try.ntmps11
  go_wp2_with fail
  refine(C1.out _).mono ?_
  rintro e w1 ⟨rfl,rfl⟩
  go_wp2
  go_ret
  exact⟨by simp,HB.out⟩
 cases H2
 case false=>
  go_enter Try.func11,Try.ntmps11
  go_wp2_with fail
  refine(C1.out _).mono ?_
  rintro e w1 ⟨rfl,rfl⟩
  go_wp2_with fail
  refine(C2.out _).mono ?_
  rintro e w1 ⟨rfl,rfl⟩
  go_wp2
  go_ret
  exact⟨by simp,HB.out⟩
 cases H3
 case false=>
  go_enter Try.func11,Try.ntmps11
  go_wp2_with fail
  refine(C1.out _).mono ?_
  rintro e w1 ⟨rfl,rfl⟩
  go_wp2_with fail
  refine(C2.out _).mono ?_
  rintro e w1 ⟨rfl,rfl⟩
  go_wp2_with fail
  refine(C3.out _).mono ?_
  rintro e w1 ⟨rfl,rfl⟩
  go_wp2
  go_ret
  exact⟨by simp,HB.out⟩
 cases H4
 case false=>
  go_enter Try.func11,Try.ntmps11
  go_wp2_with fail
  refine(C1.out _).mono ?_
  rintro e w1 ⟨rfl,rfl⟩
  go_wp2_with fail
  refine(C2.out _).mono ?_
  rintro e w1 ⟨rfl,rfl⟩
  go_wp2_with fail
  refine(C3.out _).mono ?_
  rintro e w1 ⟨rfl,rfl⟩
  go_wp2_with fail
  refine(C4.out _).mono ?_
  rintro e w1 ⟨rfl,rfl⟩
  go_wp2
  go_ret
  exact⟨by simp,HB.out⟩
 go_enter Try.func11,Try.ntmps11
 go_wp2_with fail
 refine(C1.out _).mono ?_
 rintro e w1 ⟨rfl,rfl⟩
 go_wp2_with fail
 refine(C2.out _).mono ?_
 rintro e w1 ⟨rfl,rfl⟩
 go_wp2_with fail
 refine(C3.out _).mono ?_
 rintro e w1 ⟨rfl,rfl⟩
 go_wp2_with fail
 refine(C4.out _).mono ?_
 rintro e w1 ⟨rfl,rfl⟩
 go_wp2_with (go_at_call 34;refine C5.out.mono ?_;rintro e w1 ⟨rfl,hb1⟩)
 go_ret
 exact⟨by simp,step HB.out hb1⟩
end Cm
end Go.Proofs.Ytbpmfjjbfiiiaaa

/- A row of bytes that grows beside others; contract: package batch's Put. -/
set_option linter.unusedVariables false
set_option maxRecDepth 8000
set_option linter.unusedSimpArgs false
namespace Go.Proofs.Ytbpmfjjbfiiiaaa
open Lib (hid)
open Go.RowKit
namespace Cm

structure PN (g:Nat) (o:Obj) (v:Value) (wr:World):Prop where
 at_:wr.heap[g]?=some o
 ne:v.ownBlock≠some g
theorem get_ltB {w:World} {a:Nat} {o:Obj} (h:w.heap[a]?=some o):a<w.heap.size:=(Array.getElem?_eq_some_iff.1 h).1
theorem PN.later {g:Nat} {o:Obj} {wr wx:World} {v:Value} (h:PN g o v wr) (hb:Below wr.heap.size wr wx):PN g o v wx:=
 ⟨(hb.block _ (get_ltB h.at_)).trans h.at_,h.ne⟩
theorem PN.push {g:Nat} {o:Obj} {wr wx:World} {v v':Value} (h:PN g o v wr) (hg:wr.grownBy wx v.ownBlock) (hat:v'.ownBlock=v.ownBlock\/v'.ownBlock=some wr.heap.size):PN g o v' wx:=by
 refine⟨(hg.block g (get_ltB h.at_) (fun q=>h.ne q.symm)).trans h.at_,?_⟩
 rcases hat with q | q
 ·rw[q];exact h.ne
 ·rw[q]
  intro e
  injection e with e
  have:=get_ltB h.at_
  omega
theorem PN.new (w:World) (o:Obj) (H:Nat) (v:Value) (hH:w.heap.size=H) (hv:v.ownBlock≠some H):PN H o v (w.alloc o):=by
 subst hH
 refine⟨?_,hv⟩
 show(w.heap.push o)[w.heap.size]?= _
 simp
theorem cell_at {w:World} {g:Nat} {cs:Array Value} {t:TypeId} (h:w.heap[g]?=some (.cells cs t)) (k:Nat):w.cell? ⟨g,k,none⟩=cs[k]?:=by
 simp [World.cell?,h]
end Cm
end Go.Proofs.Ytbpmfjjbfiiiaaa

/- Contracts: package batch's getReqs; the document's nums. -/
set_option linter.unusedVariables false
set_option maxRecDepth 8000
set_option linter.unusedSimpArgs false
namespace Go.Proofs.Ytbpmfjjbfiiiaaa
open Lib (hid)
open Go.RowKit
namespace Cm

theorem infoReqB:(Try.prog.info? 71).map (fun i=>(i.zero,i.size,i.bytes))=some (some (.agg #[.int .i64 0,.int .i64 0,.int .i64 0,.int .i64 0,.string ⟨#[]⟩]),5,48):=by kernel_rfl
theorem info_partsB {e:TypeId} {z:Option Value} {s b:Nat} (h:(Try.prog.info? e).map (fun i=>(i.zero,i.size,i.bytes))=some (z,s,b)): ∃i,Try.prog.info? e=some i/\i.zero=z/\i.size=s/\i.bytes=b:=by
 match hi:Try.prog.info? e with
 | none=>rw[hi] at h;cases h
 | some i=>
  rw[hi] at h
  simp at h
  exact⟨i,rfl,h.1,h.2.1,h.2.2⟩
end Cm
end Go.Proofs.Ytbpmfjjbfiiiaaa

/- Contract: package batch's Get. -/
set_option linter.unusedVariables false
set_option maxRecDepth 8000
set_option linter.unusedSimpArgs false
namespace Go.Proofs.Ytbpmfjjbfiiiaaa
open Lib (hid)
open Go.RowKit
namespace Cm

def batZero:Obj:=.cells #[.bool false,.int .i64 0,.int .i64 0,.int .i64 0,.int .i64 0,.slice none 0 0] 42
def batBox (G:List Int) (v:Value):Obj:=.cells #[.bool false,.int .i64 (G.getD 0 0),.int .i64 (G.getD 1 0),.int .i64 (G.getD 2 0),.int .i64 (G.getD 3 0),v] 42
theorem set_atB {w:World} {g:Nat} {cs:Array Value} {t:TypeId} (h:w.heap[g]?=some (.cells cs t)) (i:Nat) (u:Value):(w.setCell ⟨g,i,none⟩ u).heap[g]?=some (.cells (cs.setIfInBounds i u) t):=by
 have hl:=get_ltB h
 have h':w.heap[g]= .cells cs t:=by simpa [hl] using h
 simp [World.setCell,h',hl,Array.getElem_modify]
theorem frozen_at {w:World} {g:Nat} {cs:Array Value} {t:TypeId} (h:w.heap[g]?=some (.cells cs t)) (k:Nat):w.frozen? ⟨g,k,none⟩=false:=by
 simp [World.frozen?,h]
structure GB (w:World) (A:Nat) (o:Obj) (wr:World):Prop where
 below:Below w.heap.size w wr
 zero:wr.heap[w.heap.size]?=some batZero
 box:wr.heap[A]?=some o
 lt:w.heap.size<A
theorem GB.later {w:World} {A:Nat} {o:Obj} {wr wx:World} (h:GB w A o wr) (hb:Below wr.heap.size wr wx):GB w A o wx:=
 ⟨h.below.trans (hb.mono h.below.size),(hb.block _ (get_ltB h.zero)).trans h.zero,(hb.block _ (get_ltB h.box)).trans h.box,h.lt⟩
theorem GB.zc {w:World} {A:Nat} {o:Obj} {wr:World} (h:GB w A o wr):
  (wr.cell? ⟨w.heap.size,0,none⟩=some (.bool false)/\wr.cell? ⟨w.heap.size,1,none⟩=some (.int .i64 0)/\wr.cell? ⟨w.heap.size,2,none⟩=some (.int .i64 0)/\wr.cell? ⟨w.heap.size,3,none⟩=some (.int .i64 0)/\wr.cell? ⟨w.heap.size,4,none⟩=some (.int .i64 0)/\wr.cell? ⟨w.heap.size,5,none⟩=some (.slice none 0 0))/\ ∀k,wr.frozen? ⟨w.heap.size,k,none⟩=false:=by
 have hz:=h.zero
 unfold batZero at hz
 exact⟨⟨cell_at hz 0,cell_at hz 1,cell_at hz 2,cell_at hz 3,cell_at hz 4,cell_at hz 5⟩,frozen_at hz⟩
theorem GB.bc {w:World} {A:Nat} {G:List Int} {v:Value} {wr:World} (h:GB w A (batBox G v) wr):
  (wr.cell? ⟨A,0,none⟩=some (.bool false)/\wr.cell? ⟨A,1,none⟩=some (.int .i64 (G.getD 0 0))/\wr.cell? ⟨A,2,none⟩=some (.int .i64 (G.getD 1 0))/\wr.cell? ⟨A,3,none⟩=some (.int .i64 (G.getD 2 0))/\wr.cell? ⟨A,4,none⟩=some (.int .i64 (G.getD 3 0))/\wr.cell? ⟨A,5,none⟩=some v)/\ ∀k,wr.frozen? ⟨A,k,none⟩=false:=by
 have hz:=h.box
 unfold batBox at hz
 exact⟨⟨cell_at hz 0,cell_at hz 1,cell_at hz 2,cell_at hz 3,cell_at hz 4,cell_at hz 5⟩,frozen_at hz⟩
theorem GB.bc4 {w:World} {A:Nat} {a b c d:Int} {v:Value} {wr:World} (h:GB w A (batBox [a,b,c,d] v) wr):
  (wr.cell? ⟨A,0,none⟩=some (.bool false)/\wr.cell? ⟨A,1,none⟩=some (.int .i64 a)/\wr.cell? ⟨A,2,none⟩=some (.int .i64 b)/\wr.cell? ⟨A,3,none⟩=some (.int .i64 c)/\wr.cell? ⟨A,4,none⟩=some (.int .i64 d)/\wr.cell? ⟨A,5,none⟩=some v)/\ ∀k,wr.frozen? ⟨A,k,none⟩=false:=h.bc
theorem GB.list {w:World} {A:Nat} {G:List Int} {v:Value} {wr:World} (h:GB w A (batBox G v) wr) (u:Value):GB w A (batBox G u) (wr.setCell ⟨A,5,none⟩ u):=by
 refine⟨h.below.setCell (by have:=h.lt;show w.heap.size<=A;omega) _,?_,?_,h.lt⟩
 ·rw[Below.heap_setCell _ _ _ _ (by have:=h.lt;show w.heap.size≠A;omega)]
  exact h.zero
 ·have hb:=h.box
  unfold batBox at hb
  rw[set_atB hb]
  rfl
theorem set6z {w w1:World} (h:Below w.heap.size w w1) (x0 x1 x2 x3 x4 x5:Value):Below w.heap.size w ((((((w1.setCell ⟨w.heap.size,0,none⟩ x0).setCell ⟨w.heap.size,1,none⟩ x1).setCell ⟨w.heap.size,2,none⟩ x2).setCell ⟨w.heap.size,3,none⟩ x3).setCell ⟨w.heap.size,4,none⟩ x4).setCell ⟨w.heap.size,5,none⟩ x5):=
 (((((h.setCell (Nat.le_refl _) _).setCell (Nat.le_refl _) _).setCell (Nat.le_refl _) _).setCell (Nat.le_refl _) _).setCell (Nat.le_refl _) _).setCell (Nat.le_refl _) _
theorem alloc_atB (w:World) (o:Obj) (H:Nat) (hH:w.heap.size=H):(w.alloc o).heap[H]?=some o:=by
 subst hH
 show(w.heap.push o)[w.heap.size]?= _
 simp
theorem own_box {w':World} {base A n:Nat} {e:TypeId} {v:Value} {xs:List Value} (h:w'.ownsRow base e 5 v n xs) (hA:A<base) (u:Value):(w'.setCell ⟨A,5,none⟩ u).ownsRow base e 5 v n xs:=
 Rw.own_keep h fun g hg=>Below.heap_setCell _ _ _ _ (by have:=(Rw.own_lt h g hg).1;show g≠A;omega)
end Cm
end Go.Proofs.Ytbpmfjjbfiiiaaa
