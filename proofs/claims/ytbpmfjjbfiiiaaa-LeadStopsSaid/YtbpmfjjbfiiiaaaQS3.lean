/- Texts laid together by program. -/
import Derived.Test.YtbpmfjjbfiiiaaaQS2
import Derived.Shelf.Abstract
import Derived.Laws.StructEq
/- Contracts: slices.IndexFunc, slices.ContainsFunc over requests, whatever the test. -/
set_option linter.unusedVariables false
set_option maxRecDepth 8000
set_option linter.unusedSimpArgs false
namespace Go.Proofs.Ytbpmfjjbfiiiaaa
open Lib (hid)
open Go.RowKit Go.Shelf
namespace Cm

set_option maxHeartbeats 2000000 in
theorem IdxR_any (p:ReqV->Bool) (g:Nat) (lb:Array Value) (eg: ∀args w,(callFunc g args).run Try.prog w= .ok (.enter g args) w) (v:Value) (l:List ReqV) (w:World) (h:RdR w v l)
  (hp: ∀(W:World) (x:ReqV),Below w.heap.size w W->Calls Try.prog g (#[reqVal x]++lb) W (SaysB (p x) W)):
  Calls Try.prog 70 #[v,.func (.func g) #[] lb] w (SaysI (idxI p l) w):=by
 have hm:=h.len
 obtain⟨a,cap,rfl⟩:=h.form
 have HA:=hid (fun i hi=>rdr_at h i hi)
 have HP:=hid hp
 have HH:=hid (idxI_hit p l)
 have HM:=hid (idxI_miss p l)
 clear h hp
 obtain⟨L,hL⟩: ∃L,l.length=L:=⟨_,rfl⟩
 have HLL:=hid hL
 rw[hL] at hm ⊢
 clear hL
 go_enter Try.func70,Try.ntmps70
 go_wp2
 go_loopg [5,8] L (fun gg _ s8 wr=> ∃kk:Nat,kk<=L/\L - kk<=gg/\s8= .int .i64 kk/\Hid (Below w.heap.size w wr)/\Hid (∀j (hj:j<kk) (hl:j<l.length),p l[j]=false))
 case atStart=>exact⟨0,Nat.zero_le _,by omega,rfl,hid (Below.refl _ w),hid (fun j hj=>absurd hj (Nat.not_lt_zero _))⟩
 case round=>
  obtain⟨kk,hkk,hg,rfl,HB,HJ⟩:=hrel
  by_cases hlt:kk<L
  ·have hkl:kk<l.length:=by rw[HLL.out];exact hlt
   obtain⟨b,o,rfl,hc⟩:=HA.out kk hkl
   obtain⟨q0,q1,q2,q3,q4⟩:=hc _ HB.out
   have hcall:=HP.out wr l[kk] HB.out
   have HI:Hid (p l[kk]=true->idxI p l=kk):=hid (fun q=>HH.out kk hkl q (fun j hj=>HJ.out j hj (by omega)))
   have HN:Hid (p l[kk]=false-> ∀j (hj:j<kk+1) (hl:j<l.length),p l[j]=false):=hid (fun q j hj hl=>by
    by_cases e:j=kk
    ·subst e;exact q
    ·exact HJ.out j (by omega) hl)
   clear hc HH HM HA HP
   generalize l[kk]=x at q0 q1 q2 q3 q4 hcall HI HN
   obtain⟨gc,gn,gk,gs,gm⟩:=x
   dsimp only at q0 q1 q2 q3 q4
   unfold reqVal at hcall
   dsimp only at hcall
   cases hq:p ⟨gc,gn,gk,gs,gm⟩ with
   | true=>
    rw[hq] at hcall
    have HC:=hid hcall
    have HI:=hid (HI.out hq)
    clear hcall hq HN
    go_wp2_with (go_at_fn g;refine HC.out.mono ?_;rintro e w' ⟨rfl,hb'⟩)
    go_ret
    exact⟨by rw[HI.out];rfl,step HB.out hb'⟩
   | false=>
    rw[hq] at hcall
    have HC:=hid hcall
    have HN:=hid (HN.out hq)
    clear hcall hq HI
    go_wp2_with (go_at_fn g;refine HC.out.mono ?_;rintro e w' ⟨rfl,hb'⟩)
    go_roundg (L - (kk+1))
    case measure=>omega
    case rel=>exact⟨kk+1,by omega,by omega,by go_num,hid (step HB.out hb'),HN⟩
  ·obtain rfl:kk=L:=by omega
   have hmiss:=HM.out (fun j hj=>HJ.out j (by rw[<-HLL.out];exact hj) hj)
   have HMM:=hid hmiss
   clear hmiss HM HH HP
   go_wp2
   go_ret
   exact⟨by rw[HMM.out];rfl,HB.out⟩
theorem HasR_any (p:ReqV->Bool) (g:Nat) (lb:Array Value) (eg: ∀args w,(callFunc g args).run Try.prog w= .ok (.enter g args) w) (v:Value) (l:List ReqV) (w:World) (h:RdR w v l)
  (hp: ∀(W:World) (x:ReqV),Below w.heap.size w W->Calls Try.prog g (#[reqVal x]++lb) W (SaysB (p x) W)):
  Calls Try.prog 60 #[v,.func (.func g) #[] lb] w (SaysB (l.any p) w):=by
 rw[<-idxI_any]
 have HC:=hid (IdxR_any p g lb eg v l w h hp)
 clear hp h
 generalize idxI p l=r at HC ⊢
 go_enter Try.func60,Try.ntmps60
 go_wp2_with (go_at_call 70;refine HC.out.mono ?_;rintro e w' ⟨rfl,hb'⟩)
 go_ret
 exact⟨by simp,hb'⟩
end Cm
end Go.Proofs.Ytbpmfjjbfiiiaaa

/- Contracts: the document's SameReqs, slices.Equal of requests. -/
set_option linter.unusedVariables false
set_option maxRecDepth 8000
set_option linter.unusedSimpArgs false
namespace Go.Proofs.Ytbpmfjjbfiiiaaa
open Lib (hid)
open Go.RowKit
namespace Cm

theorem below_drewB {B:Nat} {a w:World} (h:Below B a w) (n:Nat):Below B a (w.drewN n):=⟨h.os,h.tape,h.output,h.size,h.block⟩
theorem str_eqB (a b:List UInt8):((bstr a).toList ==(bstr b).toList)=decide (a=b):=by
 rw[ByteArray.toList_eq,ByteArray.toList_eq,bstr_toList,bstr_toList]
 by_cases h:a=b<;>simp [h]
set_option maxHeartbeats 4000000 in
theorem SameReqs_any (u v:Value) (l m:List ReqV) (w:World) (h:RdR w u l) (h2:RdR w v m):
  Calls Try.prog 36 #[u,v] w (SaysB (sameRs l m) w):=by
 have hm:=h.len
 have hm2:=h2.len
 obtain⟨a,cap,rfl⟩:=h.form
 obtain⟨a2,cap2,rfl⟩:=h2.form
 by_cases hn:l.length=m.length
 ·have HA:=hid (fun i hi=>rdr_at h i hi)
  have HA2:=hid (fun i hi=>rdr_at h2 i hi)
  have HD:=hid (sameRs_step l m)
  have HE:=hid (sameRs_end l m)
  clear h h2
  obtain⟨L,hL⟩: ∃L,l.length=L:=⟨_,rfl⟩
  have hL2:m.length=L:=by omega
  have HL:=hid hL
  have HL2:=hid hL2
  rw[hL] at hm ⊢
  rw[hL2] at hm2 ⊢
  clear hL hL2 hn
  go_enter Try.func36,Try.ntmps36
  go_wp2
  go_loopw [5] (fun i wr=> ∃j:Nat,j<=L/\i= .int .i64 j/\Hid (Below w.heap.size w wr)/\Hid (sameRs l m=sameRs (l.drop j) (m.drop j))) (fun i _=>L - (intOf i).toNat)
  case atStart=>exact⟨0,by omega,rfl,hid (Below.refl _ _),hid rfl⟩
  case round=>
   obtain⟨j,hj,rfl,HB,ha⟩:=hrel
   by_cases hlt:j<L
   ·have h1:j<l.length:=by rw[HL.out];exact hlt
    have h2:j<m.length:=by rw[HL2.out];exact hlt
    obtain⟨b,o,rfl,hc⟩:=HA.out j h1
    obtain⟨b',o',rfl,hc2⟩:=HA2.out j h2
    obtain⟨q0,q1,q2,q3,q4⟩:=hc _ HB.out
    obtain⟨p0,p1,p2,p3,p4⟩:=hc2 _ HB.out
    have hd:=HD.out j h1 h2
    clear HA HA2 HD hc hc2
    generalize l[j]=x at q0 q1 q2 q3 q4 hd
    generalize m[j]=y at p0 p1 p2 p3 p4 hd
    obtain⟨xc,xs,xk,xn,xm⟩:=x
    obtain⟨yc,ys,yk,yn,ym⟩:=y
    dsimp only at q0 q1 q2 q3 q4 p0 p1 p2 p3 p4
    clear h1 h2
    have hE:=str_eqB xm ym
    rw[show eqR ⟨xc,xs,xk,xn,xm⟩ ⟨yc,ys,yk,yn,ym⟩=(decide (xc=yc) && decide (xs=ys) && (decide (xk=yk) && decide (xn=yn) && decide (xm=ym))) from rfl] at hd
    by_cases e:xc=yc
    case neg=>
     have d0:(xc==yc)=false:=by simpa using e
     have H:Hid (sameRs (l.drop j) (m.drop j)=false):=hid (by rw[hd];simp [e])
     clear hd e hE
     go_upto_region 6 with fail
     go_quiet (fail)
     go_wp2
     go_ret
     exact⟨by rw[ha.out,H.out];rfl,below_drewB HB.out nq⟩
    have d0:(xc==yc)=true:=by simpa using e
    rw[decide_eq_true e] at hd
    clear e
    by_cases e:xs=ys
    case neg=>
     have d1:(xs==ys)=false:=by simpa using e
     have H:Hid (sameRs (l.drop j) (m.drop j)=false):=hid (by rw[hd];simp [e])
     clear hd e hE
     go_upto_region 6 with fail
     go_quiet (fail)
     go_wp2
     go_ret
     exact⟨by rw[ha.out,H.out];rfl,below_drewB HB.out nq⟩
    have d1:(xs==ys)=true:=by simpa using e
    rw[decide_eq_true e] at hd
    clear e
    by_cases e:xk=yk
    case neg=>
     have d2:(xk==yk)=false:=by simpa using e
     have H:Hid (sameRs (l.drop j) (m.drop j)=false):=hid (by rw[hd];simp [e])
     clear hd e hE
     go_upto_region 6 with fail
     go_quiet (fail)
     go_wp2
     go_ret
     exact⟨by rw[ha.out,H.out];rfl,below_drewB HB.out nq⟩
    have d2:(xk==yk)=true:=by simpa using e
    rw[decide_eq_true e] at hd
    clear e
    by_cases e:xn=yn
    case neg=>
     have d3:(xn==yn)=false:=by simpa using e
     have H:Hid (sameRs (l.drop j) (m.drop j)=false):=hid (by rw[hd];simp [e])
     clear hd e hE
     go_upto_region 6 with fail
     go_quiet (fail)
     go_wp2
     go_ret
     exact⟨by rw[ha.out,H.out];rfl,below_drewB HB.out nq⟩
    have d3:(xn==yn)=true:=by simpa using e
    rw[decide_eq_true e] at hd
    clear e
    by_cases e:xm=ym
    case neg=>
     rw[decide_eq_false e] at hE
     have H:Hid (sameRs (l.drop j) (m.drop j)=false):=hid (by rw[hd];simp [e])
     clear hd e
     go_upto_region 6 with fail
     go_quiet (fail)
     go_wp2
     go_ret
     exact⟨by rw[ha.out,H.out];rfl,below_drewB HB.out nq⟩
    rw[decide_eq_true e] at hE hd
    clear e
    rw[Bool.and_true,Bool.and_true,Bool.and_true,Bool.true_and] at hd
    have H:=hid hd
    clear hd
    go_upto_region 6 with fail
    go_quiet (fail)
    go_wp2
    go_roundw
    case rel=>exact⟨j+1,by omega,by go_num,hid (below_drewB HB.out nq),hid (by rw[ha.out,H.out])⟩
    case measure=>simp [intOf];omega
   ·obtain rfl:j=L:=by omega
    have H:=hid (HE.out j (by rw[HL.out];exact Nat.le_refl _) (by rw[HL2.out];exact Nat.le_refl _))
    go_wp2
    go_ret
    exact⟨by rw[ha.out,H.out];rfl,HB.out⟩
 ·rw[sameRs_len l m hn]
  clear h h2
  have e:((l.length:Int) != (m.length:Int))=true:=by simp;omega
  generalize l.length=L at*
  generalize m.length=M at*
  go_enter Try.func36,Try.ntmps36
  go_wp2
  go_ret
  exact⟨rfl,Below.refl _ _⟩
set_option maxHeartbeats 4000000 in
theorem EqualR_any (u v:Value) (l m:List ReqV) (w:World) (h:RdR w u l) (h2:RdR w v m):
  Calls Try.prog 46 #[u,v] w (SaysB (sameRs l m) w):=by
 have hm:=h.len
 have hm2:=h2.len
 obtain⟨a,cap,rfl⟩:=h.form
 obtain⟨a2,cap2,rfl⟩:=h2.form
 by_cases hn:l.length=m.length
 ·have HA:=hid (fun i hi=>rdr_at h i hi)
  have HA2:=hid (fun i hi=>rdr_at h2 i hi)
  have HD:=hid (sameRs_step l m)
  have HE:=hid (sameRs_end l m)
  clear h h2
  obtain⟨L,hL⟩: ∃L,l.length=L:=⟨_,rfl⟩
  have hL2:m.length=L:=by omega
  have HL:=hid hL
  have HL2:=hid hL2
  rw[hL] at hm ⊢
  rw[hL2] at hm2 ⊢
  clear hL hL2 hn
  go_enter Try.func46,Try.ntmps46
  go_wp2
  go_loopw [5,13] (fun z i wr=> ∃j:Nat,j<=L/\i= .int .i64 j/\Hid (Below w.heap.size w wr)/\Hid (sameRs l m=sameRs (l.drop j) (m.drop j))) (fun z i _=>L - (intOf i).toNat)
  case atStart=>exact⟨0,by omega,rfl,hid (Below.refl _ _),hid rfl⟩
  case round=>
   obtain⟨j,hj,rfl,HB,ha⟩:=hrel
   by_cases hlt:j<L
   ·have h1:j<l.length:=by rw[HL.out];exact hlt
    have h2:j<m.length:=by rw[HL2.out];exact hlt
    obtain⟨b,o,rfl,hc⟩:=HA.out j h1
    obtain⟨b',o',rfl,hc2⟩:=HA2.out j h2
    obtain⟨q0,q1,q2,q3,q4⟩:=hc _ HB.out
    obtain⟨p0,p1,p2,p3,p4⟩:=hc2 _ HB.out
    have hd:=HD.out j h1 h2
    clear HA HA2 HD hc hc2
    generalize l[j]=x at q0 q1 q2 q3 q4 hd
    generalize m[j]=y at p0 p1 p2 p3 p4 hd
    obtain⟨xc,xs,xk,xn,xm⟩:=x
    obtain⟨yc,ys,yk,yn,ym⟩:=y
    dsimp only at q0 q1 q2 q3 q4 p0 p1 p2 p3 p4
    clear h1 h2
    have hE:=str_eqB xm ym
    rw[show eqR ⟨xc,xs,xk,xn,xm⟩ ⟨yc,ys,yk,yn,ym⟩=(decide (xc=yc) && decide (xs=ys) && (decide (xk=yk) && decide (xn=yn) && decide (xm=ym))) from rfl] at hd
    by_cases e:xc=yc
    case neg=>
     have d0:(xc==yc)=false:=by simpa using e
     have H:Hid (sameRs (l.drop j) (m.drop j)=false):=hid (by rw[hd];simp [e])
     clear hd e hE
     go_upto_region 6 with fail
     go_quiet (fail)
     go_wp2
     go_ret
     exact⟨by rw[ha.out,H.out];rfl,below_drewB HB.out nq⟩
    have d0:(xc==yc)=true:=by simpa using e
    rw[decide_eq_true e] at hd
    clear e
    by_cases e:xs=ys
    case neg=>
     have d1:(xs==ys)=false:=by simpa using e
     have H:Hid (sameRs (l.drop j) (m.drop j)=false):=hid (by rw[hd];simp [e])
     clear hd e hE
     go_upto_region 6 with fail
     go_quiet (fail)
     go_wp2
     go_ret
     exact⟨by rw[ha.out,H.out];rfl,below_drewB HB.out nq⟩
    have d1:(xs==ys)=true:=by simpa using e
    rw[decide_eq_true e] at hd
    clear e
    by_cases e:xk=yk
    case neg=>
     have d2:(xk==yk)=false:=by simpa using e
     have H:Hid (sameRs (l.drop j) (m.drop j)=false):=hid (by rw[hd];simp [e])
     clear hd e hE
     go_upto_region 6 with fail
     go_quiet (fail)
     go_wp2
     go_ret
     exact⟨by rw[ha.out,H.out];rfl,below_drewB HB.out nq⟩
    have d2:(xk==yk)=true:=by simpa using e
    rw[decide_eq_true e] at hd
    clear e
    by_cases e:xn=yn
    case neg=>
     have d3:(xn==yn)=false:=by simpa using e
     have H:Hid (sameRs (l.drop j) (m.drop j)=false):=hid (by rw[hd];simp [e])
     clear hd e hE
     go_upto_region 6 with fail
     go_quiet (fail)
     go_wp2
     go_ret
     exact⟨by rw[ha.out,H.out];rfl,below_drewB HB.out nq⟩
    have d3:(xn==yn)=true:=by simpa using e
    rw[decide_eq_true e] at hd
    clear e
    by_cases e:xm=ym
    case neg=>
     rw[decide_eq_false e] at hE
     have H:Hid (sameRs (l.drop j) (m.drop j)=false):=hid (by rw[hd];simp [e])
     clear hd e
     go_upto_region 6 with fail
     go_quiet (fail)
     go_wp2
     go_ret
     exact⟨by rw[ha.out,H.out];rfl,below_drewB HB.out nq⟩
    rw[decide_eq_true e] at hE hd
    clear e
    rw[Bool.and_true,Bool.and_true,Bool.and_true,Bool.true_and] at hd
    have H:=hid hd
    clear hd
    go_upto_region 6 with fail
    go_quiet (fail)
    go_wp2
    go_roundw
    case rel=>exact⟨j+1,by omega,by go_num,hid (below_drewB HB.out nq),hid (by rw[ha.out,H.out])⟩
    case measure=>simp [intOf];omega
   ·obtain rfl:j=L:=by omega
    have H:=hid (HE.out j (by rw[HL.out];exact Nat.le_refl _) (by rw[HL2.out];exact Nat.le_refl _))
    go_wp2
    go_ret
    exact⟨by rw[ha.out,H.out];rfl,HB.out⟩
 ·rw[sameRs_len l m hn]
  clear h h2
  have e:((l.length:Int) != (m.length:Int))=true:=by simp;omega
  generalize l.length=L at*
  generalize m.length=M at*
  go_enter Try.func46,Try.ntmps46
  go_wp2
  go_ret
  exact⟨rfl,Below.refl _ _⟩
end Cm
end Go.Proofs.Ytbpmfjjbfiiiaaa
