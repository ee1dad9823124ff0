/- Texts laid together by program. -/
import Derived.Test.YtheenjkmglmihaaQ2
import Derived.Laws.StructEq
/- Contracts: the document's SameReqs, slices.Equal of requests. -/
set_option linter.unusedVariables false
set_option maxRecDepth 8000
set_option linter.unusedSimpArgs false
namespace Go.Proofs.Ytheenjkmglmihaa
open Lib (hid)
open Go.RowKit
namespace Cm

theorem below_drewB {B:Nat} {a w:World} (h:Below B a w) (n:Nat):Below B a (w.drewN n):=⟨h.os,h.tape,h.output,h.size,h.block⟩
theorem str_eqB (a b:List UInt8):((bstr a).toList ==(bstr b).toList)=decide (a=b):=by
 rw[ByteArray.toList_eq,ByteArray.toList_eq,bstr_toList,bstr_toList]
 by_cases h:a=b<;>simp [h]
set_option maxHeartbeats 4000000 in
theorem SameReqs_any (u v:Value) (l m:List ReqV) (w:World) (h:RdR w u l) (h2:RdR w v m):
  Calls Try.prog 35 #[u,v] w (SaysB (sameRs l m) w):=by
 have hm:=h.len
 have hm2:=h2.len
 obtain⟨a,cap,rfl⟩:=h.form
 obtain⟨a2,cap2,rfl⟩:=h2.form
 by_cases hn:l.length=m.length
 ·have HA:=hid (fun i hi=>rdr_at h i hi)
  have HA2:=hid (fun i hi=>rdr_at h2 i hi)
  have HD:=hid (sameRs_step l m)
  have HE:=hid (sameRs_end l m)
  clear h h2
  obtain⟨L,hL⟩: ∃L,l.length=L:=⟨_,rfl⟩
  have hL2:m.length=L:=by omega
  have HL:=hid hL
  have HL2:=hid hL2
  rw[hL] at hm ⊢
  rw[hL2] at hm2 ⊢
  clear hL hL2 hn
  go_enter Try.func35,Try.ntmps35
  go_wp2
  go_loopw [5] (fun i wr=> ∃j:Nat,j<=L/\i= .int .i64 j/\Hid (Below w.heap.size w wr)/\Hid (sameRs l m=sameRs (l.drop j) (m.drop j))) (fun i _=>L - (intOf i).toNat)
  case atStart=>exact⟨0,by omega,rfl,hid (Below.refl _ _),hid rfl⟩
  case round=>
   obtain⟨j,hj,rfl,HB,ha⟩:=hrel
   by_cases hlt:j<L
   ·have h1:j<l.length:=by rw[HL.out];exact hlt
    have h2:j<m.length:=by rw[HL2.out];exact hlt
    obtain⟨b,o,rfl,hc⟩:=HA.out j h1
    obtain⟨b',o',rfl,hc2⟩:=HA2.out j h2
    obtain⟨q0,q1,q2,q3,q4⟩:=hc _ HB.out
    obtain⟨p0,p1,p2,p3,p4⟩:=hc2 _ HB.out
    have hd:=HD.out j h1 h2
    clear HA HA2 HD hc hc2
    generalize l[j]=x at q0 q1 q2 q3 q4 hd
    generalize m[j]=y at p0 p1 p2 p3 p4 hd
    obtain⟨xc,xs,xk,xn,xm⟩:=x
    obtain⟨yc,ys,yk,yn,ym⟩:=y
    dsimp only at q0 q1 q2 q3 q4 p0 p1 p2 p3 p4
    clear h1 h2
    have hE:=str_eqB xm ym
    rw[show eqR ⟨xc,xs,xk,xn,xm⟩ ⟨yc,ys,yk,yn,ym⟩=(decide (xc=yc) && decide (xs=ys) && (decide (xk=yk) && decide (xn=yn) && decide (xm=ym))) from rfl] at hd
    by_cases e:xc=yc
    case neg=>
     have d0:(xc==yc)=false:=by simpa using e
     have H:Hid (sameRs (l.drop j) (m.drop j)=false):=hid (by rw[hd];simp [e])
     clear hd e hE
     go_upto_region 6 with fail
     go_quiet (fail)
     go_wp2
     go_ret
     exact⟨by rw[ha.out,H.out];rfl,below_drewB HB.out nq⟩
    have d0:(xc==yc)=true:=by simpa using e
    rw[decide_eq_true e] at hd
    clear e
    by_cases e:xs=ys
    case neg=>
     have d1:(xs==ys)=false:=by simpa using e
     have H:Hid (sameRs (l.drop j) (m.drop j)=false):=hid (by rw[hd];simp [e])
     clear hd e hE
     go_upto_region 6 with fail
     go_quiet (fail)
     go_wp2
     go_ret
     exact⟨by rw[ha.out,H.out];rfl,below_drewB HB.out nq⟩
    have d1:(xs==ys)=true:=by simpa using e
    rw[decide_eq_true e] at hd
    clear e
    by_cases e:xk=yk
    case neg=>
     have d2:(xk==yk)=false:=by simpa using e
     have H:Hid (sameRs (l.drop j) (m.drop j)=false):=hid (by rw[hd];simp [e])
     clear hd e hE
     go_upto_region 6 with fail
     go_quiet (fail)
     go_wp2
     go_ret
     exact⟨by rw[ha.out,H.out];rfl,below_drewB HB.out nq⟩
    have d2:(xk==yk)=true:=by simpa using e
    rw[decide_eq_true e] at hd
    clear e
    by_cases e:xn=yn
    case neg=>
     have d3:(xn==yn)=false:=by simpa using e
     have H:Hid (sameRs (l.drop j) (m.drop j)=false):=hid (by rw[hd];simp [e])
     clear hd e hE
     go_upto_region 6 with fail
     go_quiet (fail)
     go_wp2
     go_ret
     exact⟨by rw[ha.out,H.out];rfl,below_drewB HB.out nq⟩
    have d3:(xn==yn)=true:=by simpa using e
    rw[decide_eq_true e] at hd
    clear e
    by_cases e:xm=ym
    case neg=>
     rw[decide_eq_false e] at hE
     have H:Hid (sameRs (l.drop j) (m.drop j)=false):=hid (by rw[hd];simp [e])
     clear hd e
     go_upto_region 6 with fail
     go_quiet (fail)
     go_wp2
     go_ret
     exact⟨by rw[ha.out,H.out];rfl,below_drewB HB.out nq⟩
    rw[decide_eq_true e] at hE hd
    clear e
    rw[Bool.and_true,Bool.and_true,Bool.and_true,Bool.true_and] at hd
    have H:=hid hd
    clear hd
    go_upto_region 6 with fail
    go_quiet (fail)
    go_wp2
    go_roundw
    case rel=>exact⟨j+1,by omega,by go_num,hid (below_drewB HB.out nq),hid (by rw[ha.out,H.out])⟩
    case measure=>simp [intOf];omega
   ·obtain rfl:j=L:=by omega
    have H:=hid (HE.out j (by rw[HL.out];exact Nat.le_refl _) (by rw[HL2.out];exact Nat.le_refl _))
    go_wp2
    go_ret
    exact⟨by rw[ha.out,H.out];rfl,HB.out⟩
 ·rw[sameRs_len l m hn]
  clear h h2
  have e:((l.length:Int) != (m.length:Int))=true:=by simp;omega
  generalize l.length=L at*
  generalize m.length=M at*
  go_enter Try.func35,Try.ntmps35
  go_wp2
  go_ret
  exact⟨rfl,Below.refl _ _⟩
set_option maxHeartbeats 4000000 in
theorem EqualR_any (u v:Value) (l m:List ReqV) (w:World) (h:RdR w u l) (h2:RdR w v m):
  Calls Try.prog 56 #[u,v] w (SaysB (sameRs l m) w):=by
 have hm:=h.len
 have hm2:=h2.len
 obtain⟨a,cap,rfl⟩:=h.form
 obtain⟨a2,cap2,rfl⟩:=h2.form
 by_cases hn:l.length=m.length
 ·have HA:=hid (fun i hi=>rdr_at h i hi)
  have HA2:=hid (fun i hi=>rdr_at h2 i hi)
  have HD:=hid (sameRs_step l m)
  have HE:=hid (sameRs_end l m)
  clear h h2
  obtain⟨L,hL⟩: ∃L,l.length=L:=⟨_,rfl⟩
  have hL2:m.length=L:=by omega
  have HL:=hid hL
  have HL2:=hid hL2
  rw[hL] at hm ⊢
  rw[hL2] at hm2 ⊢
  clear hL hL2 hn
  go_enter Try.func56,Try.ntmps56
  go_wp2
  go_loopw [5,13] (fun z i wr=> ∃j:Nat,j<=L/\i= .int .i64 j/\Hid (Below w.heap.size w wr)/\Hid (sameRs l m=sameRs (l.drop j) (m.drop j))) (fun z i _=>L - (intOf i).toNat)
  case atStart=>exact⟨0,by omega,rfl,hid (Below.refl _ _),hid rfl⟩
  case round=>
   obtain⟨j,hj,rfl,HB,ha⟩:=hrel
   by_cases hlt:j<L
   ·have h1:j<l.length:=by rw[HL.out];exact hlt
    have h2:j<m.length:=by rw[HL2.out];exact hlt
    obtain⟨b,o,rfl,hc⟩:=HA.out j h1
    obtain⟨b',o',rfl,hc2⟩:=HA2.out j h2
    obtain⟨q0,q1,q2,q3,q4⟩:=hc _ HB.out
    obtain⟨p0,p1,p2,p3,p4⟩:=hc2 _ HB.out
    have hd:=HD.out j h1 h2
    clear HA HA2 HD hc hc2
    generalize l[j]=x at q0 q1 q2 q3 q4 hd
    generalize m[j]=y at p0 p1 p2 p3 p4 hd
    obtain⟨xc,xs,xk,xn,xm⟩:=x
    obtain⟨yc,ys,yk,yn,ym⟩:=y
    dsimp only at q0 q1 q2 q3 q4 p0 p1 p2 p3 p4
    clear h1 h2
    have hE:=str_eqB xm ym
    rw[show eqR ⟨xc,xs,xk,xn,xm⟩ ⟨yc,ys,yk,yn,ym⟩=(decide (xc=yc) && decide (xs=ys) && (decide (xk=yk) && decide (xn=yn) && decide (xm=ym))) from rfl] at hd
    by_cases e:xc=yc
    case neg=>
     have d0:(xc==yc)=false:=by simpa using e
     have H:Hid (sameRs (l.drop j) (m.drop j)=false):=hid (by rw[hd];simp [e])
     clear hd e hE
     go_upto_region 6 with fail
     go_quiet (fail)
     go_wp2
     go_ret
     exact⟨by rw[ha.out,H.out];rfl,below_drewB HB.out nq⟩
    have d0:(xc==yc)=true:=by simpa using e
    rw[decide_eq_true e] at hd
    clear e
    by_cases e:xs=ys
    case neg=>
     have d1:(xs==ys)=false:=by simpa using e
     have H:Hid (sameRs (l.drop j) (m.drop j)=false):=hid (by rw[hd];simp [e])
     clear hd e hE
     go_upto_region 6 with fail
     go_quiet (fail)
     go_wp2
     go_ret
     exact⟨by rw[ha.out,H.out];rfl,below_drewB HB.out nq⟩
    have d1:(xs==ys)=true:=by simpa using e
    rw[decide_eq_true e] at hd
    clear e
    by_cases e:xk=yk
    case neg=>
     have d2:(xk==yk)=false:=by simpa using e
     have H:Hid (sameRs (l.drop j) (m.drop j)=false):=hid (by rw[hd];simp [e])
     clear hd e hE
     go_upto_region 6 with fail
     go_quiet (fail)
     go_wp2
     go_ret
     exact⟨by rw[ha.out,H.out];rfl,below_drewB HB.out nq⟩
    have d2:(xk==yk)=true:=by simpa using e
    rw[decide_eq_true e] at hd
    clear e
    by_cases e:xn=yn
    case neg=>
     have d3:(xn==yn)=false:=by simpa using e
     have H:Hid (sameRs (l.drop j) (m.drop j)=false):=hid (by rw[hd];simp [e])
     clear hd e hE
     go_upto_region 6 with fail
     go_quiet (fail)
     go_wp2
     go_ret
     exact⟨by rw[ha.out,H.out];rfl,below_drewB HB.out nq⟩
    have d3:(xn==yn)=true:=by simpa using e
    rw[decide_eq_true e] at hd
    clear e
    by_cases e:xm=ym
    case neg=>
     rw[decide_eq_false e] at hE
     have H:Hid (sameRs (l.drop j) (m.drop j)=false):=hid (by rw[hd];simp [e])
     clear hd e
     go_upto_region 6 with fail
     go_quiet (fail)
     go_wp2
     go_ret
     exact⟨by rw[ha.out,H.out];rfl,below_drewB HB.out nq⟩
    rw[decide_eq_true e] at hE hd
    clear e
    rw[Bool.and_true,Bool.and_true,Bool.and_true,Bool.true_and] at hd
    have H:=hid hd
    clear hd
    go_upto_region 6 with fail
    go_quiet (fail)
    go_wp2
    go_roundw
    case rel=>exact⟨j+1,by omega,by go_num,hid (below_drewB HB.out nq),hid (by rw[ha.out,H.out])⟩
    case measure=>simp [intOf];omega
   ·obtain rfl:j=L:=by omega
    have H:=hid (HE.out j (by rw[HL.out];exact Nat.le_refl _) (by rw[HL2.out];exact Nat.le_refl _))
    go_wp2
    go_ret
    exact⟨by rw[ha.out,H.out];rfl,HB.out⟩
 ·rw[sameRs_len l m hn]
  clear h h2
  have e:((l.length:Int) != (m.length:Int))=true:=by simp;omega
  generalize l.length=L at*
  generalize m.length=M at*
  go_enter Try.func56,Try.ntmps56
  go_wp2
  go_ret
  exact⟨rfl,Below.refl _ _⟩
end Cm
end Go.Proofs.Ytheenjkmglmihaa
