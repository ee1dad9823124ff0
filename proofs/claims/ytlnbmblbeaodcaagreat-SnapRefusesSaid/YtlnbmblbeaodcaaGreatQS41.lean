/- Texts laid together by program. -/
import Derived.Test.YtlnbmblbeaodcaaGreatQS40
import Derived.Laws.StructEq
/- Package snap's Same, and what it calls: any two states. -/
set_option linter.unusedVariables false
set_option maxRecDepth 8000
set_option linter.unusedSimpArgs false
namespace Go.Proofs.YtlnbmblbeaodcaaGreat
open Lib (hid)
open Go.RowKit
namespace Cm

set_option maxHeartbeats 2000000 in
theorem EqualS_any (u v:Value) (l m:List SesV) (w:World) (h:RdS w u l) (h2:RdS w v m):
  Calls Tryz.prog 82 #[u,v] w (SaysB (sameL l m) w):=by
 have hm:=h.len
 have hm2:=h2.len
 obtain⟨a,cap,rfl⟩:=h.form
 obtain⟨a2,cap2,rfl⟩:=h2.form
 by_cases hn:l.length=m.length
 ·have HA:=hid (fun i hi=>rds_at h i hi)
  have HA2:=hid (fun i hi=>rds_at h2 i hi)
  have HD:=hid (sameL_drop l m)
  clear h h2
  obtain⟨L,hL⟩: ∃L,l.length=L:=⟨_,rfl⟩
  have hL2:m.length=L:=by omega
  rw[hL] at hm ⊢
  rw[hL2] at hm2 ⊢
  go_enter Tryz.func82,Tryz.ntmps82
  go_wp2
  go_loopw [13] (fun i wr=> ∃j:Nat,j<=L/\i= .int .i64 j/\Below w.heap.size w wr/\Hid (sameL l m=sameL (l.drop j) (m.drop j))) (fun i _=>L - (intOf i).toNat)
  case atStart=>exact⟨0,by omega,rfl,Below.refl _ _,hid rfl⟩
  case round=>
   obtain⟨j,hj,rfl,hb,ha⟩:=hrel
   have HB:=hid hb
   clear hb
   by_cases hlt:j<L
   ·obtain⟨b,o,rfl,hc⟩:=HA.out j (by omega)
    obtain⟨b',o',rfl,hc2⟩:=HA2.out j (by omega)
    obtain⟨q0,q1,q2⟩:=hc _ HB.out
    obtain⟨p0,p1,p2⟩:=hc2 _ HB.out
    have hd:=HD.out j (by omega) (by omega)
    clear HA HA2 HD hc hc2
    generalize l[j]=x at q0 q1 q2 hd
    generalize m[j]=y at p0 p1 p2 hd
    obtain⟨xc,xn,xr⟩:=x
    obtain⟨yc,yn,yr⟩:=y
    dsimp only at q0 q1 q2 p0 p1 p2
    have hse:sameE ⟨xc,xn,xr⟩ ⟨yc,yn,yr⟩=((xc==yc) && ((xn==yn) && (xr==yr))):=by unfold sameE;by_cases g1:xc=yc<;>by_cases g2:xn=yn<;>by_cases g3:xr=yr<;>simp [g1,g2,g3]
    rw[hse] at hd
    cases g1:(xc==yc)
    ·rw[g1,Bool.false_and,Bool.false_and] at hd
     have H:=hid hd
     clear hd hse
     go_upto_region 6 with fail
     go_quiet (fail)
     go_wp2
     go_ret
     exact⟨by rw[ha.out,H.out];rfl,below_drewN6 HB.out nq⟩
    ·cases g2:(xn==yn)
     ·rw[g1,g2,Bool.false_and,Bool.and_false,Bool.false_and] at hd
      have H:=hid hd
      clear hd hse
      go_upto_region 6 with fail
      go_quiet (fail)
      go_wp2
      go_ret
      exact⟨by rw[ha.out,H.out];rfl,below_drewN6 HB.out nq⟩
     ·cases g3:(xr==yr)
      ·rw[g1,g2,g3,Bool.and_false,Bool.and_false,Bool.false_and] at hd
       have H:=hid hd
       clear hd hse
       go_upto_region 6 with fail
       go_quiet (fail)
       go_wp2
       go_ret
       exact⟨by rw[ha.out,H.out];rfl,below_drewN6 HB.out nq⟩
      ·rw[g1,g2,g3,Bool.and_true,Bool.and_true,Bool.true_and] at hd
       have H:=hid hd
       clear hd hse
       go_upto_region 6 with fail
       go_quiet (fail)
       go_wp2
       go_roundw
       case rel=>exact⟨j+1,by omega,by go_num,below_drewN6 HB.out nq,hid (by rw[ha.out,H.out])⟩
       case measure=>simp [intOf];omega
   ·obtain rfl:j=L:=by omega
    go_wp2
    go_ret
    have ha:=ha.out
    rw[<-hL,List.drop_length,hL,<-hL2,List.drop_length] at ha
    exact⟨by rw[ha];rfl,HB.out⟩
 ·have d1:((l.length:Int) != (m.length:Int))=true:=by simp;omega
  have e:sameL l m=false:=sameL_len l m hn
  rw[e]
  clear h h2 hn e
  generalize l.length=L at*
  generalize m.length=M at*
  go_enter Tryz.func82,Tryz.ntmps82
  go_wp2
  go_ret
  exact⟨rfl,Below.refl _ _⟩
set_option maxHeartbeats 1000000 in
theorem EqualI_any (u v:Value) (l m:List Int) (w:World) (h:RdI w u l) (h2:RdI w v m):
  Calls Tryz.prog 146 #[u,v] w (SaysB (sameI l m) w):=by
 have hm:=h.len
 have hm2:=h2.len
 obtain⟨a,cap,rfl⟩:=h.form
 obtain⟨a2,cap2,rfl⟩:=h2.form
 by_cases hn:l.length=m.length
 ·have HA:=hid (fun i hi=>rdi_at h i hi)
  have HA2:=hid (fun i hi=>rdi_at h2 i hi)
  have HD:=hid (sameI_drop l m)
  clear h h2
  obtain⟨L,hL⟩: ∃L,l.length=L:=⟨_,rfl⟩
  have hL2:m.length=L:=by omega
  rw[hL] at hm ⊢
  rw[hL2] at hm2 ⊢
  go_enter Tryz.func146,Tryz.ntmps146
  go_wp2
  go_loopw [13] (fun i wr=> ∃j:Nat,j<=L/\i= .int .i64 j/\Below w.heap.size w wr/\Hid (sameI l m=sameI (l.drop j) (m.drop j))) (fun i _=>L - (intOf i).toNat)
  case atStart=>exact⟨0,by omega,rfl,Below.refl _ _,hid rfl⟩
  case round=>
   obtain⟨j,hj,rfl,hb,ha⟩:=hrel
   have HB:=hid hb
   clear hb
   by_cases hlt:j<L
   ·obtain⟨b,o,rfl,hc⟩:=HA.out j (by omega)
    obtain⟨b',o',rfl,hc2⟩:=HA2.out j (by omega)
    have q1:=hc _ HB.out
    have q2:=hc2 _ HB.out
    have hd:=HD.out j (by omega) (by omega)
    clear HA HA2 HD hc hc2
    generalize l[j]=x at q1 hd
    generalize m[j]=y at q2 hd
    by_cases e1:x=y
    ·have d1:(x != y)=false:=by simp [e1]
     rw[decide_eq_true e1,Bool.true_and] at hd
     have H:=hid hd
     clear hd e1
     go_upto_region 6 with fail
     go_quiet (fail)
     go_wp2
     go_roundw
     case rel=>exact⟨j+1,by omega,by go_num,below_drewN6 HB.out nq,hid (by rw[ha.out,H.out])⟩
     case measure=>simp [intOf];omega
    ·have d1:(x != y)=true:=by simpa using e1
     rw[decide_eq_false e1,Bool.false_and] at hd
     have H:=hid hd
     clear hd e1
     go_upto_region 6 with fail
     go_quiet (fail)
     go_wp2
     go_ret
     exact⟨by rw[ha.out,H.out];rfl,below_drewN6 HB.out nq⟩
   ·obtain rfl:j=L:=by omega
    go_wp2
    go_ret
    have ha:=ha.out
    rw[<-hL,List.drop_length,hL,<-hL2,List.drop_length] at ha
    exact⟨by rw[ha];rfl,HB.out⟩
 ·have d1:((l.length:Int) != (m.length:Int))=true:=by simp;omega
  have e:sameI l m=false:=sameI_len l m hn
  rw[e]
  clear h h2 hn e
  generalize l.length=L at*
  generalize m.length=M at*
  go_enter Tryz.func146,Tryz.ntmps146
  go_wp2
  go_ret
  exact⟨rfl,Below.refl _ _⟩
set_option maxHeartbeats 1000000 in
theorem EqualG_any (u v:Value) (l m:List GrantV) (w:World) (h:RdH w u l) (h2:RdH w v m):
  Calls Tryz.prog 191 #[u,v] w (SaysB (sameH l m) w):=by
 have hm:=h.len
 have hm2:=h2.len
 obtain⟨a,cap,rfl, -⟩:=h.ex
 obtain⟨a2,cap2,rfl, -⟩:=h2.ex
 by_cases hn:l.length=m.length
 ·have HA:=hid (fun i hi=>h.at i hi)
  have HA2:=hid (fun i hi=>h2.at i hi)
  have HD:=hid (same_drop l m)
  clear h h2
  obtain⟨L,hL⟩: ∃L,l.length=L:=⟨_,rfl⟩
  have hL2:m.length=L:=by omega
  rw[hL] at hm ⊢
  rw[hL2] at hm2 ⊢
  go_enter Tryz.func191,Tryz.ntmps191
  go_wp2
  go_loopw [13] (fun i wr=> ∃j:Nat,j<=L/\i= .int .i64 j/\Below w.heap.size w wr/\Hid (sameH l m=sameH (l.drop j) (m.drop j))) (fun i _=>L - (intOf i).toNat)
  case atStart=>exact⟨0,by omega,rfl,Below.refl _ _,hid rfl⟩
  case round=>
   obtain⟨j,hj,rfl,hb,ha⟩:=hrel
   have HB:=hid hb
   clear hb
   by_cases hlt:j<L
   ·obtain⟨b,o,rfl,q1,q2⟩:=HA.out j (by omega) _ HB.out
    obtain⟨b',o',rfl,q3,q4⟩:=HA2.out j (by omega) _ HB.out
    have hd:=HD.out j (by omega) (by omega)
    clear HA HA2 HD
    generalize l[j]=g at q1 q2 hd
    generalize m[j]=g2 at q3 q4 hd
    have hE:=str_eq g.name g2.name
    by_cases e1:g.name=g2.name/\g.token=g2.token
    ·rw[decide_eq_true e1.1,decide_eq_true e1.2] at hd
     rw[decide_eq_true e1.1] at hE
     have d1:(g.token==g2.token)=true:=by simp [e1.2]
     have H:=hid hd
     clear hd e1
     go_upto_region 6 with fail
     go_quiet (fail)
     go_wp2
     go_roundw
     case rel=>exact⟨j+1,by omega,by go_num,below_drewN HB.out nq,hid (by rw[ha.out,H.out];rfl)⟩
     case measure=>simp [intOf];omega
    ·have d0:(decide (g.name=g2.name) && decide (g.token=g2.token))=false:=by simpa using e1
     rw[d0] at hd
     have H:=hid hd
     clear hd d0
     by_cases e2:g.name=g2.name
     ·rw[decide_eq_true e2] at hE
      have d1:(g.token==g2.token)=false:=by simpa using fun q=>e1 ⟨e2,q⟩
      clear e1 e2
      go_upto_region 6 with fail
      go_quiet (fail)
      go_wp2
      go_ret
      exact⟨by rw[ha.out,H.out];rfl,below_drewN HB.out nq⟩
     ·rw[decide_eq_false e2] at hE
      clear e1 e2
      go_upto_region 6 with fail
      go_quiet (fail)
      go_wp2
      go_ret
      exact⟨by rw[ha.out,H.out];rfl,below_drewN HB.out nq⟩
   ·obtain rfl:j=L:=by omega
    go_wp2
    go_ret
    have ha:=ha.out
    rw[<-hL,List.drop_length,hL,<-hL2,List.drop_length] at ha
    exact⟨by rw[ha];rfl,HB.out⟩
 ·have d1:((l.length:Int) != (m.length:Int))=true:=by simp;omega
  have e:sameH l m=false:=same_len l m hn
  rw[e]
  clear h h2 hn e
  generalize l.length=L at*
  generalize m.length=M at*
  go_enter Tryz.func191,Tryz.ntmps191
  go_wp2
  go_ret
  exact⟨rfl,Below.refl _ _⟩
set_option maxHeartbeats 2000000 in
theorem SameRep_snap (xk xn xd yk yn yd:Int) (xl yl:List GrantV) (xa ya:Option Addr) (xp yp:Nat) (w:World) (h:RdH w (.slice xa xl.length xp) xl) (h2:RdH w (.slice ya yl.length yp) yl):
  Calls Tryz.prog 147 #[repVal ⟨xk,xn,xd,xl⟩ (.slice xa xl.length xp),repVal ⟨yk,yn,yd,yl⟩ (.slice ya yl.length yp)] w (SaysB ((decide (xk=yk) && decide (xn=yn) && decide (xd=yd) && sameH xl yl)) w):=by
 have HB:=hid (stepAlloc (newAlloc w (.cells #[.int .i64 xk,.int .i64 xn,.int .i64 xd,.slice xa xl.length xp] 36)) (.cells #[.int .i64 yk,.int .i64 yn,.int .i64 yd,.slice ya yl.length yp] 36))
 have hA:BxAt ((w.alloc (.cells #[.int .i64 xk,.int .i64 xn,.int .i64 xd,.slice xa xl.length xp] 36)).alloc (.cells #[.int .i64 yk,.int .i64 yn,.int .i64 yd,.slice ya yl.length yp] 36)) w.heap.size (.cells #[.int .i64 xk,.int .i64 xn,.int .i64 xd,.slice xa xl.length xp] 36):=(BxAt.new w _).later (newAlloc _ _)
 have hE:BxAt ((w.alloc (.cells #[.int .i64 xk,.int .i64 xn,.int .i64 xd,.slice xa xl.length xp] 36)).alloc (.cells #[.int .i64 yk,.int .i64 yn,.int .i64 yd,.slice ya yl.length yp] 36)) (w.heap.size+1) (.cells #[.int .i64 yk,.int .i64 yn,.int .i64 yd,.slice ya yl.length yp] 36):=by
  have:=BxAt.new (w.alloc (.cells #[.int .i64 xk,.int .i64 xn,.int .i64 xd,.slice xa xl.length xp] 36)) (.cells #[.int .i64 yk,.int .i64 yn,.int .i64 yd,.slice ya yl.length yp] 36)
  rwa [show(w.alloc (.cells #[.int .i64 xk,.int .i64 xn,.int .i64 xd,.slice xa xl.length xp] 36)).heap.size =w.heap.size+1 by simp] at this
 have k0:=cell_atW hA 0
 have y0:=cell_atW hE 0
 have k1:=cell_atW hA 1
 have y1:=cell_atW hE 1
 have k2:=cell_atW hA 2
 have y2:=cell_atW hE 2
 have k3:=cell_atW hA 3
 have y3:=cell_atW hE 3
 simp only[List.getElem?_toArray,List.getElem?_cons_zero,List.getElem?_cons_succ] at k0 y0 k1 y1 k2 y2 k3 y3
 clear hA hE
 have HC:Hid (∀W,Below w.heap.size w W->Calls Tryz.prog 191 #[.slice xa xl.length xp,.slice ya yl.length yp] W (SaysB (sameH xl yl) W)):=hid fun W hb=>EqualG_any _ _ _ _ W (h.later hb) (h2.later hb)
 clear h h2
 unfold repVal
 dsimp only
 generalize xl.length=LX at*
 generalize yl.length=LY at*
 by_cases g0:xk=yk
 case neg=>
  have HR:Hid (((decide (xk=yk) && decide (xn=yn) && decide (xd=yd) && sameH xl yl))=false):=hid (by simp [g0])
  rw[HR.out]
  have d0:(xk==yk)=false:=by simpa using g0
  clear HR g0
  go_enter Tryz.func147,Tryz.ntmps147
  go_wp2
  go_ret
  exact⟨rfl,HB.out⟩
 subst g0
 by_cases g1:xn=yn
 case neg=>
  have HR:Hid (((decide (xk=xk) && decide (xn=yn) && decide (xd=yd) && sameH xl yl))=false):=hid (by simp [g1])
  rw[HR.out]
  have d1:(xn==yn)=false:=by simpa using g1
  clear HR g1
  go_enter Tryz.func147,Tryz.ntmps147
  go_wp2
  go_ret
  exact⟨rfl,HB.out⟩
 subst g1
 by_cases g2:xd=yd
 case neg=>
  have HR:Hid (((decide (xk=xk) && decide (xn=xn) && decide (xd=yd) && sameH xl yl))=false):=hid (by simp [g2])
  rw[HR.out]
  have d2:(xd==yd)=false:=by simpa using g2
  clear HR g2
  go_enter Tryz.func147,Tryz.ntmps147
  go_wp2
  go_ret
  exact⟨rfl,HB.out⟩
 subst g2
 have HR:Hid (((decide (xk=xk) && decide (xn=xn) && decide (xd=xd) && sameH xl yl))=sameH xl yl):=hid (by simp)
 rw[HR.out]
 clear HR
 generalize sameH xl yl=R at HC ⊢
 go_enter Tryz.func147,Tryz.ntmps147
 go_wp2_with (go_at_call 191;refine(HC.out _ HB.out).mono ?_;rintro e w4 ⟨rfl,hb4⟩)
 go_ret
 exact⟨by simp,step HB.out hb4⟩
set_option maxHeartbeats 2000000 in
theorem SameMem_snap (xc xs xk xn xd yc ys yk yn yd:Int) (xl yl:List GrantV) (xa ya:Option Addr) (xp yp:Nat) (w:World) (h:RdH w (.slice xa xl.length xp) xl) (h2:RdH w (.slice ya yl.length yp) yl):
  Calls Tryz.prog 86 #[memVal ⟨⟨xc,xs,⟨xk,xn,xd,xl⟩⟩,xa,xp⟩,memVal ⟨⟨yc,ys,⟨yk,yn,yd,yl⟩⟩,ya,yp⟩] w (SaysB ((decide (xc=yc) && (decide (xs=ys) && sameP ⟨xk,xn,xd,xl⟩ ⟨yk,yn,yd,yl⟩))) w):=by
 have HB:=hid (stepAlloc (newAlloc w (.cells #[.int .i64 xc,.int .i64 xs,.int .i64 xk,.int .i64 xn,.int .i64 xd,.slice xa xl.length xp] 76)) (.cells #[.int .i64 yc,.int .i64 ys,.int .i64 yk,.int .i64 yn,.int .i64 yd,.slice ya yl.length yp] 76))
 have hA:BxAt ((w.alloc (.cells #[.int .i64 xc,.int .i64 xs,.int .i64 xk,.int .i64 xn,.int .i64 xd,.slice xa xl.length xp] 76)).alloc (.cells #[.int .i64 yc,.int .i64 ys,.int .i64 yk,.int .i64 yn,.int .i64 yd,.slice ya yl.length yp] 76)) w.heap.size (.cells #[.int .i64 xc,.int .i64 xs,.int .i64 xk,.int .i64 xn,.int .i64 xd,.slice xa xl.length xp] 76):=(BxAt.new w _).later (newAlloc _ _)
 have hE:BxAt ((w.alloc (.cells #[.int .i64 xc,.int .i64 xs,.int .i64 xk,.int .i64 xn,.int .i64 xd,.slice xa xl.length xp] 76)).alloc (.cells #[.int .i64 yc,.int .i64 ys,.int .i64 yk,.int .i64 yn,.int .i64 yd,.slice ya yl.length yp] 76)) (w.heap.size+1) (.cells #[.int .i64 yc,.int .i64 ys,.int .i64 yk,.int .i64 yn,.int .i64 yd,.slice ya yl.length yp] 76):=by
  have:=BxAt.new (w.alloc (.cells #[.int .i64 xc,.int .i64 xs,.int .i64 xk,.int .i64 xn,.int .i64 xd,.slice xa xl.length xp] 76)) (.cells #[.int .i64 yc,.int .i64 ys,.int .i64 yk,.int .i64 yn,.int .i64 yd,.slice ya yl.length yp] 76)
  rwa [show(w.alloc (.cells #[.int .i64 xc,.int .i64 xs,.int .i64 xk,.int .i64 xn,.int .i64 xd,.slice xa xl.length xp] 76)).heap.size =w.heap.size+1 by simp] at this
 have k0:=cell_atW hA 0
 have y0:=cell_atW hE 0
 have k1:=cell_atW hA 1
 have y1:=cell_atW hE 1
 have k2:=cell_atW hA 2
 have y2:=cell_atW hE 2
 have k3:=cell_atW hA 3
 have y3:=cell_atW hE 3
 have k4:=cell_atW hA 4
 have y4:=cell_atW hE 4
 have k5:=cell_atW hA 5
 have y5:=cell_atW hE 5
 simp only[List.getElem?_toArray,List.getElem?_cons_zero,List.getElem?_cons_succ] at k0 y0 k1 y1 k2 y2 k3 y3 k4 y4 k5 y5
 clear hA hE
 have HC:Hid (∀W,Below w.heap.size w W->Calls Tryz.prog 147 #[repVal ⟨xk,xn,xd,xl⟩ (.slice xa xl.length xp),repVal ⟨yk,yn,yd,yl⟩ (.slice ya yl.length yp)] W (SaysB (sameP ⟨xk,xn,xd,xl⟩ ⟨yk,yn,yd,yl⟩) W)):=hid fun W hb=>SameRep_snap xk xn xd yk yn yd xl yl xa ya xp yp W (h.later hb) (h2.later hb)
 clear h h2
 unfold memVal MemC.hv
 unfold repVal at HC
 dsimp only at HC ⊢
 by_cases g0:xc=yc
 case neg=>
  have HR:Hid (((decide (xc=yc) && (decide (xs=ys) && sameP ⟨xk,xn,xd,xl⟩ ⟨yk,yn,yd,yl⟩)))=false):=hid (by simp [g0])
  rw[HR.out]
  have d0:(xc==yc)=false:=by simpa using g0
  clear HR g0
  go_enter Tryz.func86,Tryz.ntmps86
  go_wp2
  go_ret
  exact⟨rfl,HB.out⟩
 subst g0
 by_cases g1:xs=ys
 case neg=>
  have HR:Hid (((decide (xc=xc) && (decide (xs=ys) && sameP ⟨xk,xn,xd,xl⟩ ⟨yk,yn,yd,yl⟩)))=false):=hid (by simp [g1])
  rw[HR.out]
  have d1:(xs==ys)=false:=by simpa using g1
  clear HR g1
  go_enter Tryz.func86,Tryz.ntmps86
  go_wp2
  go_ret
  exact⟨rfl,HB.out⟩
 subst g1
 have HR:Hid (((decide (xc=xc) && (decide (xs=xs) && sameP ⟨xk,xn,xd,xl⟩ ⟨yk,yn,yd,yl⟩)))=sameP ⟨xk,xn,xd,xl⟩ ⟨yk,yn,yd,yl⟩):=hid (by simp)
 rw[HR.out]
 clear HR
 generalize sameP ⟨xk,xn,xd,xl⟩ ⟨yk,yn,yd,yl⟩=R at HC ⊢
 go_enter Tryz.func86,Tryz.ntmps86
 go_wp2_with (go_at_call 147;refine(HC.out _ HB.out).mono ?_;rintro e w4 ⟨rfl,hb4⟩)
 go_ret
 exact⟨by simp,step HB.out hb4⟩
set_option maxHeartbeats 2000000 in
theorem SameLck_snap (xm ym:List UInt8) (xh xt yh yt:Int) (xl yl:List Int) (xa ya:Option Addr) (xp yp:Nat) (w:World) (h:RdI w (.slice xa xl.length xp) xl) (h2:RdI w (.slice ya yl.length yp) yl):
  Calls Tryz.prog 84 #[lockVal ⟨xm,xh,xt,xl,xa,xp⟩,lockVal ⟨ym,yh,yt,yl,ya,yp⟩] w (SaysB ((decide (xm=ym) && (decide (xh=yh) && (decide (xt=yt) && decide (xl=yl))))) w):=by
 have HB:=hid (stepAlloc (newAlloc w (.cells #[.string (bstr xm),.int .i64 xh,.int .i64 xt,.slice xa xl.length xp] 71)) (.cells #[.string (bstr ym),.int .i64 yh,.int .i64 yt,.slice ya yl.length yp] 71))
 have hA:BxAt ((w.alloc (.cells #[.string (bstr xm),.int .i64 xh,.int .i64 xt,.slice xa xl.length xp] 71)).alloc (.cells #[.string (bstr ym),.int .i64 yh,.int .i64 yt,.slice ya yl.length yp] 71)) w.heap.size (.cells #[.string (bstr xm),.int .i64 xh,.int .i64 xt,.slice xa xl.length xp] 71):=(BxAt.new w _).later (newAlloc _ _)
 have hE:BxAt ((w.alloc (.cells #[.string (bstr xm),.int .i64 xh,.int .i64 xt,.slice xa xl.length xp] 71)).alloc (.cells #[.string (bstr ym),.int .i64 yh,.int .i64 yt,.slice ya yl.length yp] 71)) (w.heap.size+1) (.cells #[.string (bstr ym),.int .i64 yh,.int .i64 yt,.slice ya yl.length yp] 71):=by
  have:=BxAt.new (w.alloc (.cells #[.string (bstr xm),.int .i64 xh,.int .i64 xt,.slice xa xl.length xp] 71)) (.cells #[.string (bstr ym),.int .i64 yh,.int .i64 yt,.slice ya yl.length yp] 71)
  rwa [show(w.alloc (.cells #[.string (bstr xm),.int .i64 xh,.int .i64 xt,.slice xa xl.length xp] 71)).heap.size =w.heap.size+1 by simp] at this
 have k0:=cell_atW hA 0
 have y0:=cell_atW hE 0
 have k1:=cell_atW hA 1
 have y1:=cell_atW hE 1
 have k2:=cell_atW hA 2
 have y2:=cell_atW hE 2
 have k3:=cell_atW hA 3
 have y3:=cell_atW hE 3
 simp only[List.getElem?_toArray,List.getElem?_cons_zero,List.getElem?_cons_succ] at k0 y0 k1 y1 k2 y2 k3 y3
 clear hA hE
 have hsi:sameI xl yl=decide (xl=yl):=by
  by_cases q:xl=yl
  ·rw[decide_eq_true q];exact(sameI_iff _ _).2 q
  ·rw[decide_eq_false q];exact Bool.eq_false_iff.2 fun z=>q ((sameI_iff _ _).1 z)
 have HC:Hid (∀W,Below w.heap.size w W->Calls Tryz.prog 146 #[.slice xa xl.length xp,.slice ya yl.length yp] W (SaysB (decide (xl=yl)) W)):=hid fun W hb=>by
  have:=EqualI_any _ _ _ _ W (h.later hb) (h2.later hb)
  rwa [hsi] at this
 clear h h2 hsi
 unfold lockVal LockC.lv
 dsimp only
 by_cases g0:xm=ym
 case neg=>
  have HR:Hid (((decide (xm=ym) && (decide (xh=yh) && (decide (xt=yt) && decide (xl=yl)))))=false):=hid (by simp [g0])
  rw[HR.out]
  have d0:((bstr xm).toList ==(bstr ym).toList)=false:=by rw[str_eq];simpa using g0
  clear HR g0
  go_enter Tryz.func84,Tryz.ntmps84
  go_wp2
  go_ret
  exact⟨rfl,HB.out⟩
 subst g0
 by_cases g1:xh=yh
 case neg=>
  have HR:Hid (((decide (xm=xm) && (decide (xh=yh) && (decide (xt=yt) && decide (xl=yl)))))=false):=hid (by simp [g1])
  rw[HR.out]
  have d1:(xh==yh)=false:=by simpa using g1
  clear HR g1
  go_enter Tryz.func84,Tryz.ntmps84
  go_wp2
  go_ret
  exact⟨rfl,HB.out⟩
 subst g1
 by_cases g2:xt=yt
 case neg=>
  have HR:Hid (((decide (xm=xm) && (decide (xh=xh) && (decide (xt=yt) && decide (xl=yl)))))=false):=hid (by simp [g2])
  rw[HR.out]
  have d2:(xt==yt)=false:=by simpa using g2
  clear HR g2
  go_enter Tryz.func84,Tryz.ntmps84
  go_wp2
  go_ret
  exact⟨rfl,HB.out⟩
 subst g2
 have HR:Hid (((decide (xm=xm) && (decide (xh=xh) && (decide (xt=xt) && decide (xl=yl)))))=decide (xl=yl)):=hid (by simp)
 rw[HR.out]
 clear HR
 generalize decide (xl=yl)=R at HC ⊢
 go_enter Tryz.func84,Tryz.ntmps84
 go_wp2_with (go_at_call 146;refine(HC.out _ HB.out).mono ?_;rintro e w4 ⟨rfl,hb4⟩)
 go_ret
 exact⟨by simp,step HB.out hb4⟩
def sameMC (l m:List MemC):Bool:=sameM (valsM l) (valsM m)
def sameKC (l m:List LockC):Bool:=sameK (vals l) (vals m)
theorem sameMC_drop (l m:List MemC) (j:Nat) (h:j<l.length) (hm:j<m.length):
  sameMC (l.drop j) (m.drop j)=((decide (l[j].m.client =m[j].m.client) && (decide (l[j].m.seq =m[j].m.seq) && sameP l[j].m.rep m[j].m.rep)) && sameMC (l.drop (j+1)) (m.drop (j+1))):=by
 rw[List.drop_eq_getElem_cons h,List.drop_eq_getElem_cons hm]
 rfl
theorem sameKC_drop (l m:List LockC) (j:Nat) (h:j<l.length) (hm:j<m.length):
  sameKC (l.drop j) (m.drop j)=((decide (l[j].name =m[j].name) && (decide (l[j].holder =m[j].holder) && (decide (l[j].token =m[j].token) && decide (l[j].line =m[j].line)))) && sameKC (l.drop (j+1)) (m.drop (j+1))):=by
 rw[List.drop_eq_getElem_cons h,List.drop_eq_getElem_cons hm]
 rfl
theorem sameMC_len (l m:List MemC) (h:l.length≠m.length):sameMC l m=false:=sameM_len _ _ (by simpa [valsM] using h)
theorem sameKC_len (l m:List LockC) (h:l.length≠m.length):sameKC l m=false:=sameK_len _ _ (by simpa [vals] using h)
set_option maxHeartbeats 4000000 in
theorem EqualFM_any (g:Nat) (eg: ∀args w,(callFunc g args).run Tryz.prog w= .ok (.enter g args) w) (u v:Value) (l m:List MemC) (w:World) (h:RdM w u l) (h2:RdM w v m)
  (hp: ∀(W:World) (i:Nat) (hi:i<l.length) (hi2:i<m.length),Below w.heap.size w W->Calls Tryz.prog g #[memVal l[i],memVal m[i]] W (SaysB (decide (l[i].m.client =m[i].m.client) && (decide (l[i].m.seq =m[i].m.seq) && sameP l[i].m.rep m[i].m.rep)) W)):
  Calls Tryz.prog 85 #[u,v,.func (.func g) #[] #[]] w (SaysB (sameMC l m) w):=by
 have hm:=h.row.len
 have hm2:=h2.row.len
 obtain⟨a,cap,rfl⟩:=h.row.form
 obtain⟨a2,cap2,rfl⟩:=h2.row.form
 by_cases hn:l.length=m.length
 ·have HA:=hid (fun i hi=>rdm_at h.row i hi)
  have HA2:=hid (fun i hi=>rdm_at h2.row i hi)
  have HD:=hid (sameMC_drop l m)
  have HP:=hid hp
  clear h h2 hp
  obtain⟨L,hL⟩: ∃L,l.length=L:=⟨_,rfl⟩
  have hL2:m.length=L:=by omega
  have HLL:=hid hL
  have HLM:=hid hL2
  rw[hL] at hm ⊢
  rw[hL2] at hm2 ⊢
  clear hL hL2 hn
  go_enter Tryz.func85,Tryz.ntmps85
  go_wp2
  go_loopw [17] (fun i wr=> ∃j:Nat,j<=L/\i= .int .i64 j/\Hid (Below w.heap.size w wr)/\Hid (sameMC l m=sameMC (l.drop j) (m.drop j))) (fun i _=>L - (intOf i).toNat)
  case atStart=>exact⟨0,by omega,rfl,hid (Below.refl _ _),hid rfl⟩
  case round=>
   obtain⟨j,hj,rfl,HB,ha⟩:=hrel
   by_cases hlt:j<L
   ·have hj1:j<l.length:=by rw[HLL.out];exact hlt
    have hj2:j<m.length:=by rw[HLM.out];exact hlt
    obtain⟨b,o,rfl,hc⟩:=HA.out j hj1
    obtain⟨b',o',rfl,hc2⟩:=HA2.out j hj2
    have HP1:=hid (fun W hb=>HP.out W j hj1 hj2 hb)
    have hd:=HD.out j hj1 hj2
    have HD1:=hid hd
    clear HA HA2 HD HP hd
    have HC1:=hid hc
    have HC2:=hid hc2
    clear hc hc2
    generalize l[j]=x at HC1 HP1 HD1
    generalize m[j]=y at HC2 HP1 HD1
    obtain⟨⟨xc,xs,⟨xk,xn,xd,xl⟩⟩,xa,xp⟩:=x
    obtain⟨⟨yc,ys,⟨yk,yn,yd,yl⟩⟩,ya,yp⟩:=y
    unfold memVal MemC.hv at HP1
    unfold MemC.hv at HC1 HC2
    dsimp only at HC1 HC2 HP1 HD1
    obtain⟨q0,q1,q2,q3,q4,q5⟩:=HC1.out _ HB.out
    obtain⟨p0,p1,p2,p3,p4,p5⟩:=HC2.out _ (step HB.out (newAlloc wr (.cells #[.int .i64 xc,.int .i64 xs,.int .i64 xk,.int .i64 xn,.int .i64 xd,.slice xa xl.length xp] 76)))
    have HB2:=hid (step HB.out (stepAlloc (newAlloc wr (.cells #[.int .i64 xc,.int .i64 xs,.int .i64 xk,.int .i64 xn,.int .i64 xd,.slice xa xl.length xp] 76)) (.cells #[.int .i64 yc,.int .i64 ys,.int .i64 yk,.int .i64 yn,.int .i64 yd,.slice ya yl.length yp] 76)))
    have C:=hid (HP1.out _ HB2.out)
    generalize (decide (xc=yc) && (decide (xs=ys) && sameP ⟨xk,xn,xd,xl⟩ ⟨yk,yn,yd,yl⟩))=R at C HD1
    clear HC1 HC2 HP1 hj1 hj2
    cases R
    ·go_wp2_with (go_at_fn g;refine C.out.mono ?_;rintro e w' ⟨rfl,hb'⟩)
     go_ret
     exact⟨by rw[ha.out,HD1.out];rfl,step HB2.out hb'⟩
    ·go_wp2_with (go_at_fn g;refine C.out.mono ?_;rintro e w' ⟨rfl,hb'⟩)
     go_roundw
     case rel=>exact⟨j+1,by omega,by first | rfl | go_num,hid (step HB2.out hb'),hid (by rw[ha.out,HD1.out,Bool.true_and])⟩
     case measure=>simp [intOf]<;>omega
   ·obtain rfl:j=L:=by omega
    go_wp2
    go_ret
    have ha:=ha.out
    rw[<-HLL.out,List.drop_length,HLL.out,<-HLM.out,List.drop_length] at ha
    exact⟨by rw[ha];rfl,HB.out⟩
 ·have d1:((l.length:Int) != (m.length:Int))=true:=by simp;omega
  have e:sameMC l m=false:=sameMC_len l m hn
  rw[e]
  clear h h2 hn e hp
  generalize l.length=L at*
  generalize m.length=M at*
  go_enter Tryz.func85,Tryz.ntmps85
  go_wp2
  go_ret
  exact⟨rfl,Below.refl _ _⟩
set_option maxHeartbeats 4000000 in
theorem EqualFK_any (g:Nat) (eg: ∀args w,(callFunc g args).run Tryz.prog w= .ok (.enter g args) w) (u v:Value) (l m:List LockC) (w:World) (h:RdK w u l) (h2:RdK w v m)
  (hp: ∀(W:World) (i:Nat) (hi:i<l.length) (hi2:i<m.length),Below w.heap.size w W->Calls Tryz.prog g #[lockVal l[i],lockVal m[i]] W (SaysB (decide (l[i].name =m[i].name) && (decide (l[i].holder =m[i].holder) && (decide (l[i].token =m[i].token) && decide (l[i].line =m[i].line)))) W)):
  Calls Tryz.prog 83 #[u,v,.func (.func g) #[] #[]] w (SaysB (sameKC l m) w):=by
 have hm:=h.row.len
 have hm2:=h2.row.len
 obtain⟨a,cap,rfl⟩:=h.row.form
 obtain⟨a2,cap2,rfl⟩:=h2.row.form
 by_cases hn:l.length=m.length
 ·have HA:=hid (fun i hi=>rdk_at h.row i hi)
  have HA2:=hid (fun i hi=>rdk_at h2.row i hi)
  have HD:=hid (sameKC_drop l m)
  have HP:=hid hp
  clear h h2 hp
  obtain⟨L,hL⟩: ∃L,l.length=L:=⟨_,rfl⟩
  have hL2:m.length=L:=by omega
  have HLL:=hid hL
  have HLM:=hid hL2
  rw[hL] at hm ⊢
  rw[hL2] at hm2 ⊢
  clear hL hL2 hn
  go_enter Tryz.func83,Tryz.ntmps83
  go_wp2
  go_loopw [17] (fun i wr=> ∃j:Nat,j<=L/\i= .int .i64 j/\Hid (Below w.heap.size w wr)/\Hid (sameKC l m=sameKC (l.drop j) (m.drop j))) (fun i _=>L - (intOf i).toNat)
  case atStart=>exact⟨0,by omega,rfl,hid (Below.refl _ _),hid rfl⟩
  case round=>
   obtain⟨j,hj,rfl,HB,ha⟩:=hrel
   by_cases hlt:j<L
   ·have hj1:j<l.length:=by rw[HLL.out];exact hlt
    have hj2:j<m.length:=by rw[HLM.out];exact hlt
    obtain⟨b,o,rfl,hc⟩:=HA.out j hj1
    obtain⟨b',o',rfl,hc2⟩:=HA2.out j hj2
    have HP1:=hid (fun W hb=>HP.out W j hj1 hj2 hb)
    have hd:=HD.out j hj1 hj2
    have HD1:=hid hd
    clear HA HA2 HD HP hd
    have HC1:=hid hc
    have HC2:=hid hc2
    clear hc hc2
    generalize l[j]=x at HC1 HP1 HD1
    generalize m[j]=y at HC2 HP1 HD1
    obtain⟨xm,xh,xt,xl,xa,xp⟩:=x
    obtain⟨ym,yh,yt,yl,ya,yp⟩:=y
    unfold lockVal LockC.lv at HP1
    unfold LockC.lv at HC1 HC2
    dsimp only at HC1 HC2 HP1 HD1
    obtain⟨q0,q1,q2,q3⟩:=HC1.out _ HB.out
    obtain⟨p0,p1,p2,p3⟩:=HC2.out _ (step HB.out (newAlloc wr (.cells #[.string (bstr xm),.int .i64 xh,.int .i64 xt,.slice xa xl.length xp] 71)))
    have HB2:=hid (step HB.out (stepAlloc (newAlloc wr (.cells #[.string (bstr xm),.int .i64 xh,.int .i64 xt,.slice xa xl.length xp] 71)) (.cells #[.string (bstr ym),.int .i64 yh,.int .i64 yt,.slice ya yl.length yp] 71)))
    have C:=hid (HP1.out _ HB2.out)
    generalize (decide (xm=ym) && (decide (xh=yh) && (decide (xt=yt) && decide (xl=yl))))=R at C HD1
    clear HC1 HC2 HP1 hj1 hj2
    cases R
    ·go_wp2_with (go_at_fn g;refine C.out.mono ?_;rintro e w' ⟨rfl,hb'⟩)
     go_ret
     exact⟨by rw[ha.out,HD1.out];rfl,step HB2.out hb'⟩
    ·go_wp2_with (go_at_fn g;refine C.out.mono ?_;rintro e w' ⟨rfl,hb'⟩)
     go_roundw
     case rel=>exact⟨j+1,by omega,by first | rfl | go_num,hid (step HB2.out hb'),hid (by rw[ha.out,HD1.out,Bool.true_and])⟩
     case measure=>simp [intOf]<;>omega
   ·obtain rfl:j=L:=by omega
    go_wp2
    go_ret
    have ha:=ha.out
    rw[<-HLL.out,List.drop_length,HLL.out,<-HLM.out,List.drop_length] at ha
    exact⟨by rw[ha];rfl,HB.out⟩
 ·have d1:((l.length:Int) != (m.length:Int))=true:=by simp;omega
  have e:sameKC l m=false:=sameKC_len l m hn
  rw[e]
  clear h h2 hn e hp
  generalize l.length=L at*
  generalize m.length=M at*
  go_enter Tryz.func83,Tryz.ntmps83
  go_wp2
  go_ret
  exact⟨rfl,Below.refl _ _⟩
def sameSt (a b:StV):Bool:=decide (a.time=b.time) && (decide (a.num=b.num) && (decide (a.token=b.token) && (sameL a.ses b.ses && (sameK a.locks b.locks && sameM a.memos b.memos))))
theorem sameSt_iff (a b:StV):sameSt a b=true ↔ a=b:=by
 obtain⟨a1,a2,a3,a4,a5,a6⟩:=a
 obtain⟨b1,b2,b3,b4,b5,b6⟩:=b
 unfold sameSt
 simp [sameL_iff,sameK_iff,sameM_iff]
set_option maxHeartbeats 2000000 in
theorem SnapSame_any (x y:StC) (w:World) (h:RdSt w x) (h2:RdSt w y):
  Calls Tryz.prog 31 #[stVal x,stVal y] w (SaysB (sameSt x.v y.v) w):=by
 obtain⟨x1,x2,x3,xS,xsa,xsc,xK,xka,xkc,xM,xma,xmc⟩:=x
 obtain⟨y1,y2,y3,yS,ysa,ysc,yK,yka,ykc,yM,yma,ymc⟩:=y
 have C1:Hid (∀W,Below w.heap.size w W->Calls Tryz.prog 82 #[.slice xsa xS.length xsc,.slice ysa yS.length ysc] W (SaysB (sameL xS yS) W)):=hid fun W hb=>EqualS_any _ _ _ _ W (h.s.later hb) (h2.s.later hb)
 have C2:Hid (∀W,Below w.heap.size w W->Calls Tryz.prog 83 #[.slice xka xK.length xkc,.slice yka yK.length ykc,.func (.func 84) #[] #[]] W (SaysB (sameKC xK yK) W)):=hid fun W hb=>
  EqualFK_any 84 (fun args w=>by kernel_rfl) _ _ xK yK W (h.k.later hb) (h2.k.later hb) fun V i hi hi2 hV=>SameLck_snap _ _ _ _ _ _ _ _ _ _ _ _ V ((h.k.later (step hb hV)).line _ (List.getElem_mem hi)) ((h2.k.later (step hb hV)).line _ (List.getElem_mem hi2))
 have C3:Hid (∀W,Below w.heap.size w W->Calls Tryz.prog 85 #[.slice xma xM.length xmc,.slice yma yM.length ymc,.func (.func 86) #[] #[]] W (SaysB (sameMC xM yM) W)):=hid fun W hb=>
  EqualFM_any 86 (fun args w=>by kernel_rfl) _ _ xM yM W (h.m.later hb) (h2.m.later hb) fun V i hi hi2 hV=>SameMem_snap _ _ _ _ _ _ _ _ _ _ _ _ _ _ _ _ V ((h.m.later (step hb hV)).held _ (List.getElem_mem hi)) ((h2.m.later (step hb hV)).held _ (List.getElem_mem hi2))
 have HS:Hid (sameSt (StC.v ⟨x1,x2,x3,xS,xsa,xsc,xK,xka,xkc,xM,xma,xmc⟩) (StC.v ⟨y1,y2,y3,yS,ysa,ysc,yK,yka,ykc,yM,yma,ymc⟩)=(decide (x1=y1) && (decide (x2=y2) && (decide (x3=y3) && (sameL xS yS && (sameKC xK yK && sameMC xM yM)))))):=hid rfl
 clear h h2
 unfold stVal StC.sv StC.kv StC.mv
 dsimp only
 rw[HS.out]
 clear HS
 have HB:=hid (stepAlloc (newAlloc w (.cells #[.int .i64 x1,.int .i64 x2,.int .i64 x3,.slice xsa xS.length xsc,.slice xka xK.length xkc,.slice xma xM.length xmc] 26)) (.cells #[.int .i64 y1,.int .i64 y2,.int .i64 y3,.slice ysa yS.length ysc,.slice yka yK.length ykc,.slice yma yM.length ymc] 26))
 have hA:BxAt ((w.alloc (.cells #[.int .i64 x1,.int .i64 x2,.int .i64 x3,.slice xsa xS.length xsc,.slice xka xK.length xkc,.slice xma xM.length xmc] 26)).alloc (.cells #[.int .i64 y1,.int .i64 y2,.int .i64 y3,.slice ysa yS.length ysc,.slice yka yK.length ykc,.slice yma yM.length ymc] 26)) w.heap.size (.cells #[.int .i64 x1,.int .i64 x2,.int .i64 x3,.slice xsa xS.length xsc,.slice xka xK.length xkc,.slice xma xM.length xmc] 26):=(BxAt.new w _).later (newAlloc _ _)
 have hE:BxAt ((w.alloc (.cells #[.int .i64 x1,.int .i64 x2,.int .i64 x3,.slice xsa xS.length xsc,.slice xka xK.length xkc,.slice xma xM.length xmc] 26)).alloc (.cells #[.int .i64 y1,.int .i64 y2,.int .i64 y3,.slice ysa yS.length ysc,.slice yka yK.length ykc,.slice yma yM.length ymc] 26)) (w.heap.size+1) (.cells #[.int .i64 y1,.int .i64 y2,.int .i64 y3,.slice ysa yS.length ysc,.slice yka yK.length ykc,.slice yma yM.length ymc] 26):=by
  have:=BxAt.new (w.alloc (.cells #[.int .i64 x1,.int .i64 x2,.int .i64 x3,.slice xsa xS.length xsc,.slice xka xK.length xkc,.slice xma xM.length xmc] 26)) (.cells #[.int .i64 y1,.int .i64 y2,.int .i64 y3,.slice ysa yS.length ysc,.slice yka yK.length ykc,.slice yma yM.length ymc] 26)
  rwa [show(w.alloc (.cells #[.int .i64 x1,.int .i64 x2,.int .i64 x3,.slice xsa xS.length xsc,.slice xka xK.length xkc,.slice xma xM.length xmc] 26)).heap.size =w.heap.size+1 by simp] at this
 have k0:=cell_atW hA 0
 have y0_:=cell_atW hE 0
 have k1:=cell_atW hA 1
 have y1_:=cell_atW hE 1
 have k2:=cell_atW hA 2
 have y2_:=cell_atW hE 2
 have k3:=cell_atW hA 3
 have y3_:=cell_atW hE 3
 have k4:=cell_atW hA 4
 have y4_:=cell_atW hE 4
 have k5:=cell_atW hA 5
 have y5_:=cell_atW hE 5
 simp only[List.getElem?_toArray,List.getElem?_cons_zero,List.getElem?_cons_succ] at k0 y0_ k1 y1_ k2 y2_ k3 y3_ k4 y4_ k5 y5_
 clear hA hE
 by_cases g0:x1=y1
 case neg=>
  rw[decide_eq_false g0]
  have d0:(x1==y1)=false:=by simpa using g0
  simp only[decide_true,Bool.true_and,Bool.false_and,Bool.and_false]
  clear g0 C1 C2 C3
  go_enter Tryz.func31,Tryz.ntmps31
  go_wp2
  go_ret
  exact⟨rfl,HB.out⟩
 subst g0
 by_cases g1:x2=y2
 case neg=>
  rw[decide_eq_false g1]
  have d1:(x2==y2)=false:=by simpa using g1
  simp only[decide_true,Bool.true_and,Bool.false_and,Bool.and_false]
  clear g1 C1 C2 C3
  go_enter Tryz.func31,Tryz.ntmps31
  go_wp2
  go_ret
  exact⟨rfl,HB.out⟩
 subst g1
 by_cases g2:x3=y3
 case neg=>
  rw[decide_eq_false g2]
  have d2:(x3==y3)=false:=by simpa using g2
  simp only[decide_true,Bool.true_and,Bool.false_and,Bool.and_false]
  clear g2 C1 C2 C3
  go_enter Tryz.func31,Tryz.ntmps31
  go_wp2
  go_ret
  exact⟨rfl,HB.out⟩
 subst g2
 simp only[decide_true,Bool.true_and]
 have hA:BxAt ((w.alloc (.cells #[.int .i64 x1,.int .i64 x2,.int .i64 x3,.slice xsa xS.length xsc,.slice xka xK.length xkc,.slice xma xM.length xmc] 26)).alloc (.cells #[.int .i64 x1,.int .i64 x2,.int .i64 x3,.slice ysa yS.length ysc,.slice yka yK.length ykc,.slice yma yM.length ymc] 26)) w.heap.size (.cells #[.int .i64 x1,.int .i64 x2,.int .i64 x3,.slice xsa xS.length xsc,.slice xka xK.length xkc,.slice xma xM.length xmc] 26):=(BxAt.new w _).later (newAlloc _ _)
 have hE:BxAt ((w.alloc (.cells #[.int .i64 x1,.int .i64 x2,.int .i64 x3,.slice xsa xS.length xsc,.slice xka xK.length xkc,.slice xma xM.length xmc] 26)).alloc (.cells #[.int .i64 x1,.int .i64 x2,.int .i64 x3,.slice ysa yS.length ysc,.slice yka yK.length ykc,.slice yma yM.length ymc] 26)) (w.heap.size+1) (.cells #[.int .i64 x1,.int .i64 x2,.int .i64 x3,.slice ysa yS.length ysc,.slice yka yK.length ykc,.slice yma yM.length ymc] 26):=by
  have:=BxAt.new (w.alloc (.cells #[.int .i64 x1,.int .i64 x2,.int .i64 x3,.slice xsa xS.length xsc,.slice xka xK.length xkc,.slice xma xM.length xmc] 26)) (.cells #[.int .i64 x1,.int .i64 x2,.int .i64 x3,.slice ysa yS.length ysc,.slice yka yK.length ykc,.slice yma yM.length ymc] 26)
  rwa [show(w.alloc (.cells #[.int .i64 x1,.int .i64 x2,.int .i64 x3,.slice xsa xS.length xsc,.slice xka xK.length xkc,.slice xma xM.length xmc] 26)).heap.size =w.heap.size+1 by simp] at this
 have HA:=hid hA
 have HE:=hid hE
 clear hA hE k0 y0_ k1 y1_ k2 y2_ k3 y3_ k4 y4_ k5 y5_
 generalize sameL xS yS=R1 at C1 ⊢
 generalize sameKC xK yK=R2 at C2 ⊢
 generalize sameMC xM yM=R3 at C3 ⊢
 go_enter Tryz.func31,Tryz.ntmps31
 go_upto_region 1 with fail
 generalize ((w.alloc (.cells #[.int .i64 x1,.int .i64 x2,.int .i64 x3,.slice xsa xS.length xsc,.slice xka xK.length xkc,.slice xma xM.length xmc] 26)).alloc (.cells #[.int .i64 x1,.int .i64 x2,.int .i64 x3,.slice ysa yS.length ysc,.slice yka yK.length ykc,.slice yma yM.length ymc] 26))=W at HB HA HE ⊢
 have hA:=HA.out
 have hE:=HE.out
 have k0:=cell_atW hA 0
 have y0_:=cell_atW hE 0
 have k1:=cell_atW hA 1
 have y1_:=cell_atW hE 1
 have k2:=cell_atW hA 2
 have y2_:=cell_atW hE 2
 have k3:=cell_atW hA 3
 have y3_:=cell_atW hE 3
 have k4:=cell_atW hA 4
 have y4_:=cell_atW hE 4
 have k5:=cell_atW hA 5
 have y5_:=cell_atW hE 5
 simp only[List.getElem?_toArray,List.getElem?_cons_zero,List.getElem?_cons_succ] at k0 y0_ k1 y1_ k2 y2_ k3 y3_ k4 y4_ k5 y5_
 clear hA hE
 go_wp2_with fail
 refine(C1.out _ HB.out).mono ?_
 rintro e w2 ⟨rfl,hb2⟩
 have hA:=HA.out.later hb2
 have hE:=HE.out.later hb2
 have HB2:=hid (step HB.out hb2)
 have HA:=hid hA
 have HE:=hid hE
 clear k0 y0_ k1 y1_ k2 y2_ k3 y3_ k4 y4_ k5 y5_ hb2
 have k0:=cell_atW hA 0
 have y0_:=cell_atW hE 0
 have k1:=cell_atW hA 1
 have y1_:=cell_atW hE 1
 have k2:=cell_atW hA 2
 have y2_:=cell_atW hE 2
 have k3:=cell_atW hA 3
 have y3_:=cell_atW hE 3
 have k4:=cell_atW hA 4
 have y4_:=cell_atW hE 4
 have k5:=cell_atW hA 5
 have y5_:=cell_atW hE 5
 simp only[List.getElem?_toArray,List.getElem?_cons_zero,List.getElem?_cons_succ] at k0 y0_ k1 y1_ k2 y2_ k3 y3_ k4 y4_ k5 y5_
 clear hA hE
 cases R1
 ·go_wp2
  go_ret
  exact⟨rfl,HB2.out⟩
 go_wp2_with fail
 refine(C2.out _ HB2.out).mono ?_
 rintro e w3 ⟨rfl,hb3⟩
 have hA:=HA.out.later hb3
 have hE:=HE.out.later hb3
 have HB3:=hid (step HB2.out hb3)
 clear k0 y0_ k1 y1_ k2 y2_ k3 y3_ k4 y4_ k5 y5_ hb3
 have k0:=cell_atW hA 0
 have y0_:=cell_atW hE 0
 have k1:=cell_atW hA 1
 have y1_:=cell_atW hE 1
 have k2:=cell_atW hA 2
 have y2_:=cell_atW hE 2
 have k3:=cell_atW hA 3
 have y3_:=cell_atW hE 3
 have k4:=cell_atW hA 4
 have y4_:=cell_atW hE 4
 have k5:=cell_atW hA 5
 have y5_:=cell_atW hE 5
 simp only[List.getElem?_toArray,List.getElem?_cons_zero,List.getElem?_cons_succ] at k0 y0_ k1 y1_ k2 y2_ k3 y3_ k4 y4_ k5 y5_
 clear hA hE
 cases R2
 ·go_wp2
  go_ret
  exact⟨rfl,HB3.out⟩
 go_wp2_with fail
 refine(C3.out _ HB3.out).mono ?_
 rintro e w4 ⟨rfl,hb4⟩
 go_wp2
 go_ret
 exact⟨by simp,step HB3.out hb4⟩
end Cm
end Go.Proofs.YtlnbmblbeaodcaaGreat
