/- Texts laid together by program. -/
import Derived.Test.YtbpmfjjbfiiiaaaQ14
import Derived.Laws.AppendOwnNone
import Derived.Deep.LoopGhost
import Derived.BigQuiet
import Derived.Deep.Cut
import Derived.Deep.RegionHeld3
import Derived.Deep.CutRange
import Derived.Deep.DeepCutAuto
import Derived.Lib.QuietBelow
/- Contracts of package cmd, and of the document's answers for it: letters, numbers, names, commands that may be. -/
set_option linter.unusedVariables false
set_option maxRecDepth 8000
set_option linter.unusedSimpArgs false
namespace Go.Proofs.Ytbpmfjjbfiiiaaa
open Lib (hid)
open Go.RowKit
namespace Cm

theorem high_any (v least:Int) (w:World):Calls Try.prog 83 #[.int .i64 v,.int .i64 least] w (Says (highF v least) w):=by
  unfold highF
  by_cases h1:least<=v<;>by_cases h2:v<=2305843009213693952<;>
    (go_enter Try.func83,Try.ntmps83
     go_wp2
     go_ret
     exact⟨by simp [h1,h2]<;>omega,rfl⟩)
theorem letter (c:UInt8):(decide (97<=(c.toNat:Int))=true/\decide ((c.toNat:Int)<=122)=true/\nameB c=true)\/
  (decide (97<=(c.toNat:Int))=false/\decide (48<=(c.toNat:Int))=true/\decide ((c.toNat:Int)<=57)=true/\nameB c=true)\/
  (decide (97<=(c.toNat:Int))=false/\decide (48<=(c.toNat:Int))=false/\((c.toNat:Int)==45)=true/\nameB c=true)\/
  (decide (97<=(c.toNat:Int))=false/\decide (48<=(c.toNat:Int))=false/\((c.toNat:Int)==45)=false/\nameB c=false)\/
  (decide (97<=(c.toNat:Int))=false/\decide (48<=(c.toNat:Int))=true/\decide ((c.toNat:Int)<=57)=false/\((c.toNat:Int)==45)=false/\nameB c=false)\/
  (decide (97<=(c.toNat:Int))=true/\decide ((c.toNat:Int)<=122)=false/\decide (48<=(c.toNat:Int))=true/\decide ((c.toNat:Int)<=57)=false/\((c.toNat:Int)==45)=false/\nameB c=false):=by
 have hc:=UInt8.toNat_lt c
 unfold nameB
 generalize c.toNat=n at hc ⊢
 simp only[decide_eq_true_eq,decide_eq_false_iff_not,beq_iff_eq,beq_eq_false_iff_ne,Bool.or_eq_true,Bool.and_eq_true,Bool.or_eq_false_iff,Bool.and_eq_false_imp]
 omega
theorem RefName_any (s:List UInt8) (w:World):Calls Try.prog 88 #[.string (bstr s)] w (Says (nameF s) w):=by
  have hs:=bstr_size s
  unfold nameF
  by_cases h1:s.length<1
  · rw[decide_eq_false (by omega)]
    go_enter Try.func88,Try.ntmps88
    go_wp2
    go_ret
    exact⟨rfl,rfl⟩
  by_cases h2:12<s.length
  · rw[decide_eq_false (show ¬s.length<=12 by omega)]
    go_enter Try.func88,Try.ntmps88
    go_wp2
    go_ret
    exact⟨by simp,rfl⟩
  rw[decide_eq_true (show 1<=s.length by omega),decide_eq_true (show s.length<=12 by omega)]
  go_enter Try.func88,Try.ntmps88
  go_wp2
  go_loop [3] (fun i=> ∃j:Nat,j<=s.length/\i= .int .i64 j/\(s.take j).all nameB=true) (fun i=>s.length - (intOf i).toNat)
  case atStart=>exact⟨0,by omega,rfl,rfl⟩
  case round=>
    obtain⟨j,hj,rfl,ha⟩:=hrel
    by_cases hlt:j<s.length
    · have hget:=bstr_get s j hlt
      have HA:=hid (all_take_succ s j hlt)
      have HF:=hid (all_false_of s j hlt)
      have HL:=letter (s.getD j 0)
      generalize s.getD j 0=c at hget HA HF HL
      have yes:nameB c=true->(s.take (j+1)).all nameB=true:=fun hn=>by rw[HA.out,hn,ha];rfl
      have YES:=hid yes
      clear yes HA
      rcases HL with ⟨q1,q2,hn⟩ | ⟨q1,q2,q3,hn⟩ | ⟨q1,q2,q3,hn⟩ | ⟨q1,q2,q3,hn⟩ | ⟨q1,q2,q3,q4,hn⟩ | ⟨q1,q2,q3,q4,q5,hn⟩
      all_goals
        have HN:=hid hn
        clear hn
        go_wp2
        first
          | (go_ret
             exact⟨by rw[HF.out HN.out];rfl,rfl⟩)
          | (go_round
             case rel=>exact⟨j+1,by omega,by go_num,YES.out HN.out⟩
             case measure=>simp [intOf];omega)
    · obtain rfl:j=s.length:=by omega
      go_wp2
      go_ret
      rw[List.take_length] at ha
      exact⟨by rw[ha];rfl,rfl⟩
end Cm
end Go.Proofs.Ytbpmfjjbfiiiaaa

/- Contracts: which commands and requests may be. -/
set_option linter.unusedVariables false
set_option maxRecDepth 8000
set_option linter.unusedSimpArgs false
namespace Go.Proofs.Ytbpmfjjbfiiiaaa
open Lib (hid)
open Go.RowKit
namespace Cm

theorem RefMay_any (c:CmdV) (w:World):Calls Try.prog 84 #[cmdVal c] w (SaysB (mayF c) w):=by
 obtain⟨k,s,n⟩:=c
 unfold cmdVal mayF
 dsimp only
 have C1:=hid (fun w=>high_any s 1 w)
 have C2:=hid (fun w=>RefName_any n w)
 have E:=hid (bstr_empty n)
 by_cases h1:k=1
 ·subst h1
  rw[if_pos rfl]
  by_cases hs:s=0
  ·subst hs
   go_enter Try.func84,Try.ntmps84
   go_wp2
   go_ret
   exact⟨by rw[E.out];rfl,newAlloc _ _⟩
  ·have d:(s==0)=false:=by simpa using hs
   go_enter Try.func84,Try.ntmps84
   go_wp2
   go_ret
   exact⟨by simp [hs],newAlloc _ _⟩
 rw[if_neg h1]
 by_cases h2:k=2\/k=6
 ·rw[if_pos h2]
  clear h1
  rcases h2 with rfl | rfl
  all_goals
   cases hh:highF s 1
   all_goals
    have H:=hid hh
    clear hh
    go_enter Try.func84,Try.ntmps84
    go_wp2_with (go_at_call 83;refine(C1.out _).mono ?_;rw[H.out];rintro e w' ⟨rfl,rfl⟩)
    go_ret
    exact⟨by first | rfl | (rw[E.out];rfl),newAlloc _ _⟩
 rw[if_neg h2]
 by_cases h3:k=3\/k=4\/k=5
 ·rw[if_pos h3]
  clear h1 h2
  rcases h3 with rfl | rfl | rfl
  all_goals
   cases hh:highF s 1
   all_goals
    have H:=hid hh
    clear hh
    go_enter Try.func84,Try.ntmps84
    go_wp2_with (first
     | (go_at_call 83;refine(C1.out _).mono ?_;rw[H.out];rintro e w' ⟨rfl,rfl⟩)
     | (go_at_call 88;refine(C2.out _).mono ?_;rintro e w' ⟨rfl,rfl⟩))
    go_ret
    exact⟨by simp,newAlloc _ _⟩
 rw[if_neg h3]
 have d1:(k==1)=false:=by simp;omega
 have d2:(k==2)=false:=by simp;omega
 have d3:(k==3)=false:=by simp;omega
 have d4:(k==4)=false:=by simp;omega
 have d5:(k==5)=false:=by simp;omega
 have d6:(k==6)=false:=by simp;omega
 clear h1 h2 h3
 go_enter Try.func84,Try.ntmps84
 go_wp2
 go_ret
 exact⟨rfl,newAlloc _ _⟩
theorem RefMayReq_any (r:ReqV) (w:World):Calls Try.prog 77 #[reqVal r] w (SaysB (mayR r) w):=by
 obtain⟨c,q,m⟩:=r
 have C1:=hid (fun w=>high_any q 1 w)
 have C2:=hid (fun w=>RefMay_any m w)
 unfold reqVal mayR
 unfold cmdVal at C2
 obtain⟨k,s,n⟩:=m
 dsimp only at C2 ⊢
 by_cases h0:0<=c
 ·have d0:decide (0<=c)=true:=decide_eq_true h0
  by_cases h1:c<8
  ·have d1:decide (c<8)=true:=decide_eq_true h1
   cases hh:highF q 1
   all_goals
    have H:=hid hh
    clear hh
    go_enter Try.func77,Try.ntmps77
    go_wp2_with (first
     | (go_at_call 83;refine(C1.out _).mono ?_;rw[H.out];rintro e w' ⟨rfl,rfl⟩)
     | (go_at_call 84;refine(C2.out _).mono ?_;rintro e w' ⟨rfl,hb⟩))
    go_ret
    first
     | exact⟨by simp [h0,h1],newAlloc _ _⟩
     | exact⟨by simp [h0,h1],step (newAlloc _ _) hb⟩
  ·have d1:decide (c<8)=false:=decide_eq_false h1
   go_enter Try.func77,Try.ntmps77
   go_wp2
   go_ret
   exact⟨by simp [h0,h1],newAlloc _ _⟩
 ·have d0:decide (0<=c)=false:=decide_eq_false h0
  go_enter Try.func77,Try.ntmps77
  go_wp2
  go_ret
  exact⟨by simp [h0],newAlloc _ _⟩
end Cm
end Go.Proofs.Ytbpmfjjbfiiiaaa

/- Slices that read as lists: parts of them; appended to a row of one's own. No program is named here. -/
set_option linter.unusedVariables false
set_option maxRecDepth 8000
set_option linter.unusedSimpArgs false
namespace Go.Proofs.Ytbpmfjjbfiiiaaa
open Lib (hid)
open Go.RowKit

section
variable {α : Type} {sz : Nat} {f : α → List Value}

theorem RdX.one {w:World} {b:Nat} {cs:Array Value} {t:TypeId} {y:α} (h:w.heap[b]?=some (.cells cs t)) (hcs:cs.toList=f y):RdX sz f w (.slice (some ⟨b,0,none⟩) 1 1) [y]:=by
 refine⟨some ⟨b,0,none⟩,1,rfl,Nat.le_refl _,by unfold maxLen;omega,(fun q=>by cases q),fun x hx hp=>?_⟩
 cases hx
 refine⟨rfl,fun i hi k u hu=>?_⟩
 obtain rfl:i=0:=by simpa using hi
 have hu:(f y)[k]?=some u:=hu
 rw[<-hcs] at hu
 simp only[Nat.zero_mul,Nat.zero_add]
 simpa [World.cell?,h] using hu
end
end Go.Proofs.Ytbpmfjjbfiiiaaa

/- Rows of requests, and batches, in memory. -/
set_option linter.unusedVariables false
set_option maxRecDepth 8000
set_option linter.unusedSimpArgs false
namespace Go.Proofs.Ytbpmfjjbfiiiaaa
open Lib (hid)
open Go.RowKit
namespace Cm

theorem box6b {w w':World} {x0 x1 x2 x3 x4 x5:Value} {t:TypeId} (h:Below (w.alloc (.cells #[x0,x1,x2,x3,x4,x5] t)).heap.size (w.alloc (.cells #[x0,x1,x2,x3,x4,x5] t)) w'):
  w'.cell? ⟨w.heap.size,0,none⟩=some x0/\w'.cell? ⟨w.heap.size,1,none⟩=some x1/\w'.cell? ⟨w.heap.size,2,none⟩=some x2/\w'.cell? ⟨w.heap.size,3,none⟩=some x3/\w'.cell? ⟨w.heap.size,4,none⟩=some x4/\w'.cell? ⟨w.heap.size,5,none⟩=some x5:=by
 have h0:w.heap.size<(w.alloc (.cells #[x0,x1,x2,x3,x4,x5] t)).heap.size :=by simp
 have key: ∀k,w'.cell? ⟨w.heap.size,k,none⟩=#[x0,x1,x2,x3,x4,x5][k]?:=fun k=>by
  rw[h.cell (p:=⟨w.heap.size,k,none⟩) h0];simp [go_sem]
 exact⟨key 0,key 1,key 2,key 3,key 4,key 5⟩
end Cm
end Go.Proofs.Ytbpmfjjbfiiiaaa

/- Contracts: package batch's Same, Valid, isNumber, hasClient, mayReqs, May, and the document's. -/
set_option linter.unusedVariables false
set_option maxRecDepth 8000
set_option linter.unusedSimpArgs false
namespace Go.Proofs.Ytbpmfjjbfiiiaaa
open Lib (hid)
open Go.RowKit Go.Shelf
namespace Cm

theorem high12_any (v least:Int) (w:World):Calls Try.prog 54 #[.int .i64 v,.int .i64 least] w (Says (highF v least) w):=by
  unfold highF
  by_cases h1:least<=v<;>by_cases h2:v<=2305843009213693952<;>
    (go_enter Try.func54,Try.ntmps54
     go_wp2
     go_ret
     exact⟨by simp [h1,h2]<;>omega,rfl⟩)
theorem MayTip_any (a b:Int) (w:World):Calls Try.prog 55 #[tipVal a b] w (SaysB (highF a 0 && highF b 0) w):=by
 unfold highF tipVal
 have HB:=hid (newAlloc w (.cells #[.int .i64 a,.int .i64 b] 28))
 by_cases e0:0<=a
 case neg=>
  have d0:decide (0<=a)=false:=decide_eq_false e0
  have E:=hid d0
  clear e0
  go_enter Try.func55,Try.ntmps55
  go_wp2
  go_ret
  exact⟨by simp [E.out],HB.out⟩
 have d0:decide (0<=a)=true:=decide_eq_true e0
 clear e0
 by_cases e1:a<=2305843009213693952
 case neg=>
  have d1:decide (a<=2305843009213693952)=false:=decide_eq_false e1
  have E:=hid d1
  clear e1
  go_enter Try.func55,Try.ntmps55
  go_wp2
  go_ret
  exact⟨by simp [E.out],HB.out⟩
 have d1:decide (a<=2305843009213693952)=true:=decide_eq_true e1
 clear e1
 by_cases e2:0<=b
 case neg=>
  have d2:decide (0<=b)=false:=decide_eq_false e2
  have E:=hid d2
  clear e2
  go_enter Try.func55,Try.ntmps55
  go_wp2
  go_ret
  exact⟨by simp [E.out],HB.out⟩
 have d2:decide (0<=b)=true:=decide_eq_true e2
 clear e2
 by_cases e3:b<=2305843009213693952
 case neg=>
  have d3:decide (b<=2305843009213693952)=false:=decide_eq_false e3
  have E:=hid d3
  clear e3
  go_enter Try.func55,Try.ntmps55
  go_wp2
  go_ret
  exact⟨by simp [E.out],HB.out⟩
 have d3:decide (b<=2305843009213693952)=true:=decide_eq_true e3
 clear e3
 have E:=hid (And.intro d0 (And.intro d1 (And.intro d2 d3)))
 go_enter Try.func55,Try.ntmps55
 go_wp2
 go_ret
 exact⟨by obtain⟨x0,x1,x2,x3⟩:=E.out;simp [x0,x1,x2,x3],HB.out⟩
theorem RefValidB_any (b:BatV) (v:Value) (p q:Int) (w:World):Calls Try.prog 57 #[tipVal p q,batVal b v] w (SaysB (validF p q b) w):=by
 obtain⟨fb,vb,tb,sb,mb,lb⟩:=b
 unfold batVal tipVal validF
 dsimp only
 have HB:=hid (stepAlloc (newAlloc w (.cells #[.int .i64 p,.int .i64 q] 28)) (.cells #[.bool fb,.int .i64 vb,.int .i64 tb,.int .i64 sb,.int .i64 mb,v] 42))
 cases fb
 case true=>
  go_enter Try.func57,Try.ntmps57
  go_wp2
  go_ret
  exact⟨by simp,HB.out⟩
 by_cases e1:tb=p
 case neg=>
  have d1:(tb==p)=false:=by simpa using e1
  have E1:=hid e1
  clear e1
  go_enter Try.func57,Try.ntmps57
  go_wp2
  go_ret
  exact⟨by simp [E1.out],HB.out⟩
 have d1:(tb==p)=true:=by simpa using e1
 have E1:=hid e1
 clear e1
 by_cases e2:sb=q
 case neg=>
  have d2:(sb==q)=false:=by simpa using e2
  have E2:=hid e2
  clear e2
  go_enter Try.func57,Try.ntmps57
  go_wp2
  go_ret
  exact⟨by simp [E2.out],HB.out⟩
 have d2:(sb==q)=true:=by simpa using e2
 have E2:=hid e2
 clear e2
 go_enter Try.func57,Try.ntmps57
 go_wp2
 go_ret
 exact⟨by simp [E1.out,E2.out],HB.out⟩
theorem hasC_hit (l:List ReqV) (i k:Nat) (hk:k<i) (h:k<l.length) (c:Int) (e:l[k].client =c):hasC (l.take i) c=true:=by
 unfold hasC
 rw[List.any_eq_true]
 refine⟨l[k],?_,by simpa using e⟩
 rw[List.mem_take_iff_getElem]
 exact⟨k,by omega,rfl⟩
set_option maxHeartbeats 4000000 in
theorem RefReqs_any (v:Value) (l:List ReqV) (w:World) (h:RdR w v l):Calls Try.prog 68 #[v] w (SaysB (reqsF l) w):=by
 have hm:=h.len
 obtain⟨a,cap,rfl⟩:=h.form
 unfold reqsF
 by_cases c3:l.length<=3
 case neg=>
  rw[decide_eq_false c3]
  clear h
  have d3:decide (3<(l.length:Int))=true:=by simp;omega
  generalize l.length=L at*
  go_enter Try.func68,Try.ntmps68
  go_wp2
  go_ret
  exact⟨by simp,Below.refl _ _⟩
 have d3:decide (3<(l.length:Int))=false:=by simp;omega
 rw[decide_eq_true c3,Bool.true_and]
 have HA:=hid (fun i hi=>rdr_at h i hi)
 have HD:=hid (okR_step l)
 have HE:=hid (okR_all l)
 have HS:=hid (hasC_step l)
 have HH:=hid (hasC_hit l)
 clear h
 obtain⟨L,hL⟩: ∃L,l.length=L:=⟨_,rfl⟩
 have HL:=hid hL
 rw[hL] at hm c3 d3 HE ⊢
 clear hL
 go_enter Try.func68,Try.ntmps68
 go_wp2
 go_loopw [3,4] (fun i z wr=> ∃j:Nat,j<=L/\i= .int .i64 j/\Hid (Below w.heap.size w wr)/\Hid (okR [] l=okR (l.take j) (l.drop j))) (fun i _ _=>L - (intOf i).toNat)
 case atStart=>exact⟨0,by omega,rfl,hid (Below.refl _ _),hid rfl⟩
 case round=>
  obtain⟨j,hj,rfl,HB,ha⟩:=hrel
  by_cases hlt:j<L
  ·have hjl:j<l.length:=by rw[HL.out];exact hlt
   obtain⟨b,o,rfl,hc⟩:=HA.out j hjl
   obtain⟨q0,q1,q2,q3,q4⟩:=hc _ HB.out
   have HX:Hid (∀k (hk:k<l.length) (w':World),Below w.heap.size w w'->w'.cell? ⟨b,o+k*5,none⟩=some (.int .i64 l[k].client)):=fun k hk w' hb=>by
    obtain⟨b',o',e,hc'⟩:=HA.out k hk
    cases e
    exact(hc' w' hb).1
   have hd:=HD.out j hjl
   have cm:=fun W=>RefMayReq_any l[j] W
   clear HA HD hc
   have HJ:=hid (HX.out j hjl)
   generalize l[j]=x at q0 q1 q2 q3 q4 hd cm HJ
   obtain⟨xc,xs,xk,xn,xm⟩:=x
   unfold reqVal at cm
   dsimp only at q0 q1 q2 q3 q4 hd cm HJ
   have CM:=hid cm
   have hj0:(0:Int)<=(j:Int):=by omega
   clear cm
   generalize hHM:mayR ⟨xc,xs,xk,xn,xm⟩=HM at hd CM
   clear hHM
   cases HM
   case false=>
    have H:=hid hd
    clear hd
    go_wp2_with (go_at_call 77;refine(CM.out _).mono ?_;rintro e w1 ⟨rfl,hb1⟩)
    go_ret
    exact⟨by rw[ha.out,H.out];simp,step HB.out hb1⟩
   have H:=hid hd
   clear hd
   go_upto_region 8 with (go_at_call 77;refine(CM.out _).mono ?_;rintro e w1 ⟨rfl,hb1⟩;have HB1:=hid (step HB.out hb1))
   clear hb1 q0 q1 q2 q3 q4 CM
   go_wp2
   go_loopw [4] (fun i wr=> ∃k:Nat,k<=j/\i= .int .i64 k/\Hid (Below w.heap.size w wr)/\Hid (hasC (l.take k) xc=false)) (fun i _=>j - (intOf i).toNat)
   case atStart=>exact⟨0,by omega,rfl,HB1,hid (by simp [hasC])⟩
   case round=>
    obtain⟨k,hk,rfl,HB2,hf⟩:=hrel
    by_cases hkj:k<j
    ·have hkl:k<l.length:=by omega
     have p0:=HX.out k hkl _ HB2.out
     have p1:=HJ.out _ HB2.out
     have hs:=HS.out k hkl xc
     have hh:=HH.out j k hkj hkl xc
     have hk0:(0:Int)<=(k:Int):=by omega
     have hk1:(k:Int)<(L:Int):=by omega
     have hj1:(j:Int)<(L:Int):=by omega
     generalize l[k].client =y at p0 hs hh
     by_cases e:y=xc
     ·have d:(y==xc)=true:=by simpa using e
      have HHH:=hid (hh e)
      clear hh hs e HX HJ HS HH
      go_upto_region 11 with fail
      go_quiet (fail)
      go_wp2
      go_ret
      exact⟨by rw[ha.out,H.out,HHH.out];simp,below_drewB HB2.out nq⟩
     ·have d:(y==xc)=false:=by simpa using e
      have HSS:Hid (hasC (l.take (k+1)) xc=false):=hid (by rw[hs,hf.out];simpa using e)
      clear hh hs e HX HJ HS HH
      go_upto_region 11 with fail
      go_quiet (fail)
      go_wp2
      go_roundw
      case rel=>exact⟨k+1,by omega,by go_num,hid (below_drewB HB2.out nq),HSS⟩
      case measure=>simp [intOf];omega
    ·obtain rfl:k=j:=by omega
     clear HX HJ HS HH
     go_wp2
     go_roundw
     case rel=>exact⟨k+1,by omega,by go_num,HB2,hid (by rw[ha.out,H.out,hf.out];simp)⟩
     case measure=>simp [intOf];omega
  ·obtain rfl:j=L:=by omega
   go_wp2
   go_ret
   exact⟨by rw[ha.out,HE.out];rfl,HB.out⟩
end Cm
end Go.Proofs.Ytbpmfjjbfiiiaaa

/- Contracts: package batch's May, and the document's. -/
set_option linter.unusedVariables false
set_option maxRecDepth 8000
set_option linter.unusedSimpArgs false
namespace Go.Proofs.Ytbpmfjjbfiiiaaa
open Lib (hid)
open Go.RowKit
namespace Cm

set_option maxHeartbeats 2000000 in
theorem RefMayB_any (b:BatV) (u:Value) (w:World) (h:RdR w u b.reqs):Calls Try.prog 56 #[batVal b u] w (SaysB (mayB b) w):=by
 obtain⟨fb,vb,tb,sb,mb,lb⟩:=b
 have HB:=hid (newAlloc w (.cells #[.bool fb,.int .i64 vb,.int .i64 tb,.int .i64 sb,.int .i64 mb,u] 42))
 dsimp only at h
 cases fb
 case true=>
  rw[show mayB ⟨true,vb,tb,sb,mb,lb⟩=(decide (vb=0) && (decide (tb=0) && decide (sb=0)) && decide (mb=0) && decide (lb.length=0)) from rfl]
  obtain⟨ua,uc,rfl⟩:=h.form
  unfold batVal
  dsimp only
  clear h
  generalize lb.length=L at*
  by_cases e:vb=0
  case neg=>
   have d0:(vb==0)=false:=by simpa using e
   have E:=hid e
   clear e
   go_enter Try.func56,Try.ntmps56
   go_wp2
   go_ret
   exact⟨by simp [E.out],HB.out⟩
  have d0:(vb==0)=true:=by simpa using e
  have e0:=hid e
  clear e
  by_cases e:tb=0
  case neg=>
   have d1:(tb==0)=false:=by simpa using e
   have E:=hid e
   clear e
   go_enter Try.func56,Try.ntmps56
   go_wp2
   go_ret
   exact⟨by simp [E.out],HB.out⟩
  have d1:(tb==0)=true:=by simpa using e
  have e1:=hid e
  clear e
  by_cases e:sb=0
  case neg=>
   have d2:(sb==0)=false:=by simpa using e
   have E:=hid e
   clear e
   go_enter Try.func56,Try.ntmps56
   go_wp2
   go_ret
   exact⟨by simp [E.out],HB.out⟩
  have d2:(sb==0)=true:=by simpa using e
  have e2:=hid e
  clear e
  by_cases e:mb=0
  case neg=>
   have d3:(mb==0)=false:=by simpa using e
   have E:=hid e
   clear e
   go_enter Try.func56,Try.ntmps56
   go_wp2
   go_ret
   exact⟨by simp [E.out],HB.out⟩
  have d3:(mb==0)=true:=by simpa using e
  have e3:=hid e
  clear e
  by_cases e:L=0
  case neg=>
   have d4:((L:Int)==0)=false:=by simpa using e
   have E:=hid e
   clear e
   go_enter Try.func56,Try.ntmps56
   go_wp2
   go_ret
   exact⟨by simp [E.out],HB.out⟩
  have d4:((L:Int)==0)=true:=by simpa using e
  have e4:=hid e
  clear e
  go_enter Try.func56,Try.ntmps56
  go_wp2
  go_ret
  exact⟨by simp [e0.out,e1.out,e2.out,e3.out,e4.out],HB.out⟩
 rw[show mayB ⟨false,vb,tb,sb,mb,lb⟩=(highF vb 0 && highF tb 0 && highF sb 0 && highF mb 0 && reqsF lb) from rfl]
 have C1:=hid (fun w=>high12_any vb 0 w)
 have C2:=hid (fun w=>high12_any mb 0 w)
 have C3:=hid (fun w=>MayTip_any tb sb w)
 have C5:=hid (fun W hb=>RefReqs_any u lb W (h.later hb))
 obtain⟨ua,uc,rfl⟩:=h.form
 unfold batVal
 unfold tipVal at C3
 dsimp only
 clear h
 have eo:(highF vb 0 && highF tb 0 && highF sb 0 && highF mb 0 && reqsF lb)=(highF vb 0 && (highF mb 0 && ((highF tb 0 && highF sb 0) && reqsF lb))):=by
  cases highF vb 0<;>cases highF tb 0<;>cases highF sb 0<;>cases highF mb 0<;>rfl
 rw[eo]
 clear eo
 generalize lb.length=L at*
 generalize highF vb 0=H1 at C1 ⊢
 generalize highF mb 0=H2 at C2 ⊢
 generalize (highF tb 0 && highF sb 0)=H3 at C3 ⊢
 generalize reqsF lb=H5 at C5 ⊢
 cases H1
 case false=>
  go_enter Try.func56,Try.ntmps56
  go_wp2_with fail
  refine(C1.out _).mono ?_
  rintro e w1 ⟨rfl,rfl⟩
  go_wp2
  go_ret
  exact⟨by simp,HB.out⟩
 cases H2
 case false=>
  go_enter Try.func56,Try.ntmps56
  go_wp2_with fail
  refine(C1.out _).mono ?_
  rintro e w1 ⟨rfl,rfl⟩
  go_wp2_with fail
  refine(C2.out _).mono ?_
  rintro e w1 ⟨rfl,rfl⟩
  go_wp2
  go_ret
  exact⟨by simp,HB.out⟩
 cases H3
 case false=>
  go_enter Try.func56,Try.ntmps56
  go_wp2_with fail
  refine(C1.out _).mono ?_
  rintro e w1 ⟨rfl,rfl⟩
  go_wp2_with fail
  refine(C2.out _).mono ?_
  rintro e w1 ⟨rfl,rfl⟩
  go_wp2_with fail
  refine(C3.out _).mono ?_
  rintro e w1 ⟨rfl,hb1⟩
  obtain⟨k0,k1,k2,k3,k4,k5⟩:=box6b hb1
  go_wp2
  go_ret
  exact⟨by simp,step HB.out hb1⟩
 go_enter Try.func56,Try.ntmps56
 go_wp2_with fail
 refine(C1.out _).mono ?_
 rintro e w1 ⟨rfl,rfl⟩
 go_wp2_with fail
 refine(C2.out _).mono ?_
 rintro e w1 ⟨rfl,rfl⟩
 go_wp2_with fail
 refine(C3.out _).mono ?_
 rintro e w1 ⟨rfl,hb1⟩
 obtain⟨k0,k1,k2,k3,k4,k5⟩:=box6b hb1
 go_wp2_with (go_at_call 68;refine(C5.out _ (step HB.out hb1)).mono ?_;rintro e w2 ⟨rfl,hb2⟩)
 go_ret
 exact⟨by simp,step (step HB.out hb1) hb2⟩
end Cm
end Go.Proofs.Ytbpmfjjbfiiiaaa

/- What package plan answers, as plain functions over promises. No program is named here. -/
set_option linter.unusedVariables false
set_option maxRecDepth 8000
set_option linter.unusedSimpArgs false
namespace Go.Proofs.Ytbpmfjjbfiiiaaa
open Lib (hid)
open Go.RowKit
namespace Pl
open Cm Ac

theorem okS_step (l:List PromV) (i:Nat) (h:i<l.length):okS (l.take i) (l.drop i)=(mayP l[i] && !hasW (l.take i) l[i].who && okS (l.take (i+1)) (l.drop (i+1))):=by
 rw[List.drop_eq_getElem_cons h,okS,List.take_succ_eq_append_getElem h]
theorem rise_strict {l:List PromV} (h:l.Pairwise fun a b=>a.who<=b.who) (h2:l.Pairwise fun a b=>a.who≠b.who):l.Pairwise fun a b=>a.who<b.who:=
 (h.and h2).imp fun⟨p,q⟩=>by omega
theorem sortP_strict {l:List PromV} (h:okS [] l=true):(sortP l).Pairwise fun a b=>a.who<b.who:=
 rise_strict (sortP_rise l) (((sortP_perm l).pairwise_iff (fun {a b} r e=>r e.symm)).2 ((okS_iff l []).1 h).2.1)
end Pl
end Go.Proofs.Ytbpmfjjbfiiiaaa

/- What package view answers, as plain functions over numbers. No program is named here. -/
set_option linter.unusedVariables false
set_option maxRecDepth 8000
set_option linter.unusedSimpArgs false
namespace Go.Proofs.Ytbpmfjjbfiiiaaa
open Lib (hid)
open Go.RowKit
namespace Vw

def hiF (v:Int):Bool:=withinF v 0 2305843009213693952
end Vw
end Go.Proofs.Ytbpmfjjbfiiiaaa
