/- Texts laid together by program. -/
import Derived.Test.YtheenjkmglmihaaQ4
/- Contracts: package batch's May, and the document's. -/
set_option linter.unusedVariables false
set_option maxRecDepth 8000
set_option linter.unusedSimpArgs false
namespace Go.Proofs.Ytheenjkmglmihaa
open Lib (hid)
open Go.RowKit
namespace Cm

theorem sameRs_nil (l:List ReqV):sameRs l []=decide (l.length=0):=by
 cases l<;>simp [sameRs]
theorem may_fill (v t s m:Int) (l:List ReqV):mayB ⟨true,v,t,s,m,l⟩=sameB ⟨true,v,t,s,m,l⟩ fillB:=by
 unfold mayB sameB fillB
 simp [sameRs_nil]
set_option maxHeartbeats 2000000 in
theorem MayB_any (b:BatV) (u:Value) (w:World) (h:RdR w u b.reqs):Calls Try.prog 36 #[batVal b u] w (SaysB (mayB b) w):=by
 obtain⟨fb,vb,tb,sb,mb,lb⟩:=b
 have HB:=hid (newAlloc w (.cells #[.bool fb,.int .i64 vb,.int .i64 tb,.int .i64 sb,.int .i64 mb,u] 47))
 dsimp only at h
 cases fb
 case true=>
  have CS:=hid (SameB_any ⟨true,vb,tb,sb,mb,lb⟩ fillB u (.slice none 0 0) _ (h.later HB.out) (RdX.nil _))
  rw[may_fill]
  generalize sameB ⟨true,vb,tb,sb,mb,lb⟩ fillB=S at CS ⊢
  unfold batVal fillB at CS
  unfold batVal
  dsimp only at CS ⊢
  clear h
  go_enter Try.func36,Try.ntmps36
  go_wp2_with (go_at_call 48;refine CS.out.mono ?_;rintro e w1 ⟨rfl,hb1⟩)
  go_ret
  exact⟨rfl,step HB.out hb1⟩
 rw[show mayB ⟨false,vb,tb,sb,mb,lb⟩=(highF vb 0 && highF tb 0 && highF sb 0 && highF mb 0 && reqsF lb) from rfl]
 have C1:=hid (fun w=>isNumB_any vb w)
 have C2:=hid (fun w=>isNumB_any tb w)
 have C3:=hid (fun w=>isNumB_any sb w)
 have C4:=hid (fun w=>isNumB_any mb w)
 have C5:=hid (mayReqs_any u lb _ (h.later HB.out))
 obtain⟨ua,uc,rfl⟩:=h.form
 unfold batVal
 dsimp only
 clear h
 generalize lb.length=L at*
 generalize highF vb 0=H1 at C1 ⊢
 generalize highF tb 0=H2 at C2 ⊢
 generalize highF sb 0=H3 at C3 ⊢
 generalize highF mb 0=H4 at C4 ⊢
 generalize reqsF lb=H5 at C5 ⊢
 cases H1
 case false=>
  go_enter Try.func36,Try.ntmps36
  go_wp2_with fail
  refine(C1.out _).mono ?_
  rintro e w1 ⟨rfl,rfl⟩
  go_wp2
  go_ret
  exact⟨by simp,HB.out⟩
 cases H2
 case false=>
  go_enter Try.func36,Try.ntmps36
  go_wp2_with fail
  refine(C1.out _).mono ?_
  rintro e w1 ⟨rfl,rfl⟩
  go_wp2_with fail
  refine(C2.out _).mono ?_
  rintro e w1 ⟨rfl,rfl⟩
  go_wp2
  go_ret
  exact⟨by simp,HB.out⟩
 cases H3
 case false=>
  go_enter Try.func36,Try.ntmps36
  go_wp2_with fail
  refine(C1.out _).mono ?_
  rintro e w1 ⟨rfl,rfl⟩
  go_wp2_with fail
  refine(C2.out _).mono ?_
  rintro e w1 ⟨rfl,rfl⟩
  go_wp2_with fail
  refine(C3.out _).mono ?_
  rintro e w1 ⟨rfl,rfl⟩
  go_wp2
  go_ret
  exact⟨by simp,HB.out⟩
 cases H4
 case false=>
  go_enter Try.func36,Try.ntmps36
  go_wp2_with fail
  refine(C1.out _).mono ?_
  rintro e w1 ⟨rfl,rfl⟩
  go_wp2_with fail
  refine(C2.out _).mono ?_
  rintro e w1 ⟨rfl,rfl⟩
  go_wp2_with fail
  refine(C3.out _).mono ?_
  rintro e w1 ⟨rfl,rfl⟩
  go_wp2_with fail
  refine(C4.out _).mono ?_
  rintro e w1 ⟨rfl,rfl⟩
  go_wp2
  go_ret
  exact⟨by simp,HB.out⟩
 go_enter Try.func36,Try.ntmps36
 go_wp2_with fail
 refine(C1.out _).mono ?_
 rintro e w1 ⟨rfl,rfl⟩
 go_wp2_with fail
 refine(C2.out _).mono ?_
 rintro e w1 ⟨rfl,rfl⟩
 go_wp2_with fail
 refine(C3.out _).mono ?_
 rintro e w1 ⟨rfl,rfl⟩
 go_wp2_with fail
 refine(C4.out _).mono ?_
 rintro e w1 ⟨rfl,rfl⟩
 go_wp2_with (go_at_call 49;refine C5.out.mono ?_;rintro e w1 ⟨rfl,hb1⟩)
 go_ret
 exact⟨by simp,step HB.out hb1⟩
set_option maxHeartbeats 2000000 in
theorem RefMayB_any (b:BatV) (u:Value) (w:World) (h:RdR w u b.reqs):Calls Try.prog 25 #[batVal b u] w (SaysB (mayB b) w):=by
 obtain⟨fb,vb,tb,sb,mb,lb⟩:=b
 have HB:=hid (newAlloc w (.cells #[.bool fb,.int .i64 vb,.int .i64 tb,.int .i64 sb,.int .i64 mb,u] 47))
 dsimp only at h
 cases fb
 case true=>
  rw[show mayB ⟨true,vb,tb,sb,mb,lb⟩=(decide (vb=0) && (decide (tb=0) && decide (sb=0)) && decide (mb=0) && decide (lb.length=0)) from rfl]
  obtain⟨ua,uc,rfl⟩:=h.form
  unfold batVal
  dsimp only
  clear h
  generalize lb.length=L at*
  by_cases e:vb=0
  case neg=>
   have d0:(vb==0)=false:=by simpa using e
   have E:=hid e
   clear e
   go_enter Try.func25,Try.ntmps25
   go_wp2
   go_ret
   exact⟨by simp [E.out],HB.out⟩
  have d0:(vb==0)=true:=by simpa using e
  have e0:=hid e
  clear e
  by_cases e:tb=0
  case neg=>
   have d1:(tb==0)=false:=by simpa using e
   have E:=hid e
   clear e
   go_enter Try.func25,Try.ntmps25
   go_wp2
   go_ret
   exact⟨by simp [E.out],HB.out⟩
  have d1:(tb==0)=true:=by simpa using e
  have e1:=hid e
  clear e
  by_cases e:sb=0
  case neg=>
   have d2:(sb==0)=false:=by simpa using e
   have E:=hid e
   clear e
   go_enter Try.func25,Try.ntmps25
   go_wp2
   go_ret
   exact⟨by simp [E.out],HB.out⟩
  have d2:(sb==0)=true:=by simpa using e
  have e2:=hid e
  clear e
  by_cases e:mb=0
  case neg=>
   have d3:(mb==0)=false:=by simpa using e
   have E:=hid e
   clear e
   go_enter Try.func25,Try.ntmps25
   go_wp2
   go_ret
   exact⟨by simp [E.out],HB.out⟩
  have d3:(mb==0)=true:=by simpa using e
  have e3:=hid e
  clear e
  by_cases e:L=0
  case neg=>
   have d4:((L:Int)==0)=false:=by simpa using e
   have E:=hid e
   clear e
   go_enter Try.func25,Try.ntmps25
   go_wp2
   go_ret
   exact⟨by simp [E.out],HB.out⟩
  have d4:((L:Int)==0)=true:=by simpa using e
  have e4:=hid e
  clear e
  go_enter Try.func25,Try.ntmps25
  go_wp2
  go_ret
  exact⟨by simp [e0.out,e1.out,e2.out,e3.out,e4.out],HB.out⟩
 rw[show mayB ⟨false,vb,tb,sb,mb,lb⟩=(highF vb 0 && highF tb 0 && highF sb 0 && highF mb 0 && reqsF lb) from rfl]
 have C1:=hid (fun w=>high12_any vb 0 w)
 have C2:=hid (fun w=>high12_any mb 0 w)
 have C3:=hid (fun w=>MayTip_any tb sb w)
 have C5:=hid (fun W hb=>RefReqs_any u lb W (h.later hb))
 obtain⟨ua,uc,rfl⟩:=h.form
 unfold batVal
 unfold tipVal at C3
 dsimp only
 clear h
 have eo:(highF vb 0 && highF tb 0 && highF sb 0 && highF mb 0 && reqsF lb)=(highF vb 0 && (highF mb 0 && ((highF tb 0 && highF sb 0) && reqsF lb))):=by
  cases highF vb 0<;>cases highF tb 0<;>cases highF sb 0<;>cases highF mb 0<;>rfl
 rw[eo]
 clear eo
 generalize lb.length=L at*
 generalize highF vb 0=H1 at C1 ⊢
 generalize highF mb 0=H2 at C2 ⊢
 generalize (highF tb 0 && highF sb 0)=H3 at C3 ⊢
 generalize reqsF lb=H5 at C5 ⊢
 cases H1
 case false=>
  go_enter Try.func25,Try.ntmps25
  go_wp2_with fail
  refine(C1.out _).mono ?_
  rintro e w1 ⟨rfl,rfl⟩
  go_wp2
  go_ret
  exact⟨by simp,HB.out⟩
 cases H2
 case false=>
  go_enter Try.func25,Try.ntmps25
  go_wp2_with fail
  refine(C1.out _).mono ?_
  rintro e w1 ⟨rfl,rfl⟩
  go_wp2_with fail
  refine(C2.out _).mono ?_
  rintro e w1 ⟨rfl,rfl⟩
  go_wp2
  go_ret
  exact⟨by simp,HB.out⟩
 cases H3
 case false=>
  go_enter Try.func25,Try.ntmps25
  go_wp2_with fail
  refine(C1.out _).mono ?_
  rintro e w1 ⟨rfl,rfl⟩
  go_wp2_with fail
  refine(C2.out _).mono ?_
  rintro e w1 ⟨rfl,rfl⟩
  go_wp2_with fail
  refine(C3.out _).mono ?_
  rintro e w1 ⟨rfl,hb1⟩
  obtain⟨k0,k1,k2,k3,k4,k5⟩:=box6b hb1
  go_wp2
  go_ret
  exact⟨by simp,step HB.out hb1⟩
 go_enter Try.func25,Try.ntmps25
 go_wp2_with fail
 refine(C1.out _).mono ?_
 rintro e w1 ⟨rfl,rfl⟩
 go_wp2_with fail
 refine(C2.out _).mono ?_
 rintro e w1 ⟨rfl,rfl⟩
 go_wp2_with fail
 refine(C3.out _).mono ?_
 rintro e w1 ⟨rfl,hb1⟩
 obtain⟨k0,k1,k2,k3,k4,k5⟩:=box6b hb1
 go_wp2_with (go_at_call 37;refine(C5.out _ (step HB.out hb1)).mono ?_;rintro e w2 ⟨rfl,hb2⟩)
 go_ret
 exact⟨by simp,step (step HB.out hb1) hb2⟩
end Cm
end Go.Proofs.Ytheenjkmglmihaa

/- A row of bytes that grows beside others; contract: package batch's Put. -/
set_option linter.unusedVariables false
set_option maxRecDepth 8000
set_option linter.unusedSimpArgs false
namespace Go.Proofs.Ytheenjkmglmihaa
open Lib (hid)
open Go.RowKit
namespace Cm

theorem get_ltB {w:World} {a:Nat} {o:Obj} (h:w.heap[a]?=some o):a<w.heap.size:=(Array.getElem?_eq_some_iff.1 h).1
theorem cell_at {w:World} {g:Nat} {cs:Array Value} {t:TypeId} (h:w.heap[g]?=some (.cells cs t)) (k:Nat):w.cell? ⟨g,k,none⟩=cs[k]?:=by
 simp [World.cell?,h]
end Cm
end Go.Proofs.Ytheenjkmglmihaa

/- Contract: package batch's Get. -/
set_option linter.unusedVariables false
set_option maxRecDepth 8000
set_option linter.unusedSimpArgs false
namespace Go.Proofs.Ytheenjkmglmihaa
open Lib (hid)
open Go.RowKit
namespace Cm

theorem set_atB {w:World} {g:Nat} {cs:Array Value} {t:TypeId} (h:w.heap[g]?=some (.cells cs t)) (i:Nat) (u:Value):(w.setCell ⟨g,i,none⟩ u).heap[g]?=some (.cells (cs.setIfInBounds i u) t):=by
 have hl:=get_ltB h
 have h':w.heap[g]= .cells cs t:=by simpa [hl] using h
 simp [World.setCell,h',hl,Array.getElem_modify]
theorem frozen_at {w:World} {g:Nat} {cs:Array Value} {t:TypeId} (h:w.heap[g]?=some (.cells cs t)) (k:Nat):w.frozen? ⟨g,k,none⟩=false:=by
 simp [World.frozen?,h]
theorem alloc_atB (w:World) (o:Obj) (H:Nat) (hH:w.heap.size=H):(w.alloc o).heap[H]?=some o:=by
 subst hH
 show(w.heap.push o)[w.heap.size]?= _
 simp
end Cm
end Go.Proofs.Ytheenjkmglmihaa

/- Contracts of the statements' own helpers of layer 12: awake (and Walk of one batch), Great. -/
set_option linter.unusedVariables false
set_option maxRecDepth 8000
set_option linter.unusedSimpArgs false
namespace Go.Proofs.Ytheenjkmglmihaa
open Lib (hid)
open Go.RowKit
namespace Cm

theorem cells_later {w w':World} {g:Nat} {o:Obj} (h:w.heap[g]?=some o) (hb:Below w.heap.size w w'):w'.heap[g]?=some o:=(hb.block _ (get_ltB h)).trans h
def tipObj (a b:Int):Obj:=.cells #[.int .i64 a,.int .i64 b] 26
def HeapAt (w:World) (g:Nat) (o:Obj):Prop:=w.heap[g]?=some o
theorem HeapAt.later {w w':World} {g:Nat} {o:Obj} (h:HeapAt w g o) (hb:Below w.heap.size w w'):HeapAt w' g o:=cells_later h hb
theorem HeapAt.other {w:World} {g k i:Nat} {o:Obj} (h:HeapAt w g o) (hne:g≠k) (u:Value):HeapAt (w.setCell ⟨k,i,none⟩ u) g o:=by
 unfold HeapAt
 rw[Below.heap_setCell _ _ _ _ hne]
 exact h
def greatB (b:BatV):Bool:=decide (20<b.reqs.length) || b.reqs.any fun r=>decide (300<r.cmd.name.length)
theorem any_hit (p:ReqV->Bool) (l:List ReqV) (k:Nat) (h:k<l.length) (e:p l[k]=true):l.any p=true:=by
 rw[List.any_eq_true]
 exact⟨l[k],List.getElem_mem h,e⟩
theorem any_none (p:ReqV->Bool) (l:List ReqV) (h: ∀j (hj:j<l.length),p l[j]=false):l.any p=false:=by
 rw[List.any_eq_false]
 intro x hx
 obtain⟨j,hj,rfl⟩:=List.getElem_of_mem hx
 simpa using h j hj
set_option maxHeartbeats 2000000 in
theorem Great_any (b:BatV) (u:Value) (w:World) (h:RdR w u b.reqs):Calls Try.prog 20 #[batVal b u] w (SaysB (greatB b) w):=by
 obtain⟨fb,vb,tb,sb,mb,l⟩:=b
 unfold greatB batVal
 dsimp only at h ⊢
 have HB:=hid (newAlloc w (.cells #[.bool fb,.int .i64 vb,.int .i64 tb,.int .i64 sb,.int .i64 mb,u] 47))
 have HA0:=hid (fun a n cap (e:u= .slice a n cap) i hi=>rdr_at (a:=a) (n:=n) (cap:=cap) (by rw[<-e];exact h) i hi)
 obtain⟨a,cap,rfl⟩:=h.form
 have HA:=hid (HA0.out _ _ _ rfl)
 have HX:Hid (∀W,Below (w.alloc (.cells #[.bool fb,.int .i64 vb,.int .i64 tb,.int .i64 sb,.int .i64 mb,.slice a l.length cap] 47)).heap.size (w.alloc (.cells #[.bool fb,.int .i64 vb,.int .i64 tb,.int .i64 sb,.int .i64 mb,.slice a l.length cap] 47)) W->W.cell? ⟨w.heap.size,5,none⟩=some (.slice a l.length cap)):=hid fun W hb=>(box6b hb).2.2.2.2.2
 clear HA0
 by_cases c:20<l.length
 ·rw[decide_eq_true c]
  have d:decide (20<(l.length:Int))=true:=by simp;omega
  clear h HA
  generalize l.length=L at*
  go_enter Try.func20,Try.ntmps20
  go_wp2
  go_ret
  exact⟨by simp,HB.out⟩
 rw[decide_eq_false c,Bool.false_or]
 have d:decide (20<(l.length:Int))=false:=by simp;omega
 have HH:=hid (any_hit (fun r=>decide (300<r.cmd.name.length)) l)
 have HM:=hid (any_none (fun r=>decide (300<r.cmd.name.length)) l)
 clear h
 obtain⟨L,hL⟩: ∃L,l.length=L:=⟨_,rfl⟩
 have HL:=hid hL
 rw[hL] at c d HB HX ⊢
 clear hL
 go_enter Try.func20,Try.ntmps20
 go_wp2
 have hx5:=HX.out _ (Below.refl _ _)
 generalize w.alloc (.cells #[.bool fb,.int .i64 vb,.int .i64 tb,.int .i64 sb,.int .i64 mb,.slice a L cap] 47)=W at*
 clear HX
 go_loop [3] (fun i=> ∃j:Nat,j<=L/\i= .int .i64 j/\Hid (∀k (hk:k<j) (hl:k<l.length),decide (300<l[k].cmd.name.length)=false)) (fun i=>L - (intOf i).toNat)
 case atStart=>exact⟨0,by omega,rfl,hid (fun k hk=>absurd hk (Nat.not_lt_zero _))⟩
 case round=>
  obtain⟨j,hj,rfl,HJ⟩:=hrel
  by_cases hlt:j<L
  ·have hjl:j<l.length:=by rw[HL.out];exact hlt
   obtain⟨rb,ro,rfl,hc⟩:=HA.out j hjl
   obtain⟨q0,q1,q2,q3,q4⟩:=hc _ HB.out
   have hh:=HH.out j hjl
   have hN:decide (300<l[j].cmd.name.length)=false-> ∀k (hk:k<j+1) (hl:k<l.length),decide (300<l[k].cmd.name.length)=false:=fun q k hk hl=>by
    by_cases e:k=j
    ·subst e;exact q
    ·exact HJ.out k (by omega) hl
   clear HA HH HM hc
   generalize l[j]=x at q0 q1 q2 q3 q4 hh hN
   obtain⟨xc,xs,xk,xn,xm⟩:=x
   have hns:=bstr_size xm
   dsimp only at q0 q1 q2 q3 q4 hh hN
   by_cases hz:300<xm.length
   ·have HHH:=hid (hh (by simpa using hz))
    have d2:decide (300<((bstr xm).size :Int))=true:=by rw[hns];simp;omega
    clear hh hN hns
    go_wp2
    go_ret
    exact⟨by rw[HHH.out];rfl,HB.out⟩
   ·have HNN:=hid (hN (by simpa using hz))
    have d2:decide (300<((bstr xm).size :Int))=false:=by rw[hns];simp;omega
    clear hh hN hns
    go_wp2
    go_round
    case rel=>exact⟨j+1,by omega,by go_num,HNN⟩
    case measure=>simp [intOf];omega
  ·obtain rfl:j=L:=by omega
   have HMM:=hid (HM.out (fun k hk=>HJ.out k (by rw[<-HL.out];exact hk) hk))
   clear HA HH HM
   go_wp2
   go_ret
   exact⟨by rw[HMM.out];rfl,HB.out⟩
end Cm
end Go.Proofs.Ytheenjkmglmihaa

/- What package accept answers, as plain functions: votes that rise by slots, nine places. No program is named here. -/
set_option linter.unusedVariables false
set_option maxRecDepth 8000
set_option linter.unusedSimpArgs false
namespace Go.Proofs.Ytheenjkmglmihaa
open Lib (hid)
open Go.RowKit
namespace Ac
open Cm

structure VoteV where
 slot:Int
 ballot:Int
 bat:BatV
def zeroV:VoteV:=⟨0,0,zeroB⟩
end Ac
end Go.Proofs.Ytheenjkmglmihaa

/- Votes in memory. -/
set_option linter.unusedVariables false
set_option maxRecDepth 8000
set_option linter.unusedSimpArgs false
namespace Go.Proofs.Ytheenjkmglmihaa
open Lib (hid)
open Go.RowKit
namespace Ac
open Cm

structure VoteC where
 slot:Int
 ballot:Int
 bat:BatV
 ua:Option Addr
 uc:Nat
def VoteC.u (x:VoteC):Value:=.slice x.ua x.bat.reqs.length x.uc
def VoteC.val (x:VoteC):VoteV:=⟨x.slot,x.ballot,x.bat⟩
def valsV (L:List VoteC):List VoteV:=L.map VoteC.val
theorem valsV_length (L:List VoteC):(valsV L).length =L.length:=by simp [valsV]
theorem valsV_get (L:List VoteC) (i:Nat) (h:i<L.length) (h':i<(valsV L).length):(valsV L)[i]=L[i].val :=by simp [valsV]
theorem valsV_set (L:List VoteC) (k:Nat) (x:VoteC):valsV (L.set k x)=(valsV L).set k x.val:=by simp [valsV,List.map_set]
def zeroC:VoteC:=⟨0,0,zeroB,none,0⟩
def cellsV (x:VoteC):List Value:= [.int .i64 x.slot,.int .i64 x.ballot,.bool x.bat.fill,.int .i64 x.bat.view,.int .i64 x.bat.tv,.int .i64 x.bat.ts,.int .i64 x.bat.time,x.u]
theorem cellsV_length (x:VoteC):(cellsV x).length =8:=rfl
def voteVal (x:VoteC):Value:=.agg #[.int .i64 x.slot,.int .i64 x.ballot,.bool x.bat.fill,.int .i64 x.bat.view,.int .i64 x.bat.tv,.int .i64 x.bat.ts,.int .i64 x.bat.time,x.u]
structure RdV (w:World) (v:Value) (L:List VoteC):Prop where
 row:RdX 8 cellsV w v L
 reqs: ∀x∈L,RdR w x.u x.bat.reqs
theorem RdV.later {w w':World} {v:Value} {L:List VoteC} (h:RdV w v L) (hb:Below w.heap.size w w'):RdV w' v L:=⟨h.row.later hb,fun x hx=>(h.reqs x hx).later hb⟩
theorem RdV.nil (w:World):RdV w (.slice none 0 0) []:=⟨RdX.nil w,fun x hx=>by cases hx⟩
theorem RdV.form {w:World} {v:Value} {L:List VoteC} (h:RdV w v L): ∃a cap,v= .slice a L.length cap:=h.row.form
theorem RdV.len {w:World} {v:Value} {L:List VoteC} (h:RdV w v L):L.length<=9223372036854775807:=h.row.len
theorem rdv_at {w:World} {a:Option Addr} {n cap:Nat} {L:List VoteC} (h:RdX 8 cellsV w (.slice a n cap) L) (i:Nat) (hi:i<L.length):
  ∃b o,a=some ⟨b,o,none⟩/\ ∀w':World,Below w.heap.size w w'->w'.cell? ⟨b,o+i*8,none⟩=some (.int .i64 L[i].slot)/\w'.cell? ⟨b,o+i*8+1,none⟩=some (.int .i64 L[i].ballot)/\w'.cell? ⟨b,o+i*8+2,none⟩=some (.bool L[i].bat.fill)/\w'.cell? ⟨b,o+i*8+3,none⟩=some (.int .i64 L[i].bat.view)/\w'.cell? ⟨b,o+i*8+4,none⟩=some (.int .i64 L[i].bat.tv)/\w'.cell? ⟨b,o+i*8+5,none⟩=some (.int .i64 L[i].bat.ts)/\w'.cell? ⟨b,o+i*8+6,none⟩=some (.int .i64 L[i].bat.time)/\w'.cell? ⟨b,o+i*8+7,none⟩=some L[i].u :=by
 obtain⟨b,o,e,c⟩:=h.at i hi
 exact⟨b,o,e,fun w' hb=>⟨c w' hb 0 _ rfl,c w' hb 1 _ rfl,c w' hb 2 _ rfl,c w' hb 3 _ rfl,c w' hb 4 _ rfl,c w' hb 5 _ rfl,c w' hb 6 _ rfl,c w' hb 7 _ rfl⟩⟩
theorem run_zero {P:Program} {t:TypeId} {z:Value} (h:(P.info? t).map (fun i=>i.zero)=some (some z)) (w:World):(zeroValue t).run P w= .ok z w:=by
 cases q:P.info? t with
 | none=>rw[q] at h;cases h
 | some i=>
  rw[q] at h
  have hz:i.zero=some z:=by simpa using h
  simp [zeroValue,typeInfo,q,hz]
end Ac
end Go.Proofs.Ytheenjkmglmihaa

/- Rows that grow, what stays told by blocks; rows of unlike elements lie apart. No program is named here. -/
set_option linter.unusedVariables false
set_option maxRecDepth 8000
set_option linter.unusedSimpArgs false
namespace Go.Proofs.Ytheenjkmglmihaa
open Lib (hid)
open Go.RowKit
namespace Cm

section
variable {α : Type} {sz : Nat} {f : α → List Value}
theorem wpList_append_grD (hf: ∀x,(f x).length =sz) (hsz:0<sz) {P:Program} {ops:Array Oper} {rest:List Oper} {o:Oper} {a:Act} {Q:Exit->Act->World->Prop} {W:World} (hgd:o.guard=none) (s x:Operand) (t:TypeId)
  (ho:o.op= .call { callee:=.builtin .append,args:=#[s,x],argTypes:=#[t,t] })
  (e:TypeId) (i:TypeInfo) (z:Value) (bytes:Nat) (ht:P.underlying t=some (.slice e)) (hi:P.info? e=some i) (hz:i.zero=some z) (hsize:i.size=sz) (hby:i.bytes=bytes) (hzs:z.cells.size=sz)
  (cs:Array Value) (y:α) (hcs:cs.toList=f y) (h1: ∀u∈f y,u.oneCell'=true) (M:List α) (base:Nat) (m:Value) (hs:a.eval s=m) (hx:a.eval x= .slice (some ⟨W.heap.size,0,none⟩) 1 1)
  (hown:W.ownsRow base e sz m M.length (flatX f M)) (h63:M.length+1<=maxLen) (hlen:(M.length+1)*bytes<=140737488355328) (hbase:base<=W.heap.size)
  (h: ∀v' w',w'.ownsRow base e sz v' (M++ [y]).length (flatX f (M++ [y]))->(W.alloc (.cells cs e)).grownBy w' m.ownBlock->(v'.ownBlock=m.ownBlock\/v'.ownBlock=some (W.alloc (.cells cs e)).heap.size)->wpList P ops Q rest (a.put o.dst v') w'):
  wpList P ops Q (o::rest) a (W.alloc (.cells cs e)):=by
 have hz1:(W.alloc (.cells cs e)).heap.size =W.heap.size+1:=by simp
 refine wpList_append_own_at (W.alloc (.cells cs e)) hgd s x t ho base e i z sz bytes ht hi hz hsize hby hzs hsz m M.length (flatX f M) hs (Rw.own_alloc hown _) ⟨W.heap.size,0,none⟩ 1 1 (f y) hx (by rw[hf];omega) ?_ h1 h63 hlen (by rw[hz1];omega) ?_
 ·rw[<-hcs]
  exact World.news_of_block (w:=W.alloc (.cells cs e)) (B:=W.heap.size) (cs:=cs) (t:=e) (fr:=(0,0)) (by show(W.heap.push _)[W.heap.size]?= _;simp)
 ·intro v' w' ho' hg _ hat
  refine h v' w' ?_ hg hat
  rw[List.length_append,flatX_snoc]
  exact ho'
end

theorem own_typesD {w:World} {b1 b2 s1 s2 n1 n2:Nat} {e1 e2:TypeId} {u v:Value} {xs ys:List Value} (h:w.ownsRow b1 e1 s1 u n1 xs) (h2:w.ownsRow b2 e2 s2 v n2 ys) (hne:e1≠e2):Rw.Apart u v:=by
 intro g hu hv
 rcases h.2 with ⟨rfl,_⟩ | ⟨g1,cap,cur,rfl,_,q1,_⟩
 ·cases hu
 rcases h2.2 with ⟨rfl,_⟩ | ⟨g2,cap2,cur2,rfl,_,q2,_⟩
 ·cases hv
 have r1:g1=g:=by simpa [Value.ownBlock] using hu
 have r2:g2=g:=by simpa [Value.ownBlock] using hv
 subst r1
 subst r2
 rw[q1] at q2
 injection q2 with q2
 injection q2 with _ q2
 exact hne q2
end Cm
end Go.Proofs.Ytheenjkmglmihaa
