/- Texts laid together by program. -/
import Derived.Test.YtbpmfjjbfiiiaaaQS4
/- Contracts: package batch's May, and the document's. -/
set_option linter.unusedVariables false
set_option maxRecDepth 8000
set_option linter.unusedSimpArgs false
namespace Go.Proofs.Ytbpmfjjbfiiiaaa
open Lib (hid)
open Go.RowKit
namespace Cm

theorem sameRs_nil (l:List ReqV):sameRs l []=decide (l.length=0):=by
 cases l<;>simp [sameRs]
theorem may_fill (v t s m:Int) (l:List ReqV):mayB ⟨true,v,t,s,m,l⟩=sameB ⟨true,v,t,s,m,l⟩ fillB:=by
 unfold mayB sameB fillB
 simp [sameRs_nil]
set_option maxHeartbeats 2000000 in
theorem MayB_any (b:BatV) (u:Value) (w:World) (h:RdR w u b.reqs):Calls Try.prog 11 #[batVal b u] w (SaysB (mayB b) w):=by
 obtain⟨fb,vb,tb,sb,mb,lb⟩:=b
 have HB:=hid (newAlloc w (.cells #[.bool fb,.int .i64 vb,.int .i64 tb,.int .i64 sb,.int .i64 mb,u] 42))
 dsimp only at h
 cases fb
 case true=>
  have CS:=hid (SameB_any ⟨true,vb,tb,sb,mb,lb⟩ fillB u (.slice none 0 0) _ (h.later HB.out) (RdX.nil _))
  rw[may_fill]
  generalize sameB ⟨true,vb,tb,sb,mb,lb⟩ fillB=S at CS ⊢
  unfold batVal fillB at CS
  unfold batVal
  dsimp only at CS ⊢
  clear h
  go_enter Try.func11,Try.ntmps11
  go_wp2_with (go_at_call 32;refine CS.out.mono ?_;rintro e w1 ⟨rfl,hb1⟩)
  go_ret
  exact⟨rfl,step HB.out hb1⟩
 rw[show mayB ⟨false,vb,tb,sb,mb,lb⟩=(highF vb 0 && highF tb 0 && highF sb 0 && highF mb 0 && reqsF lb) from rfl]
 have C1:=hid (fun w=>isNumB_any vb w)
 have C2:=hid (fun w=>isNumB_any tb w)
 have C3:=hid (fun w=>isNumB_any sb w)
 have C4:=hid (fun w=>isNumB_any mb w)
 have C5:=hid (mayReqs_any u lb _ (h.later HB.out))
 obtain⟨ua,uc,rfl⟩:=h.form
 unfold batVal
 dsimp only
 clear h
 generalize lb.length=L at*
 generalize highF vb 0=H1 at C1 ⊢
 generalize highF tb 0=H2 at C2 ⊢
 generalize highF sb 0=H3 at C3 ⊢
 generalize highF mb 0=H4 at C4 ⊢
 generalize reqsF lb=H5 at C5 ⊢
 cases H1
 case false=>
  go_enter Try.func11,Try.ntmps11
  go_wp2_with fail
  refine(C1.out _).mono ?_
  rintro e w1 ⟨rfl,rfl⟩
  go_wp2
  go_ret
  exact⟨by simp,HB.out⟩
 cases H2
 case false=>
  go_enter Try.func11,Try.ntmps11
  go_wp2_with fail
  refine(C1.out _).mono ?_
  rintro e w1 ⟨rfl,rfl⟩
  go_wp2_with fail
  refine(C2.out _).mono ?_
  rintro e w1 ⟨rfl,rfl⟩
  go_wp2
  go_ret
  exact⟨by simp,HB.out⟩
 cases H3
 case false=>
  go_enter Try.func11,Try.ntmps11
  go_wp2_with fail
  refine(C1.out _).mono ?_
  rintro e w1 ⟨rfl,rfl⟩
  go_wp2_with fail
  refine(C2.out _).mono ?_
  rintro e w1 ⟨rfl,rfl⟩
  go_wp2_with fail
  refine(C3.out _).mono ?_
  rintro e w1 ⟨rfl,rfl⟩
  go_wp2
  go_ret
  exact⟨by simp,HB.out⟩
 cases H4
 case false=>
  go_enter Try.func11,Try.ntmps11
  go_wp2_with fail
  refine(C1.out _).mono ?_
  rintro e w1 ⟨rfl,rfl⟩
  go_wp2_with fail
  refine(C2.out _).mono ?_
  rintro e w1 ⟨rfl,rfl⟩
  go_wp2_with fail
  refine(C3.out _).mono ?_
  rintro e w1 ⟨rfl,rfl⟩
  go_wp2_with fail
  refine(C4.out _).mono ?_
  rintro e w1 ⟨rfl,rfl⟩
  go_wp2
  go_ret
  exact⟨by simp,HB.out⟩
 go_enter Try.func11,Try.ntmps11
 go_wp2_with fail
 refine(C1.out _).mono ?_
 rintro e w1 ⟨rfl,rfl⟩
 go_wp2_with fail
 refine(C2.out _).mono ?_
 rintro e w1 ⟨rfl,rfl⟩
 go_wp2_with fail
 refine(C3.out _).mono ?_
 rintro e w1 ⟨rfl,rfl⟩
 go_wp2_with fail
 refine(C4.out _).mono ?_
 rintro e w1 ⟨rfl,rfl⟩
 go_wp2_with (go_at_call 34;refine C5.out.mono ?_;rintro e w1 ⟨rfl,hb1⟩)
 go_ret
 exact⟨by simp,step HB.out hb1⟩
set_option maxHeartbeats 2000000 in
theorem RefMayB_any (b:BatV) (u:Value) (w:World) (h:RdR w u b.reqs):Calls Try.prog 56 #[batVal b u] w (SaysB (mayB b) w):=by
 obtain⟨fb,vb,tb,sb,mb,lb⟩:=b
 have HB:=hid (newAlloc w (.cells #[.bool fb,.int .i64 vb,.int .i64 tb,.int .i64 sb,.int .i64 mb,u] 42))
 dsimp only at h
 cases fb
 case true=>
  rw[show mayB ⟨true,vb,tb,sb,mb,lb⟩=(decide (vb=0) && (decide (tb=0) && decide (sb=0)) && decide (mb=0) && decide (lb.length=0)) from rfl]
  obtain⟨ua,uc,rfl⟩:=h.form
  unfold batVal
  dsimp only
  clear h
  generalize lb.length=L at*
  by_cases e:vb=0
  case neg=>
   have d0:(vb==0)=false:=by simpa using e
   have E:=hid e
   clear e
   go_enter Try.func56,Try.ntmps56
   go_wp2
   go_ret
   exact⟨by simp [E.out],HB.out⟩
  have d0:(vb==0)=true:=by simpa using e
  have e0:=hid e
  clear e
  by_cases e:tb=0
  case neg=>
   have d1:(tb==0)=false:=by simpa using e
   have E:=hid e
   clear e
   go_enter Try.func56,Try.ntmps56
   go_wp2
   go_ret
   exact⟨by simp [E.out],HB.out⟩
  have d1:(tb==0)=true:=by simpa using e
  have e1:=hid e
  clear e
  by_cases e:sb=0
  case neg=>
   have d2:(sb==0)=false:=by simpa using e
   have E:=hid e
   clear e
   go_enter Try.func56,Try.ntmps56
   go_wp2
   go_ret
   exact⟨by simp [E.out],HB.out⟩
  have d2:(sb==0)=true:=by simpa using e
  have e2:=hid e
  clear e
  by_cases e:mb=0
  case neg=>
   have d3:(mb==0)=false:=by simpa using e
   have E:=hid e
   clear e
   go_enter Try.func56,Try.ntmps56
   go_wp2
   go_ret
   exact⟨by simp [E.out],HB.out⟩
  have d3:(mb==0)=true:=by simpa using e
  have e3:=hid e
  clear e
  by_cases e:L=0
  case neg=>
   have d4:((L:Int)==0)=false:=by simpa using e
   have E:=hid e
   clear e
   go_enter Try.func56,Try.ntmps56
   go_wp2
   go_ret
   exact⟨by simp [E.out],HB.out⟩
  have d4:((L:Int)==0)=true:=by simpa using e
  have e4:=hid e
  clear e
  go_enter Try.func56,Try.ntmps56
  go_wp2
  go_ret
  exact⟨by simp [e0.out,e1.out,e2.out,e3.out,e4.out],HB.out⟩
 rw[show mayB ⟨false,vb,tb,sb,mb,lb⟩=(highF vb 0 && highF tb 0 && highF sb 0 && highF mb 0 && reqsF lb) from rfl]
 have C1:=hid (fun w=>high12_any vb 0 w)
 have C2:=hid (fun w=>high12_any mb 0 w)
 have C3:=hid (fun w=>MayTip_any tb sb w)
 have C5:=hid (fun W hb=>RefReqs_any u lb W (h.later hb))
 obtain⟨ua,uc,rfl⟩:=h.form
 unfold batVal
 unfold tipVal at C3
 dsimp only
 clear h
 have eo:(highF vb 0 && highF tb 0 && highF sb 0 && highF mb 0 && reqsF lb)=(highF vb 0 && (highF mb 0 && ((highF tb 0 && highF sb 0) && reqsF lb))):=by
  cases highF vb 0<;>cases highF tb 0<;>cases highF sb 0<;>cases highF mb 0<;>rfl
 rw[eo]
 clear eo
 generalize lb.length=L at*
 generalize highF vb 0=H1 at C1 ⊢
 generalize highF mb 0=H2 at C2 ⊢
 generalize (highF tb 0 && highF sb 0)=H3 at C3 ⊢
 generalize reqsF lb=H5 at C5 ⊢
 cases H1
 case false=>
  go_enter Try.func56,Try.ntmps56
  go_wp2_with fail
  refine(C1.out _).mono ?_
  rintro e w1 ⟨rfl,rfl⟩
  go_wp2
  go_ret
  exact⟨by simp,HB.out⟩
 cases H2
 case false=>
  go_enter Try.func56,Try.ntmps56
  go_wp2_with fail
  refine(C1.out _).mono ?_
  rintro e w1 ⟨rfl,rfl⟩
  go_wp2_with fail
  refine(C2.out _).mono ?_
  rintro e w1 ⟨rfl,rfl⟩
  go_wp2
  go_ret
  exact⟨by simp,HB.out⟩
 cases H3
 case false=>
  go_enter Try.func56,Try.ntmps56
  go_wp2_with fail
  refine(C1.out _).mono ?_
  rintro e w1 ⟨rfl,rfl⟩
  go_wp2_with fail
  refine(C2.out _).mono ?_
  rintro e w1 ⟨rfl,rfl⟩
  go_wp2_with fail
  refine(C3.out _).mono ?_
  rintro e w1 ⟨rfl,hb1⟩
  obtain⟨k0,k1,k2,k3,k4,k5⟩:=box6b hb1
  go_wp2
  go_ret
  exact⟨by simp,step HB.out hb1⟩
 go_enter Try.func56,Try.ntmps56
 go_wp2_with fail
 refine(C1.out _).mono ?_
 rintro e w1 ⟨rfl,rfl⟩
 go_wp2_with fail
 refine(C2.out _).mono ?_
 rintro e w1 ⟨rfl,rfl⟩
 go_wp2_with fail
 refine(C3.out _).mono ?_
 rintro e w1 ⟨rfl,hb1⟩
 obtain⟨k0,k1,k2,k3,k4,k5⟩:=box6b hb1
 go_wp2_with (go_at_call 68;refine(C5.out _ (step HB.out hb1)).mono ?_;rintro e w2 ⟨rfl,hb2⟩)
 go_ret
 exact⟨by simp,step (step HB.out hb1) hb2⟩
end Cm
end Go.Proofs.Ytbpmfjjbfiiiaaa

/- A row of bytes that grows beside others; contract: package batch's Put. -/
set_option linter.unusedVariables false
set_option maxRecDepth 8000
set_option linter.unusedSimpArgs false
namespace Go.Proofs.Ytbpmfjjbfiiiaaa
open Lib (hid)
open Go.RowKit
namespace Cm

theorem get_ltB {w:World} {a:Nat} {o:Obj} (h:w.heap[a]?=some o):a<w.heap.size:=(Array.getElem?_eq_some_iff.1 h).1
theorem cell_at {w:World} {g:Nat} {cs:Array Value} {t:TypeId} (h:w.heap[g]?=some (.cells cs t)) (k:Nat):w.cell? ⟨g,k,none⟩=cs[k]?:=by
 simp [World.cell?,h]
end Cm
end Go.Proofs.Ytbpmfjjbfiiiaaa

/- Contracts: package batch's getReqs; the document's nums. -/
set_option linter.unusedVariables false
set_option maxRecDepth 8000
set_option linter.unusedSimpArgs false
namespace Go.Proofs.Ytbpmfjjbfiiiaaa
open Lib (hid)
open Go.RowKit
namespace Cm

theorem infoReqB:(Try.prog.info? 71).map (fun i=>(i.zero,i.size,i.bytes))=some (some (.agg #[.int .i64 0,.int .i64 0,.int .i64 0,.int .i64 0,.string ⟨#[]⟩]),5,48):=by kernel_rfl
theorem info_partsB {e:TypeId} {z:Option Value} {s b:Nat} (h:(Try.prog.info? e).map (fun i=>(i.zero,i.size,i.bytes))=some (z,s,b)): ∃i,Try.prog.info? e=some i/\i.zero=z/\i.size=s/\i.bytes=b:=by
 match hi:Try.prog.info? e with
 | none=>rw[hi] at h;cases h
 | some i=>
  rw[hi] at h
  simp at h
  exact⟨i,rfl,h.1,h.2.1,h.2.2⟩
end Cm
end Go.Proofs.Ytbpmfjjbfiiiaaa

/- Contract: package batch's Get. -/
set_option linter.unusedVariables false
set_option maxRecDepth 8000
set_option linter.unusedSimpArgs false
namespace Go.Proofs.Ytbpmfjjbfiiiaaa
open Lib (hid)
open Go.RowKit
namespace Cm

def batZero:Obj:=.cells #[.bool false,.int .i64 0,.int .i64 0,.int .i64 0,.int .i64 0,.slice none 0 0] 42
def batBox (G:List Int) (v:Value):Obj:=.cells #[.bool false,.int .i64 (G.getD 0 0),.int .i64 (G.getD 1 0),.int .i64 (G.getD 2 0),.int .i64 (G.getD 3 0),v] 42
theorem set_atB {w:World} {g:Nat} {cs:Array Value} {t:TypeId} (h:w.heap[g]?=some (.cells cs t)) (i:Nat) (u:Value):(w.setCell ⟨g,i,none⟩ u).heap[g]?=some (.cells (cs.setIfInBounds i u) t):=by
 have hl:=get_ltB h
 have h':w.heap[g]= .cells cs t:=by simpa [hl] using h
 simp [World.setCell,h',hl,Array.getElem_modify]
theorem frozen_at {w:World} {g:Nat} {cs:Array Value} {t:TypeId} (h:w.heap[g]?=some (.cells cs t)) (k:Nat):w.frozen? ⟨g,k,none⟩=false:=by
 simp [World.frozen?,h]
structure GB (w:World) (A:Nat) (o:Obj) (wr:World):Prop where
 below:Below w.heap.size w wr
 zero:wr.heap[w.heap.size]?=some batZero
 box:wr.heap[A]?=some o
 lt:w.heap.size<A
theorem GB.later {w:World} {A:Nat} {o:Obj} {wr wx:World} (h:GB w A o wr) (hb:Below wr.heap.size wr wx):GB w A o wx:=
 ⟨h.below.trans (hb.mono h.below.size),(hb.block _ (get_ltB h.zero)).trans h.zero,(hb.block _ (get_ltB h.box)).trans h.box,h.lt⟩
theorem GB.zc {w:World} {A:Nat} {o:Obj} {wr:World} (h:GB w A o wr):
  (wr.cell? ⟨w.heap.size,0,none⟩=some (.bool false)/\wr.cell? ⟨w.heap.size,1,none⟩=some (.int .i64 0)/\wr.cell? ⟨w.heap.size,2,none⟩=some (.int .i64 0)/\wr.cell? ⟨w.heap.size,3,none⟩=some (.int .i64 0)/\wr.cell? ⟨w.heap.size,4,none⟩=some (.int .i64 0)/\wr.cell? ⟨w.heap.size,5,none⟩=some (.slice none 0 0))/\ ∀k,wr.frozen? ⟨w.heap.size,k,none⟩=false:=by
 have hz:=h.zero
 unfold batZero at hz
 exact⟨⟨cell_at hz 0,cell_at hz 1,cell_at hz 2,cell_at hz 3,cell_at hz 4,cell_at hz 5⟩,frozen_at hz⟩
theorem GB.bc {w:World} {A:Nat} {G:List Int} {v:Value} {wr:World} (h:GB w A (batBox G v) wr):
  (wr.cell? ⟨A,0,none⟩=some (.bool false)/\wr.cell? ⟨A,1,none⟩=some (.int .i64 (G.getD 0 0))/\wr.cell? ⟨A,2,none⟩=some (.int .i64 (G.getD 1 0))/\wr.cell? ⟨A,3,none⟩=some (.int .i64 (G.getD 2 0))/\wr.cell? ⟨A,4,none⟩=some (.int .i64 (G.getD 3 0))/\wr.cell? ⟨A,5,none⟩=some v)/\ ∀k,wr.frozen? ⟨A,k,none⟩=false:=by
 have hz:=h.box
 unfold batBox at hz
 exact⟨⟨cell_at hz 0,cell_at hz 1,cell_at hz 2,cell_at hz 3,cell_at hz 4,cell_at hz 5⟩,frozen_at hz⟩
theorem GB.bc4 {w:World} {A:Nat} {a b c d:Int} {v:Value} {wr:World} (h:GB w A (batBox [a,b,c,d] v) wr):
  (wr.cell? ⟨A,0,none⟩=some (.bool false)/\wr.cell? ⟨A,1,none⟩=some (.int .i64 a)/\wr.cell? ⟨A,2,none⟩=some (.int .i64 b)/\wr.cell? ⟨A,3,none⟩=some (.int .i64 c)/\wr.cell? ⟨A,4,none⟩=some (.int .i64 d)/\wr.cell? ⟨A,5,none⟩=some v)/\ ∀k,wr.frozen? ⟨A,k,none⟩=false:=h.bc
theorem GB.list {w:World} {A:Nat} {G:List Int} {v:Value} {wr:World} (h:GB w A (batBox G v) wr) (u:Value):GB w A (batBox G u) (wr.setCell ⟨A,5,none⟩ u):=by
 refine⟨h.below.setCell (by have:=h.lt;show w.heap.size<=A;omega) _,?_,?_,h.lt⟩
 ·rw[Below.heap_setCell _ _ _ _ (by have:=h.lt;show w.heap.size≠A;omega)]
  exact h.zero
 ·have hb:=h.box
  unfold batBox at hb
  rw[set_atB hb]
  rfl
theorem set6z {w w1:World} (h:Below w.heap.size w w1) (x0 x1 x2 x3 x4 x5:Value):Below w.heap.size w ((((((w1.setCell ⟨w.heap.size,0,none⟩ x0).setCell ⟨w.heap.size,1,none⟩ x1).setCell ⟨w.heap.size,2,none⟩ x2).setCell ⟨w.heap.size,3,none⟩ x3).setCell ⟨w.heap.size,4,none⟩ x4).setCell ⟨w.heap.size,5,none⟩ x5):=
 (((((h.setCell (Nat.le_refl _) _).setCell (Nat.le_refl _) _).setCell (Nat.le_refl _) _).setCell (Nat.le_refl _) _).setCell (Nat.le_refl _) _).setCell (Nat.le_refl _) _
theorem alloc_atB (w:World) (o:Obj) (H:Nat) (hH:w.heap.size=H):(w.alloc o).heap[H]?=some o:=by
 subst hH
 show(w.heap.push o)[w.heap.size]?= _
 simp
theorem own_box {w':World} {base A n:Nat} {e:TypeId} {v:Value} {xs:List Value} (h:w'.ownsRow base e 5 v n xs) (hA:A<base) (u:Value):(w'.setCell ⟨A,5,none⟩ u).ownsRow base e 5 v n xs:=
 Rw.own_keep h fun g hg=>Below.heap_setCell _ _ _ _ (by have:=(Rw.own_lt h g hg).1;show g≠A;omega)
end Cm
end Go.Proofs.Ytbpmfjjbfiiiaaa

/- Contracts: the document's nums, Get of a batch. -/
set_option linter.unusedVariables false
set_option maxRecDepth 8000
set_option linter.unusedSimpArgs false
namespace Go.Proofs.Ytbpmfjjbfiiiaaa
open Lib (hid)
open Go.RowKit
namespace Cm

theorem GB.below1 {w:World} {A:Nat} {o:Obj} {wr wx:World} (h:GB w A o wr) (hb:Below (A+1) wr wx):GB w A o wx:=by
 have hl:=h.lt
 exact⟨h.below.trans (hb.mono (by omega)),(hb.block _ (by omega)).trans h.zero,(hb.block _ (by omega)).trans h.box,hl⟩
theorem GB.new {w W:World} (h:Below w.heap.size w W) (hz:W.heap[w.heap.size]?=some batZero) (o:Obj):GB w W.heap.size o (W.alloc o):=
 ⟨stepAlloc h _,((newAlloc W _).block _ (get_ltB hz)).trans hz,alloc_atB _ _ _ rfl,get_ltB hz⟩
theorem GB.put6 {w:World} {A:Nat} {x0 x1 x2 x3 x4 x5:Value} {wr:World} (h:GB w A (.cells #[x0,x1,x2,x3,x4,x5] 42) wr) (y0 y1 y2 y3 y4 y5:Value):
  GB w A (.cells #[y0,y1,y2,y3,y4,y5] 42) ((((((wr.setCell ⟨A,0,none⟩ y0).setCell ⟨A,1,none⟩ y1).setCell ⟨A,2,none⟩ y2).setCell ⟨A,3,none⟩ y3).setCell ⟨A,4,none⟩ y4).setCell ⟨A,5,none⟩ y5):=by
 have hl:=h.lt
 have hA:w.heap.size<=A:=by omega
 have hne:w.heap.size≠A:=by omega
 have key: ∀(W:World) (i:Nat) (u:Value),(W.setCell ⟨A,i,none⟩ u).heap[w.heap.size]?=W.heap[w.heap.size]?:=fun W i u=>Below.heap_setCell _ _ _ _ hne
 refine⟨((((((h.below.setCell hA _).setCell hA _).setCell hA _).setCell hA _).setCell hA _).setCell hA _),?_,?_,hl⟩
 ·rw[key,key,key,key,key,key]
  exact h.zero
 ·exact set_atB (set_atB (set_atB (set_atB (set_atB (set_atB h.box 0 y0) 1 y1) 2 y2) 3 y3) 4 y4) 5 y5
end Cm
end Go.Proofs.Ytbpmfjjbfiiiaaa

/- Contracts of the statements' own helpers of layer 12: awake (and Walk of one batch), Great. -/
set_option linter.unusedVariables false
set_option maxRecDepth 8000
set_option linter.unusedSimpArgs false
namespace Go.Proofs.Ytbpmfjjbfiiiaaa
open Lib (hid)
open Go.RowKit
namespace Cm

theorem cells_later {w w':World} {g:Nat} {o:Obj} (h:w.heap[g]?=some o) (hb:Below w.heap.size w w'):w'.heap[g]?=some o:=(hb.block _ (get_ltB h)).trans h
def tipObj (a b:Int):Obj:=.cells #[.int .i64 a,.int .i64 b] 28
def HeapAt (w:World) (g:Nat) (o:Obj):Prop:=w.heap[g]?=some o
theorem HeapAt.later {w w':World} {g:Nat} {o:Obj} (h:HeapAt w g o) (hb:Below w.heap.size w w'):HeapAt w' g o:=cells_later h hb
theorem HeapAt.other {w:World} {g k i:Nat} {o:Obj} (h:HeapAt w g o) (hne:g≠k) (u:Value):HeapAt (w.setCell ⟨k,i,none⟩ u) g o:=by
 unfold HeapAt
 rw[Below.heap_setCell _ _ _ _ hne]
 exact h
end Cm
end Go.Proofs.Ytbpmfjjbfiiiaaa

/- Contract of the statements' Batch of layer 12. -/
set_option linter.unusedVariables false
set_option maxRecDepth 8000
set_option linter.unusedSimpArgs false
namespace Go.Proofs.Ytbpmfjjbfiiiaaa
open Lib (hid)
open Go.RowKit
namespace Cm

theorem okR_push {l:List ReqV} {r:ReqV} : ∀p,okR p l=true->mayR r=true->hasC (p++l) r.client=false->okR p (l++ [r])=true:=by
 induction l with
 | nil=>intro p h hm hc;rw[List.append_nil] at hc;simp [okR,hm,hc]
 | cons x l ih=>
  intro p h hm hc
  rw[okR] at h
  simp only[Bool.and_eq_true] at h
  rw[List.cons_append,okR,h.1.1,h.1.2,ih (p++ [x]) h.2 hm (by rw[List.append_assoc];exact hc)]
  rfl
def bAtB (A:List UInt8) (i:Nat):Nat:=(A.getD i 0).toNat
theorem bAtB_lt (A:List UInt8) (i:Nat):bAtB A i<256:=UInt8.toNat_lt _
theorem byte_at {w:World} {a:Option Addr} {len cap:Nat} {A:List UInt8} (h:Rd w (.slice a len cap) A) (h0:0<len):
  ∃b o,a=some ⟨b,o,none⟩/\ ∀w':World,Below w.heap.size w w'-> ∀i,i<len->w'.cell? ⟨b,o+i,none⟩=some (.int .u8 (bAtB A i:Int)):=by
 obtain⟨a',len',cap',hv,hl,hc,hm,hn,hx⟩:=h.ex
 cases hv
 match a,hn,hx with
 | none,hn,_=>have:=(hn rfl).1;omega
 | some x,_,hx=>
  obtain⟨b,o,sp⟩:=x
  obtain⟨hs,hi⟩:=hx _ rfl h0
  simp only at hs hi
  subst hs
  refine⟨b,o,rfl,fun w' hb i hil=>?_⟩
  rw[hb.cell (p:=⟨b,o+i,none⟩) (lt_of_cell (hi i hil))]
  exact hi i hil
theorem mayB_mk {a b c d:Int} {l:List ReqV} (ha:0<=a/\a<=2305843009213693952) (hb:0<=b/\b<=2305843009213693952) (hc:0<=c/\c<=2305843009213693952) (hd:0<=d/\d<=2305843009213693952) (hl:l.length<=3) (hok:okR [] l=true):mayB ⟨false,a,b,c,d,l⟩=true:=by
 rw[show mayB ⟨false,a,b,c,d,l⟩=(highF a 0 && highF b 0 && highF c 0 && highF d 0 && reqsF l) from rfl]
 simp [highF,reqsF,hok]
 omega
end Cm
end Go.Proofs.Ytbpmfjjbfiiiaaa
