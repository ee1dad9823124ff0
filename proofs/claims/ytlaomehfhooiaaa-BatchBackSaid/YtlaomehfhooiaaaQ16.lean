/- Texts laid together by program. -/
import Derived.Test.YtlaomehfhooiaaaQ15
/- Contracts of the statements' own helpers of layer 12: awake (and Walk of one batch), Great. -/
set_option linter.unusedVariables false
set_option maxRecDepth 8000
set_option linter.unusedSimpArgs false
namespace Go.Proofs.Ytlaomehfhooiaaa
open Lib (hid)
open Go.RowKit
namespace Cm

theorem cells_later {w w':World} {g:Nat} {o:Obj} (h:w.heap[g]?=some o) (hb:Below w.heap.size w w'):w'.heap[g]?=some o:=(hb.block _ (get_ltB h)).trans h
def tipA (j:Nat):Int:=if j=0 then 0 else 1
def tipB (j:Nat):Int:=if j=0 then 0 else 3
def timeA (j:Nat):Int:=if j=0 then 5 else 9
def tipObj (a b:Int):Obj:=.cells #[.int .i64 a,.int .i64 b] 23
def HeapAt (w:World) (g:Nat) (o:Obj):Prop:=w.heap[g]?=some o
theorem HeapAt.later {w w':World} {g:Nat} {o:Obj} (h:HeapAt w g o) (hb:Below w.heap.size w w'):HeapAt w' g o:=cells_later h hb
theorem HeapAt.other {w:World} {g k i:Nat} {o:Obj} (h:HeapAt w g o) (hne:g≠k) (u:Value):HeapAt (w.setCell ⟨k,i,none⟩ u) g o:=by
 unfold HeapAt
 rw[Below.heap_setCell _ _ _ _ hne]
 exact h
set_option maxHeartbeats 2000000 in
theorem Walk_one (w:World) (g:Nat) (hg:HeapAt w g (.cells #[.bool false,.int .i64 1,.int .i64 0,.int .i64 0,.int .i64 9,.slice none 0 0] 26)):
  Calls Try.prog 20 #[.agg #[.int .i64 0,.int .i64 0],.int .i64 5,.int .i64 3,.slice (some ⟨g,0,none⟩) 1 1] w (fun e w'=>e= .returned (.tuple #[.agg #[.int .i64 1,.int .i64 3],.int .i64 9])/\Below w.heap.size w w'):=by
 have CN: ∀w,Calls Try.prog 31 #[.int .i64 3] w (Says true w):=fun w=>isNumB_any 3 w
 have CV: ∀w,Calls Try.prog 16 #[.agg #[.int .i64 0,.int .i64 0],.agg #[.bool false,.int .i64 1,.int .i64 0,.int .i64 0,.int .i64 9,.slice none 0 0]] w (SaysB true w):=fun w=>ValidB_any ⟨false,1,0,0,9,[]⟩ _ 0 0 w
 have HN:=hid CN
 have HV:=hid CV
 have HG:=hid hg
 clear CN CV hg
 have h0:HeapAt ((w.alloc (tipObj 0 0)).alloc (tipObj 0 0)) w.heap.size (tipObj 0 0):=HeapAt.later (alloc_atB _ _ _ rfl) (newAlloc _ _)
 have h1:HeapAt ((w.alloc (tipObj 0 0)).alloc (tipObj 0 0)) (w.heap.size+1) (tipObj 0 0):=alloc_atB _ _ _ (by simp)
 have H0:=hid h0
 have H1:=hid h1
 have HB0:=hid (stepAlloc (newAlloc w (tipObj 0 0)) (tipObj 0 0))
 clear h0 h1
 go_enter Try.func20,Try.ntmps20
 go_wp2_with (go_at_call 31;refine(HN.out _).mono ?_;rintro e w1 ⟨rfl,rfl⟩)
 unfold tipObj at H0 H1 HB0
 generalize hW:(w.alloc (.cells #[.int .i64 0,.int .i64 0] 23)).alloc (.cells #[.int .i64 0,.int .i64 0] 23)=W at H0 H1 HB0 ⊢
 clear hW
 have HGW:=hid (HG.out.later HB0.out)
 go_wp2_with fail
 go_loopw [1,10,11,17] (fun x _ _ i wr=> ∃j:Nat,j<=1/\i= .int .i64 (j:Int)/\x= .int .i64 (timeA j)/\Hid (Below w.heap.size w wr)/\Hid (HeapAt wr w.heap.size (tipObj (tipA j) (tipB j)))/\Hid (HeapAt wr (w.heap.size+1) (tipObj 0 0))) (fun _ _ _ i _=>1 - (intOf i).toNat)
 case atStart=>exact⟨0,by omega,rfl,rfl,HB0,H0,H1⟩
 case round=>
  obtain⟨j,hj,rfl,rfl,HB,HT,HZ⟩:=hrel
  by_cases hlt:j<1
  ·obtain rfl:j=0:=by omega
   have hgw:HeapAt wr g (.cells #[.bool false,.int .i64 1,.int .i64 0,.int .i64 0,.int .i64 9,.slice none 0 0] 26):=HG.out.later HB.out
   have q0:=cell_at hgw 0
   have q1:=cell_at hgw 1
   have q2:=cell_at hgw 2
   have q3:=cell_at hgw 3
   have q4:=cell_at hgw 4
   have q5:=cell_at hgw 5
   simp at q0 q1 q2 q3 q4 q5
   have ht: ∀wx,Below wr.heap.size wr wx->(wx.cell? ⟨w.heap.size,0,none⟩=some (.int .i64 0)/\wx.cell? ⟨w.heap.size,1,none⟩=some (.int .i64 0))/\ ∀k,wx.frozen? ⟨w.heap.size,k,none⟩=false:=fun wx hb=>by
    have hh:=HT.out.later hb
    exact⟨⟨cell_at hh 0,cell_at hh 1⟩,frozen_at hh⟩
   have HTT:=hid ht
   obtain⟨⟨t0,t1⟩,tf⟩:=HTT.out _ (newAlloc wr (.cells #[.bool false,.int .i64 1,.int .i64 0,.int .i64 0,.int .i64 9,.slice none 0 0] 26))
   clear ht hgw
   unfold timeA
   go_wp2_with (go_at_call 16;refine(HV.out _).mono ?_;rintro e w2 ⟨rfl,hb2⟩;have HB2:=hid (step (newAlloc wr (.cells #[.bool false,.int .i64 1,.int .i64 0,.int .i64 0,.int .i64 9,.slice none 0 0] 26)) hb2);obtain⟨k0,k1,k2,k3,k4,k5⟩:=box6b hb2;obtain⟨⟨s0,s1⟩,sf⟩:=HTT.out _ HB2.out)
   go_roundw
   case rel=>
    have hlt0:w.heap.size<w2.heap.size:=Nat.lt_of_lt_of_le (get_ltB HT.out) HB2.out.size
    refine⟨1,by omega,rfl,rfl,hid (((step HB.out HB2.out).setCell (Nat.le_refl _) _).setCell (Nat.le_refl _) _),hid ?_,hid (((HZ.out.later HB2.out).other (by omega) _).other (by omega) _)⟩
    exact set_atB (set_atB (HT.out.later HB2.out) 0 (.int .i64 1)) 1 (.int .i64 3)
   case measure=>simp [intOf]
  ·obtain rfl:j=1:=by omega
   have hh:=HT.out
   have t0:=cell_at hh 0
   have t1:=cell_at hh 1
   have tf:=frozen_at hh
   have hz:=HZ.out
   have z0:=cell_at hz 0
   have z1:=cell_at hz 1
   have zf:=frozen_at hz
   simp [tipA,tipB] at t0 t1 z0 z1
   clear hh hz
   go_wp2
   refine bodyPost_ret (by simp [results,Try.results20,go_sem,z0,z1]<;>rfl) rfl ⟨rfl,(HB.out.setCell (by show w.heap.size<=w.heap.size+1;omega) _).setCell (by show w.heap.size<=w.heap.size+1;omega) _⟩
def greatB (b:BatV):Bool:=decide (20<b.reqs.length) || b.reqs.any fun r=>decide (300<r.cmd.name.length)
theorem any_hit (p:ReqV->Bool) (l:List ReqV) (k:Nat) (h:k<l.length) (e:p l[k]=true):l.any p=true:=by
 rw[List.any_eq_true]
 exact⟨l[k],List.getElem_mem h,e⟩
theorem any_none (p:ReqV->Bool) (l:List ReqV) (h: ∀j (hj:j<l.length),p l[j]=false):l.any p=false:=by
 rw[List.any_eq_false]
 intro x hx
 obtain⟨j,hj,rfl⟩:=List.getElem_of_mem hx
 simpa using h j hj
set_option maxHeartbeats 2000000 in
theorem Great_any (b:BatV) (u:Value) (w:World) (h:RdR w u b.reqs):Calls Try.prog 6 #[batVal b u] w (SaysB (greatB b) w):=by
 obtain⟨fb,vb,tb,sb,mb,l⟩:=b
 unfold greatB batVal
 dsimp only at h ⊢
 have HB:=hid (newAlloc w (.cells #[.bool fb,.int .i64 vb,.int .i64 tb,.int .i64 sb,.int .i64 mb,u] 26))
 have HA0:=hid (fun a n cap (e:u= .slice a n cap) i hi=>rdr_at (a:=a) (n:=n) (cap:=cap) (by rw[<-e];exact h) i hi)
 obtain⟨a,cap,rfl⟩:=h.form
 have HA:=hid (HA0.out _ _ _ rfl)
 have HX:Hid (∀W,Below (w.alloc (.cells #[.bool fb,.int .i64 vb,.int .i64 tb,.int .i64 sb,.int .i64 mb,.slice a l.length cap] 26)).heap.size (w.alloc (.cells #[.bool fb,.int .i64 vb,.int .i64 tb,.int .i64 sb,.int .i64 mb,.slice a l.length cap] 26)) W->W.cell? ⟨w.heap.size,5,none⟩=some (.slice a l.length cap)):=hid fun W hb=>(box6b hb).2.2.2.2.2
 clear HA0
 by_cases c:20<l.length
 ·rw[decide_eq_true c]
  have d:decide (20<(l.length:Int))=true:=by simp;omega
  clear h HA
  generalize l.length=L at*
  go_enter Try.func6,Try.ntmps6
  go_wp2
  go_ret
  exact⟨by simp,HB.out⟩
 rw[decide_eq_false c,Bool.false_or]
 have d:decide (20<(l.length:Int))=false:=by simp;omega
 have HH:=hid (any_hit (fun r=>decide (300<r.cmd.name.length)) l)
 have HM:=hid (any_none (fun r=>decide (300<r.cmd.name.length)) l)
 clear h
 obtain⟨L,hL⟩: ∃L,l.length=L:=⟨_,rfl⟩
 have HL:=hid hL
 rw[hL] at c d HB HX ⊢
 clear hL
 go_enter Try.func6,Try.ntmps6
 go_wp2
 have hx5:=HX.out _ (Below.refl _ _)
 generalize w.alloc (.cells #[.bool fb,.int .i64 vb,.int .i64 tb,.int .i64 sb,.int .i64 mb,.slice a L cap] 26)=W at*
 clear HX
 go_loop [3] (fun i=> ∃j:Nat,j<=L/\i= .int .i64 j/\Hid (∀k (hk:k<j) (hl:k<l.length),decide (300<l[k].cmd.name.length)=false)) (fun i=>L - (intOf i).toNat)
 case atStart=>exact⟨0,by omega,rfl,hid (fun k hk=>absurd hk (Nat.not_lt_zero _))⟩
 case round=>
  obtain⟨j,hj,rfl,HJ⟩:=hrel
  by_cases hlt:j<L
  ·have hjl:j<l.length:=by rw[HL.out];exact hlt
   obtain⟨rb,ro,rfl,hc⟩:=HA.out j hjl
   obtain⟨q0,q1,q2,q3,q4⟩:=hc _ HB.out
   have hh:=HH.out j hjl
   have hN:decide (300<l[j].cmd.name.length)=false-> ∀k (hk:k<j+1) (hl:k<l.length),decide (300<l[k].cmd.name.length)=false:=fun q k hk hl=>by
    by_cases e:k=j
    ·subst e;exact q
    ·exact HJ.out k (by omega) hl
   clear HA HH HM hc
   generalize l[j]=x at q0 q1 q2 q3 q4 hh hN
   obtain⟨xc,xs,xk,xn,xm⟩:=x
   have hns:=bstr_size xm
   dsimp only at q0 q1 q2 q3 q4 hh hN
   by_cases hz:300<xm.length
   ·have HHH:=hid (hh (by simpa using hz))
    have d2:decide (300<((bstr xm).size :Int))=true:=by rw[hns];simp;omega
    clear hh hN hns
    go_wp2
    go_ret
    exact⟨by rw[HHH.out];rfl,HB.out⟩
   ·have HNN:=hid (hN (by simpa using hz))
    have d2:decide (300<((bstr xm).size :Int))=false:=by rw[hns];simp;omega
    clear hh hN hns
    go_wp2
    go_round
    case rel=>exact⟨j+1,by omega,by go_num,HNN⟩
    case measure=>simp [intOf];omega
  ·obtain rfl:j=L:=by omega
   have HMM:=hid (HM.out (fun k hk=>HJ.out k (by rw[<-HL.out];exact hk) hk))
   clear HA HH HM
   go_wp2
   go_ret
   exact⟨by rw[HMM.out];rfl,HB.out⟩
end Cm
end Go.Proofs.Ytlaomehfhooiaaa

/- Contracts of the statements' own helpers of layer 12: awake, Batch. -/
set_option linter.unusedVariables false
set_option maxRecDepth 8000
set_option linter.unusedSimpArgs false
namespace Go.Proofs.Ytlaomehfhooiaaa
open Lib (hid)
open Go.RowKit
namespace Cm

set_option maxHeartbeats 400000 in
theorem awake12_ok (w:World):Calls Try.prog 7 #[] w (SaysB true w):=by
 have CP:=hid (fun w=>(PutB_any fillB (.slice none 0 0) w (RdX.nil _)).mono fun e w' q=>Made.s (r:=([1],0)) q)
 have CM:=hid (fun w=>MayB_any ⟨false,1,0,0,9,[]⟩ (.slice none 0 0) w (RdX.nil _))
 have CV:=hid (fun w=>ValidB_any ⟨false,1,0,0,9,[]⟩ (.slice none 0 0) 0 0 w)
 have CS:=hid (fun w=>SameB_any ⟨false,1,0,0,9,[]⟩ ⟨false,1,0,0,9,[]⟩ (.slice none 0 0) (.slice none 0 0) w (RdX.nil _) (RdX.nil _))
 have CW:=hid Walk_one
 rw[show mayB ⟨false,1,0,0,9,[]⟩=true by decide+kernel] at CM
 rw[show validF 0 0 ⟨false,1,0,0,9,[]⟩=true by decide+kernel] at CV
 rw[show sameB ⟨false,1,0,0,9,[]⟩ ⟨false,1,0,0,9,[]⟩=true by decide+kernel] at CS
 unfold batVal at CP CM CV CS
 unfold tipVal at CV
 unfold fillB at CP
 dsimp only at CP CM CV CS
 have h0: ∀W,Below (w.alloc (.cells #[.bool false,.int .i64 1,.int .i64 0,.int .i64 0,.int .i64 9,.slice none 0 0] 26)).heap.size (w.alloc (.cells #[.bool false,.int .i64 1,.int .i64 0,.int .i64 0,.int .i64 9,.slice none 0 0] 26)) W->W.cell? ⟨w.heap.size,0,none⟩=some (.bool false)/\W.cell? ⟨w.heap.size,1,none⟩=some (.int .i64 1)/\W.cell? ⟨w.heap.size,2,none⟩=some (.int .i64 0)/\W.cell? ⟨w.heap.size,3,none⟩=some (.int .i64 0)/\W.cell? ⟨w.heap.size,4,none⟩=some (.int .i64 9)/\W.cell? ⟨w.heap.size,5,none⟩=some (.slice none 0 0):=fun W hb=>box6b hb
 have H0:=hid h0
 have HB0:=hid (newAlloc w (.cells #[.bool false,.int .i64 1,.int .i64 0,.int .i64 0,.int .i64 9,.slice none 0 0] 26))
 clear h0
 go_enter Try.func7,Try.ntmps7
 go_wp2_with fail
 refine(CW.out _ (w.heap.size+1) (alloc_atB _ _ _ (by simp))).mono ?_
 rintro e w2 ⟨rfl,hb2⟩
 have HB2:=hid (stepAlloc (step (stepAlloc HB0.out (.cells #[.bool false,.int .i64 1,.int .i64 0,.int .i64 0,.int .i64 9,.slice none 0 0] 26)) hb2) (tipObj 1 3))
 have hx2:=step (newAlloc _ (.cells #[.bool false,.int .i64 1,.int .i64 0,.int .i64 0,.int .i64 9,.slice none 0 0] 26)) (stepAlloc hb2 (tipObj 1 3))
 have HK2:Hid (∀W,Below (w2.alloc (tipObj 1 3)).heap.size (w2.alloc (tipObj 1 3)) W->(W.cell? ⟨w.heap.size,0,none⟩=some (.bool false)/\W.cell? ⟨w.heap.size,1,none⟩=some (.int .i64 1)/\W.cell? ⟨w.heap.size,2,none⟩=some (.int .i64 0)/\W.cell? ⟨w.heap.size,3,none⟩=some (.int .i64 0)/\W.cell? ⟨w.heap.size,4,none⟩=some (.int .i64 9)/\W.cell? ⟨w.heap.size,5,none⟩=some (.slice none 0 0))/\W.cell? ⟨w2.heap.size,0,none⟩=some (.int .i64 1)/\W.cell? ⟨w2.heap.size,1,none⟩=some (.int .i64 3)):=hid fun W hb=>by
  have ht:HeapAt W w2.heap.size (tipObj 1 3):=HeapAt.later (alloc_atB w2 _ _ rfl) hb
  exact⟨H0.out _ (step hx2 hb),cell_at ht 0,cell_at ht 1⟩
 clear hx2 hb2 H0 HB0 CW
 unfold tipObj at HK2 HB2
 have HC:Hid (∀v w,Rd w v [1]->(convert 27 9 v).run Try.prog w= .ok (.string ⟨#[1]⟩) w):=hid fun v w h=>conv_rd w Try.underlying27 Try.underlying5 Try.underlying9 v _ h
 go_wp2_with (first
  | (go_at_call 8;refine(CP.out _).mono ?_;rintro e w3 ⟨a3,l3,d3,rfl,hr3,hb3⟩;obtain⟨⟨k0,k1,k2,k3,k4,k5⟩,t0,t1⟩:=HK2.out _ hb3;have hcv:=HC.out _ _ hr3;have HB3:=hid hb3)
  | (go_at_call 12;refine(CM.out _).mono ?_;rintro e w4 ⟨rfl,hb4⟩;have HB4:=hid (step HB3.out hb4);obtain⟨⟨m0,m1,m2,m3,m4,m5⟩, -, -⟩:=HK2.out _ HB4.out)
  | (go_at_call 16;refine(CV.out _).mono ?_;rintro e w5 ⟨rfl,hb5⟩;have HB5:=hid (step HB4.out hb5);obtain⟨⟨n0,n1,n2,n3,n4,n5⟩, -, -⟩:=HK2.out _ HB5.out)
  | (go_at_call 15;refine(CS.out _).mono ?_;rintro e w6 ⟨rfl,hb6⟩;have HB6:=hid (step HB5.out hb6)))
 go_ret
 exact⟨rfl,step HB2.out HB6.out⟩
end Cm
end Go.Proofs.Ytlaomehfhooiaaa
