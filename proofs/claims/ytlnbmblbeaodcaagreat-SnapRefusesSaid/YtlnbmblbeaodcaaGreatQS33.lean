/- Texts laid together by program. -/
import Derived.Test.YtlnbmblbeaodcaaGreatQS32
import Derived.Deep.RegionHeld3
import Derived.Lib.QuietBelow
import Derived.BigQuiet
/- Contracts: package session's Right, Open. -/
set_option linter.unusedVariables false
set_option maxRecDepth 8000
set_option linter.unusedSimpArgs false
namespace Go.Proofs.YtlnbmblbeaodcaaGreat
open Lib (hid)
open Go.RowKit Go.Shelf
namespace Cm

theorem right_one {l:List SesV} (h:rightS l=true): ∀s∈l,oneS s=true:=((rightS_iff l).1 h).2.one
theorem wrong_one {l:List SesV} {j:Nat} {hj:j<l.length} (h:oneS l[j]=false):rightS l=false:=by
 cases q:rightS l
 ·rfl
 ·rw[right_one q l[j] (List.getElem_mem hj)] at h
  cases h
theorem wrong_num {l:List SesV} {j:Nat} {hj:j<l.length} (h:takenS l l[j].client l[j].num =true):rightS l=false:=by
 cases q:rightS l
 ·rfl
 ·obtain⟨_,hr⟩:=(rightS_iff l).1 q
  unfold takenS at h
  rw[List.any_eq_true] at h
  obtain⟨s,hs,hp⟩:=h
  obtain⟨i,hi,rfl⟩:=List.mem_iff_getElem.1 hs
  rw[Bool.and_eq_true,decide_eq_true_eq] at hp
  have h2:l[i].client ≠l[j].client :=by simpa using hp.2
  have hn:=List.pairwise_iff_getElem.1 hr.num
  rcases Nat.lt_trichotomy i j with g | g | g
  ·exact absurd hp.1 (hn i j hi hj g)
  ·subst g;exact absurd rfl h2
  ·exact absurd hp.1.symm (hn j i hj hi g)
theorem wrong_up {l:List SesV} {j:Nat} {hj:j+1<l.length} (h:l[j+1].client <=(l[j]'(by omega)).client):rightS l=false:=by
 cases q:rightS l
 ·rfl
 ·obtain⟨_,hr⟩:=(rightS_iff l).1 q
  have:=List.pairwise_iff_getElem.1 hr.up j (j+1) (by omega) hj (by omega)
  omega
theorem up_of (l:List SesV) (h: ∀j (hj:j+1<l.length),(l[j]'(by omega)).client <l[j+1].client):l.Pairwise fun a b=>a.client<b.client:=by
 rw[List.pairwise_iff_getElem]
 intro i j hi hj hij
 obtain⟨d,rfl⟩: ∃d,j=i+1+d:=⟨j - i - 1,by omega⟩
 clear hij
 induction d with
 | zero=>exact h i hj
 | succ d ih=>
  have:=ih (by omega)
  have h2:=h (i+1+d) (by omega)
  exact Int.lt_trans this h2
theorem right_of (l:List SesV) (h5:l.length<=5) (h1: ∀j (hj:j<l.length),oneS l[j]=true) (h2: ∀j (hj:j<l.length),takenS l l[j].client l[j].num =false) (h3: ∀j (hj:j+1<l.length),(l[j]'(by omega)).client <l[j+1].client):rightS l=true:=by
 have hup:=up_of l h3
 refine(rightS_iff l).2 ⟨h5,fun s hs=>?_,hup,?_⟩
 ·obtain⟨i,hi,rfl⟩:=List.mem_iff_getElem.1 hs
  exact h1 i hi
 ·rw[List.pairwise_iff_getElem]
  intro i j hi hj hij e
  have u:=List.pairwise_iff_getElem.1 hup i j hi hj hij
  have t:=(takenS_none _ _ _).1 (h2 j hj) l[i] (List.getElem_mem hi) e
  omega
set_option maxHeartbeats 4000000 in
theorem SesRight_any (v:Value) (l:List SesV) (w:World) (h:RdS w v l):Calls Tryz.prog 40 #[v] w (SaysB (rightS l) w):=by
 have hm:=h.len
 have HT:=hid (fun c n w' (hb:Below w.heap.size w w')=>numOf_any v l c n w' (h.later hb))
 obtain⟨a,cap,rfl⟩:=h.form
 by_cases c6:l.length<=5
 case neg=>
  have e:rightS l=false:=by unfold rightS;rw[decide_eq_false c6,Bool.false_and]
  rw[e]
  clear h HT e
  have d5:decide (5<(l.length:Int))=true:=by simp;omega
  generalize l.length=L at*
  go_enter Tryz.func40,Tryz.ntmps40
  go_wp2
  go_ret
  exact⟨rfl,Below.refl _ _⟩
 have d5:decide (5<(l.length:Int))=false:=by simp;omega
 have HA:=hid (fun i hi=>rds_at h i hi)
 have W1:=hid (fun j hj=>wrong_one (l:=l) (j:=j) (hj:=hj))
 have W2:=hid (fun j hj=>wrong_num (l:=l) (j:=j) (hj:=hj))
 have W3:=hid (fun j hj=>wrong_up (l:=l) (j:=j) (hj:=hj))
 have HR:=hid (right_of l c6)
 clear h
 obtain⟨L,hL⟩: ∃L,l.length=L:=⟨_,rfl⟩
 have HLL:=hid hL
 rw[hL] at hm c6 d5 HT ⊢
 clear hL
 go_enter Tryz.func40,Tryz.ntmps40
 go_wp2
 go_loopw [10] (fun i wr=> ∃j:Nat,j<=L/\i= .int .i64 j/\Hid (Below w.heap.size w wr)/\Hid (∀q (hq:q<l.length),q<j->oneS l[q]=true/\takenS l l[q].client l[q].num =false/\ ∀p (hp:p+1=q),(l[p]'(by omega)).client <l[q].client)) (fun i _=>L - (intOf i).toNat)
 case atStart=>exact⟨0,by omega,rfl,hid (Below.refl _ _),hid (fun q hq h=>absurd h (Nat.not_lt_zero _))⟩
 case round=>
  obtain⟨j,hj,rfl,HB,HG⟩:=hrel
  by_cases hlt:j<L
  ·have hjl:j<l.length:=by rw[HLL.out];exact hlt
   have HJ:=hid hjl
   clear hjl
   obtain⟨b,o,rfl,hc⟩:=HA.out j HJ.out
   obtain⟨q0,q1,q2⟩:=hc _ HB.out
   have HC:Hid (∀i (hi:i<l.length) (w':World),Below w.heap.size w w'->w'.cell? ⟨b,o+i*3,none⟩=some (.int .i64 l[i].client)):=fun i hi w' hb=>by
    obtain⟨b',o',e,hc'⟩:=HA.out i hi
    cases e
    exact(hc' w' hb).1
   clear hc
   have K1:=hid (W1.out j HJ.out)
   have K2:=hid (W2.out j HJ.out)
   have HN:Hid (oneS (l[j]'HJ.out)=true->takenS l (l[j]'HJ.out).client (l[j]'HJ.out).num =false->(∀p (hp:p+1=j) (hpl:p<l.length),l[p].client <(l[j]'HJ.out).client)-> ∀q (hq:q<l.length),q<j+1->oneS l[q]=true/\takenS l l[q].client l[q].num =false/\ ∀p (hp:p+1=q),(l[p]'(by omega)).client <l[q].client):=hid (fun a1 a2 a3 q hq hqj=>by
    by_cases e:q=j
    ·subst e;exact⟨a1,a2,fun p hp=>a3 p hp (by omega)⟩
    ·exact HG.out q hq (by omega))
   have K3:Hid (∀p (hp:p+1=j) (hpl:p<l.length),(l[j]'HJ.out).client <=l[p].client ->rightS l=false):=hid (fun p hp _ hle=>by
    subst hp
    exact W3.out p HJ.out hle)
   clear W1 W2 W3
   generalize l[j]'HJ.out=g at q0 q1 q2 K1 K2 K3 HN
   obtain⟨gc,gn,gr⟩:=g
   dsimp only at q0 q1 q2 K2 K3 HN
   have HB1:=hid (stepAlloc HB.out (.cells #[.int .i64 gc,.int .i64 gn,.int .i64 gr] 73))
   obtain⟨y0,y1,y2⟩:=box3 (Below.refl _ (wr.alloc (.cells #[.int .i64 gc,.int .i64 gn,.int .i64 gr] 73)))
   have CR:Hid (∀w,Calls Tryz.prog 88 #[.agg #[.int .i64 gc,.int .i64 gn,.int .i64 gr]] w (SaysB (oneS ⟨gc,gn,gr⟩) w)):=fun w=>isRight_any ⟨gc,gn,gr⟩ w
   cases n1:oneS ⟨gc,gn,gr⟩
   case false=>
    have HE:=hid (K1.out n1)
    rw[n1] at CR
    clear n1 HN K1 K2 K3
    go_wp2_with (go_at_call 88;refine(CR.out _).mono ?_;rintro e w2 ⟨rfl,hb2⟩)
    go_ret
    exact⟨by rw[HE.out];rfl,step HB1.out hb2⟩
   rw[n1] at CR
   cases n2:takenS l gc gn
   case true=>
    have HE:=hid (K2.out n2)
    have HT2:=hid (HT.out gc gn)
    rw[n2] at HT2
    clear n1 n2 HN K1 K2 K3
    go_wp2_with (first
     | (go_at_call 88;refine(CR.out _).mono ?_;rintro e w2 ⟨rfl,hb2⟩;have z0:=(hb2.cell (lt_of_cell y0)).trans y0;have z1:=(hb2.cell (lt_of_cell y1)).trans y1;have HB2:=hid (step HB1.out hb2))
     | (go_at_call 89;refine(HT2.out _ HB2.out).mono ?_;rintro e w3 ⟨rfl,hb3⟩))
    go_ret
    exact⟨by rw[HE.out];rfl,step HB2.out hb3⟩
   have HT2:=hid (HT.out gc gn)
   rw[n2] at HT2
   have HN2:=hid (HN.out n1 n2)
   clear n1 n2 HN K1 K2
   match j,hj,hlt,q0,q1,q2,K3,HN2,HJ with
   | 0,hj,hlt,q0,q1,q2,K3,HN2,HJ=>
    have HN3:=hid (HN2.out (fun p hp _=>by omega))
    clear HN2 K3
    simp only[Nat.zero_mul,Nat.add_zero] at q0 q1 q2
    go_upto_region 8 with (first
     | (go_at_call 88;refine(CR.out _).mono ?_;rintro e w2 ⟨rfl,hb2⟩;have z0:=(hb2.cell (lt_of_cell y0)).trans y0;have z1:=(hb2.cell (lt_of_cell y1)).trans y1;have HB2:=hid (step HB1.out hb2))
     | (go_at_call 89;refine(HT2.out _ HB2.out).mono ?_;rintro e w3 ⟨rfl,hb3⟩))
    have x0:=(hb3.cell (lt_of_cell z0)).trans z0
    have HB3:=hid (step HB2.out hb3)
    clear hb3 hb2 z0 z1 y0 y1 y2 q0 q1 q2 CR HT2 HT
    go_region
    go_wp2
    go_roundw
    case rel=>exact⟨1,by omega,by go_num,hid HB3.out.drew,HN3⟩
    case measure=>simp [intOf];omega
   | p+1,hj,hlt,q0,q1,q2,K3,HN2,HJ=>
    have hpl:p<l.length:=by have:=HJ.out;omega
    have K4:=hid (K3.out p rfl hpl)
    have HC2:=hid (HC.out p hpl)
    have HN3:Hid ((l[p]'hpl).client <gc->_):=hid (fun q=>HN2.out (fun r hr _=>by cases hr;exact q))
    clear HN2 K3 HC
    generalize (l[p]'hpl).client =pc at K4 HC2 HN3
    have g1:IntKind.i64.wrap (((p+1:Nat):Int) - 1)=(p:Int):=by rw[IntKind.wrap_i64];omega
    have g2:(0:Int)<=(p:Int):=by omega
    have g3:(p:Int)<(L:Int):=by omega
    have g4:(0:Int)<((p+1:Nat):Int):=by omega
    by_cases e1:gc<=pc
    ·have d1:decide (gc<=pc)=true:=decide_eq_true e1
     have HE:=hid (K4.out e1)
     clear e1 K4 HN3
     go_upto_region 8 with (first
      | (go_at_call 88;refine(CR.out _).mono ?_;rintro e w2 ⟨rfl,hb2⟩;have z0:=(hb2.cell (lt_of_cell y0)).trans y0;have z1:=(hb2.cell (lt_of_cell y1)).trans y1;have HB2:=hid (step HB1.out hb2))
      | (go_at_call 89;refine(HT2.out _ HB2.out).mono ?_;rintro e w3 ⟨rfl,hb3⟩))
     have x0:=(hb3.cell (lt_of_cell z0)).trans z0
     have HB3:=hid (step HB2.out hb3)
     have x1:=HC2.out _ HB3.out
     clear hb3 hb2 z0 z1 y0 y1 y2 q0 q1 q2 CR HT2 HT HC2
     go_region
     go_wp2
     go_ret
     exact⟨by rw[HE.out];rfl,HB3.out.drew⟩
    ·have d1:decide (gc<=pc)=false:=decide_eq_false e1
     have HN4:=hid (HN3.out (by omega))
     clear e1 K4 HN3
     go_upto_region 8 with (first
      | (go_at_call 88;refine(CR.out _).mono ?_;rintro e w2 ⟨rfl,hb2⟩;have z0:=(hb2.cell (lt_of_cell y0)).trans y0;have z1:=(hb2.cell (lt_of_cell y1)).trans y1;have HB2:=hid (step HB1.out hb2))
      | (go_at_call 89;refine(HT2.out _ HB2.out).mono ?_;rintro e w3 ⟨rfl,hb3⟩))
     have x0:=(hb3.cell (lt_of_cell z0)).trans z0
     have HB3:=hid (step HB2.out hb3)
     have x1:=HC2.out _ HB3.out
     clear hb3 hb2 z0 z1 y0 y1 y2 q0 q1 q2 CR HT2 HT HC2
     go_region
     go_wp2
     go_roundw
     case rel=>exact⟨p+2,by omega,by go_num,hid HB3.out.drew,HN4⟩
     case measure=>simp [intOf];omega
  ·obtain rfl:j=L:=by omega
   have hr:=HR.out (fun q hq=>(HG.out q hq (by rw[<-HLL.out];exact hq)).1) (fun q hq=>(HG.out q hq (by rw[<-HLL.out];exact hq)).2.1) (fun q hq=>(HG.out (q+1) hq (by rw[<-HLL.out];exact hq)).2.2 q rfl)
   have HE:=hid hr
   clear hr W1 W2 W3
   go_wp2
   go_ret
   exact⟨by rw[HE.out];rfl,HB.out⟩
end Cm
end Go.Proofs.YtlnbmblbeaodcaaGreat

/- Contracts: package lock's isRight, Right. -/
set_option linter.unusedVariables false
set_option maxRecDepth 8000
set_option linter.unusedSimpArgs false
namespace Go.Proofs.YtlnbmblbeaodcaaGreat
open Lib (hid)
open Go.RowKit Go.Shelf
namespace Cm

theorem oneK_split (n:List UInt8) (h t:Int) (l:List Int):oneK ⟨n,h,t,l⟩=(nameF n && (decide (0<=h) && (decide (h<8) && (decide (1<=t) && (decide (t<=2305843009213693952) && (rightL l && !hasL l h)))))):=by
 unfold oneK clientF highF
 simp only[Bool.and_assoc]
set_option maxHeartbeats 4000000 in
theorem isRightK_any (x:LockC) (w:World) (hl:RdI w x.lv x.line):Calls Tryz.prog 90 #[lockVal x] w (SaysB (oneK x.val) w):=by
 obtain⟨xn,xh,xt,xl,xa,xc⟩:=x
 unfold LockC.val
 unfold lockVal
 unfold LockC.lv at hl ⊢
 dsimp only at hl ⊢
 rw[oneK_split]
 have hb1:=newAlloc w (.cells #[.string (bstr xn),.int .i64 xh,.int .i64 xt,.slice xa xl.length xc] 71)
 obtain⟨c0,c1,c2,c3⟩:=box4 (Below.refl _ (w.alloc (.cells #[.string (bstr xn),.int .i64 xh,.int .i64 xt,.slice xa xl.length xc] 71)))
 obtain⟨W1,hW1⟩: ∃W1,W1=w.alloc (.cells #[.string (bstr xn),.int .i64 xh,.int .i64 xt,.slice xa xl.length xc] 71):=⟨_,rfl⟩
 rw[<-hW1] at hb1 c0 c1 c2 c3
 have HB:=hid hb1
 have KN:=hid (fun w=>Name_any xn w)
 have KR:=hid (LineRight_any (.slice xa xl.length xc) xl W1 (hl.later hb1))
 have KH:=hid (fun w2 (hb:Below W1.heap.size W1 w2)=>Contains_num (.slice xa xl.length xc) xl xh w2 (hl.later (step hb1 hb)))
 have HQ:Hid (∀w',Below W1.heap.size W1 w'->w'.cell? ⟨w.heap.size,1,none⟩=some (.int .i64 xh)/\w'.cell? ⟨w.heap.size,3,none⟩=some (.slice xa xl.length xc)):=hid fun w' hb=>⟨(hb.cell (lt_of_cell c1)).trans c1,(hb.cell (lt_of_cell c3)).trans c3⟩
 clear hl hb1
 generalize xl.length=XN at*
 generalize rightL xl=R at*
 generalize hasL xl xh=H at*
 cases n1:nameF xn with
 | false=>
  simp only[n1] at KN
  rw[Bool.false_and]
  go_enter Tryz.func90,Tryz.ntmps90
  go_upto_region 1 with fail
  rw[<-hW1]
  clear hW1
  go_wp2_with (go_at_call 150;refine(KN.out _).mono ?_;rintro e w2 ⟨rfl,rfl⟩)
  go_ret
  exact⟨rfl,HB.out⟩
 | true=>
 simp only[n1] at KN
 rw[Bool.true_and]
 by_cases e2:0<=xh
 case neg=>
  have d2:decide (0<=xh)=false:=decide_eq_false e2
  rw[d2,Bool.false_and]
  clear e2
  go_enter Tryz.func90,Tryz.ntmps90
  go_upto_region 1 with fail
  rw[<-hW1]
  clear hW1
  go_wp2_with (go_at_call 150;refine(KN.out _).mono ?_;rintro e w2 ⟨rfl,rfl⟩)
  go_ret
  exact⟨rfl,HB.out⟩
 have d2:decide (0<=xh)=true:=decide_eq_true e2
 rw[d2,Bool.true_and]
 clear e2
 by_cases e3:xh<8
 case neg=>
  have d3:decide (xh<8)=false:=decide_eq_false e3
  rw[d3,Bool.false_and]
  clear e3
  go_enter Tryz.func90,Tryz.ntmps90
  go_upto_region 1 with fail
  rw[<-hW1]
  clear hW1
  go_wp2_with (go_at_call 150;refine(KN.out _).mono ?_;rintro e w2 ⟨rfl,rfl⟩)
  go_ret
  exact⟨rfl,HB.out⟩
 have d3:decide (xh<8)=true:=decide_eq_true e3
 rw[d3,Bool.true_and]
 clear e3
 by_cases e4:1<=xt
 case neg=>
  have d4:decide (1<=xt)=false:=decide_eq_false e4
  rw[d4,Bool.false_and]
  clear e4
  go_enter Tryz.func90,Tryz.ntmps90
  go_upto_region 1 with fail
  rw[<-hW1]
  clear hW1
  go_wp2_with (go_at_call 150;refine(KN.out _).mono ?_;rintro e w2 ⟨rfl,rfl⟩)
  go_ret
  exact⟨rfl,HB.out⟩
 have d4:decide (1<=xt)=true:=decide_eq_true e4
 rw[d4,Bool.true_and]
 clear e4
 by_cases e5:xt<=2305843009213693952
 case neg=>
  have d5:decide (xt<=2305843009213693952)=false:=decide_eq_false e5
  rw[d5,Bool.false_and]
  clear e5
  go_enter Tryz.func90,Tryz.ntmps90
  go_upto_region 1 with fail
  rw[<-hW1]
  clear hW1
  go_wp2_with (go_at_call 150;refine(KN.out _).mono ?_;rintro e w2 ⟨rfl,rfl⟩)
  go_ret
  exact⟨rfl,HB.out⟩
 have d5:decide (xt<=2305843009213693952)=true:=decide_eq_true e5
 rw[d5,Bool.true_and]
 clear e5
 cases R with
 | false=>
  rw[Bool.false_and]
  go_enter Tryz.func90,Tryz.ntmps90
  go_upto_region 1 with fail
  rw[<-hW1]
  clear hW1
  go_wp2_with (first
   | (go_at_call 150;refine(KN.out _).mono ?_;rintro e w2 ⟨rfl,rfl⟩)
   | (go_at_call 151;refine KR.out.mono ?_;rintro e w3 ⟨rfl,hb3⟩))
  go_ret
  exact⟨rfl,step HB.out hb3⟩
 | true=>
  rw[Bool.true_and]
  go_enter Tryz.func90,Tryz.ntmps90
  go_upto_region 1 with fail
  rw[<-hW1]
  clear hW1
  go_wp2_with (first
   | (go_at_call 150;refine(KN.out _).mono ?_;rintro e w2 ⟨rfl,rfl⟩)
   | (go_at_call 151;refine KR.out.mono ?_;rintro e w3 ⟨rfl,hb3⟩;obtain⟨y1,y3⟩:=HQ.out _ hb3)
   | (go_at_call 129;refine(KH.out _ hb3).mono ?_;rintro e w4 ⟨rfl,rfl⟩))
  go_ret
  exact⟨rfl,step HB.out hb3⟩
end Cm
end Go.Proofs.YtlnbmblbeaodcaaGreat
