/- Texts laid together by program. -/
import Derived.Test.YtlnbmblbeaodcaaGreatQS33
import Derived.BigQuiet
import Derived.Deep.LoopGhost
/- Contracts: package lock's Right; with it all six of the package. -/
set_option linter.unusedVariables false
set_option maxRecDepth 8000
set_option linter.unusedSimpArgs false
namespace Go.Proofs.YtlnbmblbeaodcaaGreat
open Lib (hid)
open Go.RowKit Go.Shelf
namespace Cm

theorem str_leq (a b:List UInt8):(Op.bytesLess (bstr a).toList (bstr b).toList || (bstr a).toList ==(bstr b).toList)= !Op.bytesLess b a:=by
 rw[str_less,str_eq]
 rcases less_tri a b with ⟨q1,q2,q3⟩ | ⟨q1,q2,q3⟩ | ⟨q1,q2⟩
 ·simp [q1,q2,q3]
 ·simp [q1,q2,q3]
 ·subst q1;simp [q2]
theorem wrongK_one {l:List LockV} {j:Nat} {hj:j<l.length} (h:oneK l[j]=false):rightK l=false:=by
 cases q:rightK l
 ·rfl
 ·rw[((rightK_iff l).1 q).2.one l[j] (List.getElem_mem hj)] at h
  cases h
theorem wrongK_tok {l:List LockV} {j:Nat} {hj:j<l.length} (h:((l.take j).any fun x=>decide (x.token=l[j].token))=true):rightK l=false:=by
 cases q:rightK l
 ·rfl
 ·obtain⟨_,hr⟩:=(rightK_iff l).1 q
  rw[List.any_eq_true] at h
  obtain⟨s,hs,hp⟩:=h
  obtain⟨i,hi,rfl⟩:=List.mem_iff_getElem.1 hs
  have hij:i<j:=by rw[List.length_take] at hi;omega
  rw[List.getElem_take,decide_eq_true_eq] at hp
  exact absurd hp (List.pairwise_iff_getElem.1 hr.tok i j (by omega) hj hij)
theorem wrongK_up {l:List LockV} {j:Nat} {hj:j+1<l.length} (h:Op.bytesLess (l[j]'(by omega)).name l[j+1].name =false):rightK l=false:=by
 cases q:rightK l
 ·rfl
 ·obtain⟨_,hr⟩:=(rightK_iff l).1 q
  have:=List.pairwise_iff_getElem.1 hr.up j (j+1) (by omega) hj (by omega)
  rw[this] at h
  cases h
theorem rightK_of (l:List LockV) (h5:l.length<=4) (h1: ∀j (hj:j<l.length),oneK l[j]=true) (h2: ∀j (hj:j<l.length),((l.take j).any fun x=>decide (x.token=l[j].token))=false) (h3: ∀j (hj:j+1<l.length),Op.bytesLess (l[j]'(by omega)).name l[j+1].name =true):rightK l=true:=by
 refine(rightK_iff l).2 ⟨h5,fun s hs=>?_,?_,?_⟩
 ·obtain⟨i,hi,rfl⟩:=List.mem_iff_getElem.1 hs
  exact h1 i hi
 ·rw[List.pairwise_iff_getElem]
  intro i j hi hj hij
  obtain⟨d,rfl⟩: ∃d,j=i+1+d:=⟨j - i - 1,by omega⟩
  clear hij
  induction d with
  | zero=>exact h3 i hj
  | succ d ih=>exact less_tr _ _ _ (ih (by omega)) (h3 (i+1+d) (by omega))
 ·rw[List.pairwise_iff_getElem]
  intro i j hi hj hij e
  have:=h2 j hj
  rw[List.any_eq_false] at this
  refine this l[i] ?_ (by simpa using e)
  rw[List.mem_iff_getElem]
  exact⟨i,by rw[List.length_take];omega,List.getElem_take⟩
theorem any_vals (L:List LockC) (j:Nat) (t:Int):((L.take j).any fun x=>decide (x.token=t))=(((vals L).take j).any fun x=>decide (x.token=t)):=by
 rw[<-vals_take]
 unfold vals
 rw[List.any_map]
 rfl
set_option maxHeartbeats 8000000 in
theorem LckRight_any (v:Value) (L:List LockC) (w:World) (h:RdK w v L) (hn: ∀x∈L,x.name.length<=maxLen):Calls Tryz.prog 41 #[v] w (SaysB (rightK (vals L)) w):=by
 have hm:=h.len
 have hcap: ∀a cap,v= .slice a L.length cap->L.length<=cap/\cap<=maxLen:=fun a cap e=>by
  obtain⟨a',cap',hv,q1,q2,_⟩:=h.row.ex
  rw[hv] at e
  cases e
  exact⟨q1,q2⟩
 obtain⟨a,cap,rfl⟩:=h.form
 obtain⟨hc1,hc2⟩:=hcap a cap rfl
 clear hcap
 unfold maxLen at hc2
 by_cases c6:L.length<=4
 case neg=>
  have e:rightK (vals L)=false:=by unfold rightK;rw[vals_length,decide_eq_false c6,Bool.false_and]
  rw[e]
  clear h e hn
  have d5:decide (4<(L.length:Int))=true:=by simp;omega
  generalize L.length=N at*
  go_enter Tryz.func41,Tryz.ntmps41
  go_wp2
  go_ret
  exact⟨rfl,Below.refl _ _⟩
 have d5:decide (4<(L.length:Int))=false:=by simp;omega
 have HA:=hid (fun i hi=>rdk_at h.row i hi)
 have HLI:Hid (∀i (hi:i<L.length) (w':World),Below w.heap.size w w'->Calls Tryz.prog 90 #[lockVal L[i]] w' (SaysB (oneK L[i].val) w')):=hid fun i hi w' hb=>isRightK_any _ w' ((h.line _ (List.getElem_mem hi)).later hb)
 have HTK:Hid (∀i,i<=L.length-> ∀(w':World),Below w.heap.size w w'-> ∀t,Calls Tryz.prog 91 #[.slice a i cap,.int .i64 t] w' (SaysB (((vals L).take i).any fun x=>decide (x.token=t)) w')):=hid fun i hi w' hb t=>by
  rw[<-any_vals]
  exact hasTokenK_any _ (L.take i) t w' ((h.row.take i hi).later hb)
 have W1:=hid (fun j hj=>wrongK_one (l:=vals L) (j:=j) (hj:=hj))
 have W2:=hid (fun j hj=>wrongK_tok (l:=vals L) (j:=j) (hj:=hj))
 have W3:=hid (fun j hj=>wrongK_up (l:=vals L) (j:=j) (hj:=hj))
 have HR:=hid (rightK_of (vals L) (by rw[vals_length];exact c6))
 have HVG:Hid (∀i (h:i<L.length) (h':i<(vals L).length),(vals L)[i]=L[i].val):=hid (vals_get L)
 have HVL:=hid (vals_length L)
 clear h hn
 generalize vals L=V at*
 obtain⟨N,hL⟩: ∃N,L.length=N:=⟨_,rfl⟩
 have HLL:=hid hL
 rw[hL] at hm c6 d5 HTK hc1 HVL ⊢
 clear hL
 go_enter Tryz.func41,Tryz.ntmps41
 go_wp2
 go_loopw [10] (fun i wr=> ∃j:Nat,j<=N/\i= .int .i64 j/\Hid (Below w.heap.size w wr)/\Hid (∀q (hq:q<V.length),q<j->oneK V[q]=true/\((V.take q).any fun x=>decide (x.token=V[q].token))=false/\ ∀p (hp:p+1=q),Op.bytesLess (V[p]'(by omega)).name V[q].name =true)) (fun i _=>N - (intOf i).toNat)
 case atStart=>exact⟨0,by omega,rfl,hid (Below.refl _ _),hid (fun q hq h=>absurd h (Nat.not_lt_zero _))⟩
 case round=>
  obtain⟨j,hj,rfl,HB,HG⟩:=hrel
  by_cases hlt:j<N
  ·have hjl:j<L.length:=by rw[HLL.out];exact hlt
   have hjv:j<V.length:=by rw[HVL.out];exact hlt
   have HJ:=hid hjv
   obtain⟨b,o,rfl,hc⟩:=HA.out j hjl
   obtain⟨q0,q1,q2,q3⟩:=hc _ HB.out
   have HC:Hid (∀i (hi:i<V.length) (w':World),Below w.heap.size w w'->w'.cell? ⟨b,o+i*4,none⟩=some (.string (bstr V[i].name))):=hid fun i hi w' hb=>by
    have hi':i<L.length:=by rw[HLL.out,<-HVL.out];exact hi
    obtain⟨b',o',e,hc'⟩:=HA.out i hi'
    cases e
    have:=(hc' w' hb).1
    rw[HVG.out i hi' hi]
    exact this
   have K1:=W1.out j hjv
   have K2:=W2.out j hjv
   have HN:oneK (V[j]'hjv)=true->((V.take j).any fun x=>decide (x.token=(V[j]'hjv).token))=false->(∀p (hp:p+1=j) (hpl:p<V.length),Op.bytesLess V[p].name (V[j]'hjv).name =true)-> ∀q (hq:q<V.length),q<j+1->oneK V[q]=true/\((V.take q).any fun x=>decide (x.token=V[q].token))=false/\ ∀p (hp:p+1=q),Op.bytesLess (V[p]'(by omega)).name V[q].name =true:=fun a1 a2 a3 q hq hqj=>by
    by_cases e:q=j
    ·subst e;exact⟨a1,a2,fun p hp=>a3 p hp (by omega)⟩
    ·exact HG.out q hq (by omega)
   have K3: ∀p (hp:p+1=j) (hpl:p<V.length),Op.bytesLess V[p].name (V[j]'hjv).name =false->rightK V=false:=fun p hp _ hle=>by
    subst hp
    exact W3.out p hjv hle
   have KI:=fun w' hb=>HLI.out j hjl w' hb
   have KT:=fun w' hb=>HTK.out j hj w' hb
   rw[HVG.out j hjl hjv] at K1 K2 HN K3
   clear hc W1 W2 W3 HLI HTK HA HG
   generalize L[j]=x at q0 q1 q2 q3 K1 K2 K3 HN KI
   clear hjl hjv
   obtain⟨xn,xh,xt,xl,xa,xc⟩:=x
   unfold lockVal LockC.lv at KI
   unfold LockC.lv at q3
   unfold LockC.val at K1 K2 K3 HN KI
   dsimp only at q0 q1 q2 q3 K1 K2 K3 HN KI
   have KT:=fun w' hb=>KT w' hb xt
   obtain⟨WR,hWR⟩: ∃WR,WR=wr.alloc (.cells #[.string (bstr xn),.int .i64 xh,.int .i64 xt,.slice xa xl.length xc] 71):=⟨_,rfl⟩
   have HB1:Hid (Below w.heap.size w WR):=hid (by rw[hWR];exact step HB.out (newAlloc _ _))
   obtain⟨z0,z1,z2,z3⟩:=box4 (Below.refl _ (wr.alloc (.cells #[.string (bstr xn),.int .i64 xh,.int .i64 xt,.slice xa xl.length xc] 71)))
   rw[<-hWR] at z0 z1 z2 z3
   have HWW:=hid hWR
   clear hWR
   generalize xl.length=XN at*
   have k0:=cell_regrown z0
   have k1:=cell_regrown z1
   have k2:=cell_regrown z2
   have k3:=cell_regrown z3
   have D1:=hid (fun d os=>Calls.regrown_of (w:=WR) (d:=d) (os:=os) (KI _ (step HB1.out (below_regrown WR d os))))
   have D2:=hid (fun d os=>Calls.regrown_of (w:=WR) (d:=d) (os:=os) (KT _ (step HB1.out (below_regrown WR d os))))
   have f1:(0:Int)<=(j:Int):=by omega
   have f2:(j:Int)<(N:Int):=by omega
   have f3:(j:Int)<=(cap:Int):=by omega
   clear KI KT
   have mixed:Tryz.prog.follows Departure.mixedOrders=true:=by kernel_rfl
   cases n1:oneK ⟨xn,xh,xt,xl⟩
   case false=>
    have HE:=hid (K1 n1)
    rw[n1] at D1
    clear n1 HN K1 K2 K3 HC
    go_upto_region 6 with fail
    rw[<-HWW.out]
    clear HWW q0 q1 q2 q3
    refine wp_region_quiet_below (by kernel_rfl) (by kernel_rfl) ?_
    repeat (go_big_quiet_step (first | exact D1.out _ _ | exact D2.out _ _))
    refine wpQuiet_nil ?_
    intro _ hw'
    obtain⟨⟨dq,osq⟩,hw''⟩:=hw'
    subst hw''
    go_wp2
    go_ret
    exact⟨by rw[HE.out];rfl,step HB1.out (below_regrown WR dq osq)⟩
   rw[n1] at D1
   cases n2:((V.take j).any fun x=>decide (x.token=xt))
   case true=>
    have HE:=hid (K2 n2)
    rw[n2] at D2
    clear n1 n2 HN K1 K2 K3 HC
    go_upto_region 6 with fail
    rw[<-HWW.out]
    clear HWW q0 q1 q2 q3
    refine wp_region_quiet_below (by kernel_rfl) (by kernel_rfl) ?_
    repeat (go_big_quiet_step (first | exact D1.out _ _ | exact D2.out _ _))
    refine wpQuiet_nil ?_
    intro _ hw'
    obtain⟨⟨dq,osq⟩,hw''⟩:=hw'
    subst hw''
    go_wp2
    go_ret
    exact⟨by rw[HE.out];rfl,step HB1.out (below_regrown WR dq osq)⟩
   rw[n2] at D2
   have HN2:=hid (HN n1 n2)
   have HK3:=hid K3
   clear n1 n2 HN K1 K2 K3
   match j,hj,hlt,f1,f2,f3,q0,q1,q2,q3,HK3,HN2,HJ,D1,D2,HWW with
   | 0,hj,hlt,f1,f2,f3,q0,q1,q2,q3,HK3,HN2,HJ,D1,D2,HWW=>
    have HN3:=hid (HN2.out (fun p hp _=>by omega))
    clear HN2 HK3 HC
    simp only[Nat.zero_mul,Nat.add_zero] at q0 q1 q2 q3
    go_upto_region 6 with fail
    rw[<-HWW.out]
    clear HWW q0 q1 q2 q3
    refine wp_region_quiet_below (by kernel_rfl) (by kernel_rfl) ?_
    repeat (go_big_quiet_step (first | exact D1.out _ _ | exact D2.out _ _))
    refine wpQuiet_nil ?_
    intro _ hw'
    obtain⟨⟨dq,osq⟩,hw''⟩:=hw'
    subst hw''
    go_upto_region 8 with fail
    obtain⟨W9,hW9⟩: ∃W9,W9=Go.Sort.grow (redrawn WR dq) osq:=⟨_,rfl⟩
    have HB9:Hid (Below w.heap.size w W9):=hid (by rw[hW9];exact step HB1.out (below_regrown WR dq osq))
    have y0:=k0 dq osq
    rw[<-hW9] at y0 ⊢
    clear hW9 k0 k1 k2 k3 z0 z1 z2 z3 D1 D2
    go_quiet (fail)
    go_wp2
    go_roundw
    case rel=>exact⟨1,by omega,by go_num,hid (below_drewN6 HB9.out nq),HN3⟩
    case measure=>simp [intOf];omega
   | p+1,hj,hlt,f1,f2,f3,q0,q1,q2,q3,HK3,HN2,HJ,D1,D2,HWW=>
    have hpl:p<V.length:=by have:=HJ.out;omega
    have K4:=HK3.out p rfl hpl
    have HC2:=hid (HC.out p hpl)
    have HN3:Op.bytesLess (V[p]'hpl).name xn=true->_:=fun q=>HN2.out (fun r hr _=>by cases hr;exact q)
    clear HN2 HK3 HC
    generalize (V[p]'hpl).name =pn at K4 HC2 HN3
    have hE:=str_leq xn pn
    have g1:IntKind.i64.wrap (((p+1:Nat):Int) - 1)=(p:Int):=by rw[IntKind.wrap_i64];omega
    have g2:(0:Int)<=(p:Int):=by omega
    have g3:(p:Int)<(N:Int):=by omega
    have g4:(0:Int)<((p+1:Nat):Int):=by omega
    cases e1:Op.bytesLess pn xn with
    | false=>
     rw[e1] at hE
     have HE:=hid (K4 e1)
     clear e1 K4 HN3
     go_upto_region 6 with fail
     rw[<-HWW.out]
     clear HWW q0 q1 q2 q3
     refine wp_region_quiet_below (by kernel_rfl) (by kernel_rfl) ?_
     repeat (go_big_quiet_step (first | exact D1.out _ _ | exact D2.out _ _))
     refine wpQuiet_nil ?_
     intro _ hw'
     obtain⟨⟨dq,osq⟩,hw''⟩:=hw'
     subst hw''
     go_upto_region 8 with fail
     obtain⟨W9,hW9⟩: ∃W9,W9=Go.Sort.grow (redrawn WR dq) osq:=⟨_,rfl⟩
     have HB9:Hid (Below w.heap.size w W9):=hid (by rw[hW9];exact step HB1.out (below_regrown WR dq osq))
     have y0:=k0 dq osq
     rw[<-hW9] at y0 ⊢
     clear hW9 k0 k1 k2 k3 z0 z1 z2 z3 D1 D2
     have y1:=HC2.out W9 HB9.out
     go_quiet (fail)
     go_wp2
     go_ret
     exact⟨by rw[HE.out];rfl,below_drewN6 HB9.out nq⟩
    | true=>
     rw[e1] at hE
     have HN4:=hid (HN3 e1)
     clear e1 K4 HN3
     go_upto_region 6 with fail
     rw[<-HWW.out]
     clear HWW q0 q1 q2 q3
     refine wp_region_quiet_below (by kernel_rfl) (by kernel_rfl) ?_
     repeat (go_big_quiet_step (first | exact D1.out _ _ | exact D2.out _ _))
     refine wpQuiet_nil ?_
     intro _ hw'
     obtain⟨⟨dq,osq⟩,hw''⟩:=hw'
     subst hw''
     go_upto_region 8 with fail
     obtain⟨W9,hW9⟩: ∃W9,W9=Go.Sort.grow (redrawn WR dq) osq:=⟨_,rfl⟩
     have HB9:Hid (Below w.heap.size w W9):=hid (by rw[hW9];exact step HB1.out (below_regrown WR dq osq))
     have y0:=k0 dq osq
     rw[<-hW9] at y0 ⊢
     clear hW9 k0 k1 k2 k3 z0 z1 z2 z3 D1 D2
     have y1:=HC2.out W9 HB9.out
     go_quiet (fail)
     go_wp2
     go_roundw
     case rel=>exact⟨p+2,by omega,by go_num,hid (below_drewN6 HB9.out nq),HN4⟩
     case measure=>simp [intOf];omega
  ·obtain rfl:j=N:=by omega
   have hr:=HR.out (fun q hq=>(HG.out q hq (by rw[<-HVL.out];exact hq)).1) (fun q hq=>(HG.out q hq (by rw[<-HVL.out];exact hq)).2.1) (fun q hq=>(HG.out (q+1) hq (by rw[<-HVL.out];exact hq)).2.2 q rfl)
   have HE:=hid hr
   clear hr W1 W2 W3
   go_wp2
   go_ret
   exact⟨by rw[HE.out];rfl,HB.out⟩
end Cm
end Go.Proofs.YtlnbmblbeaodcaaGreat

/- Contracts: package memo's Right. -/
set_option linter.unusedVariables false
set_option maxRecDepth 8000
set_option linter.unusedSimpArgs false
namespace Go.Proofs.YtlnbmblbeaodcaaGreat
open Lib (hid)
open Go.RowKit Go.Shelf
namespace Cm

set_option maxHeartbeats 4000000 in
theorem MemRight_any (v:Value) (L:List MemC) (w:World) (h:RdM w v L):Calls Tryz.prog 42 #[v] w (SaysB (rightM (valsM L)) w):=by
 have hm:=h.len
 obtain⟨a,cap,rfl⟩:=h.form
 have HA:=hid (fun i hi=>rdm_at h.row i hi)
 have HM:Hid (∀i (hi:i<L.length) (w':World),Below w.heap.size w w'->Calls Tryz.prog 92 #[ansVal L[i].m L[i].hv] w' (SaysB (mayA L[i].m) w')):=hid fun i hi w' hb=>RepMayAnswer_any _ _ w' ((h.held _ (List.getElem_mem hi)).later hb)
 have W1:=hid (fun j hj=>wrongM_may (l:=valsM L) (j:=j) (hj:=hj))
 have W3:=hid (fun j hj=>wrongM_up (l:=valsM L) (j:=j) (hj:=hj))
 have HR:=hid (rightM_of (valsM L))
 have HVG:Hid (∀i (h:i<L.length) (h':i<(valsM L).length),(valsM L)[i]=L[i].m):=hid (valsM_get L)
 have HVL:=hid (valsM_length L)
 clear h
 generalize valsM L=V at*
 obtain⟨N,hL⟩: ∃N,L.length=N:=⟨_,rfl⟩
 have HLL:=hid hL
 rw[hL] at hm HVL ⊢
 clear hL
 go_enter Tryz.func42,Tryz.ntmps42
 go_wp2
 go_loopw [7] (fun i wr=> ∃j:Nat,j<=N/\i= .int .i64 j/\Hid (Below w.heap.size w wr)/\Hid (∀q (hq:q<V.length),q<j->mayA V[q]=true/\ ∀p (hp:p+1=q),(V[p]'(by omega)).client <V[q].client)) (fun i _=>N - (intOf i).toNat)
 case atStart=>exact⟨0,by omega,rfl,hid (Below.refl _ _),hid (fun q hq h=>absurd h (Nat.not_lt_zero _))⟩
 case round=>
  obtain⟨j,hj,rfl,HB,HG⟩:=hrel
  by_cases hlt:j<N
  ·have hjl:j<L.length:=by rw[HLL.out];exact hlt
   have hjv:j<V.length:=by rw[HVL.out];exact hlt
   have HJ:=hid hjv
   obtain⟨b,o,rfl,hc⟩:=HA.out j hjl
   obtain⟨q0,q1,q2,q3,q4,q5⟩:=hc _ HB.out
   have HC:Hid (∀i (hi:i<V.length) (w':World),Below w.heap.size w w'->w'.cell? ⟨b,o+i*6,none⟩=some (.int .i64 V[i].client)):=hid fun i hi w' hb=>by
    have hi':i<L.length:=by rw[HLL.out,<-HVL.out];exact hi
    obtain⟨b',o',e,hc'⟩:=HA.out i hi'
    cases e
    have:=(hc' w' hb).1
    rw[HVG.out i hi' hi]
    exact this
   have K1:=W1.out j hjv
   have HN:mayA (V[j]'hjv)=true->(∀p (hp:p+1=j) (hpl:p<V.length),V[p].client <(V[j]'hjv).client)-> ∀q (hq:q<V.length),q<j+1->mayA V[q]=true/\ ∀p (hp:p+1=q),(V[p]'(by omega)).client <V[q].client :=fun a1 a3 q hq hqj=>by
    by_cases e:q=j
    ·subst e;exact⟨a1,fun p hp=>a3 p hp (by omega)⟩
    ·exact HG.out q hq (by omega)
   have K3: ∀p (hp:p+1=j) (hpl:p<V.length),(V[j]'hjv).client <=V[p].client ->rightM V=false:=fun p hp _ hle=>by
    subst hp
    exact W3.out p hjv hle
   have KI:=fun w' hb=>HM.out j hjl w' hb
   rw[HVG.out j hjl hjv] at K1 HN K3
   clear hc W1 W3 HM HA HG
   generalize L[j]=x at q0 q1 q2 q3 q4 q5 K1 K3 HN KI
   clear hjl hjv
   obtain⟨⟨xc,xs,xk,xn,xd,xl⟩,xa,xp⟩:=x
   unfold ansVal MemC.hv at KI
   unfold MemC.hv at q5
   dsimp only at q0 q1 q2 q3 q4 q5 K1 K3 HN KI
   have KI:=hid KI
   have f1:(0:Int)<=(j:Int):=by omega
   have f2:(j:Int)<(N:Int):=by omega
   generalize xl.length=XN at*
   go_upto_region 4 with fail
   obtain⟨W2,hW2⟩: ∃W2,W2=wr.alloc (.cells #[.int .i64 xc,.int .i64 xs,.int .i64 xk,.int .i64 xn,.int .i64 xd,.slice xa XN xp] 76):=⟨_,rfl⟩
   have HB2:Hid (Below w.heap.size w W2):=hid (by rw[hW2];exact step HB.out (newAlloc _ _))
   have hz:=box6 (Below.refl _ (wr.alloc (.cells #[.int .i64 xc,.int .i64 xs,.int .i64 xk,.int .i64 xn,.int .i64 xd,.slice xa XN xp] 76)))
   rw[<-hW2] at hz ⊢
   clear hW2
   have HZ:Hid (∀w',Below W2.heap.size W2 w'->w'.cell? ⟨wr.heap.size,0,none⟩=some (.int .i64 xc)):=hid fun w' hb=>(hb.cell (lt_of_cell hz.1)).trans hz.1
   obtain⟨z0,z1,z2,z3,z4,z5⟩:=hz
   have KD:=hid (KI.out W2 HB2.out)
   clear KI q1 q2 q3 q4 q5 q0
   cases n1:mayA ⟨xc,xs,⟨xk,xn,xd,xl⟩⟩
   case false=>
    have HE:=hid (K1 n1)
    rw[n1] at KD
    clear n1 HN K1 K3 HC
    go_wp2_with (go_at_call 92;refine KD.out.mono ?_;rintro e w3 ⟨rfl,hb3⟩)
    go_ret
    exact⟨by rw[HE.out];rfl,step HB2.out hb3⟩
   rw[n1] at KD
   have HN2:=hid (HN n1)
   have HK3:=hid K3
   clear n1 HN K1 K3
   go_upto_region 6 with (go_at_call 92;refine KD.out.mono ?_;rintro e w3 ⟨rfl,hb3⟩)
   have HB3:=hid (step HB2.out hb3)
   have k0:=cell_regrown (HZ.out _ hb3)
   clear hb3 z0 z1 z2 z3 z4 z5 KD
   have hjc:j=0\/ ∃p,j=p+1:=by rcases j with _ | p;exact .inl rfl;exact .inr ⟨p,rfl⟩
   rcases hjc with rfl | ⟨p,rfl⟩
   case inl=>
    have HN3:=hid (HN2.out (fun p hp _=>by omega))
    clear HN2 HK3 HC
    refine wp_region_quiet_below (by kernel_rfl) (by kernel_rfl) ?_
    repeat (go_big_quiet_step (fail))
    refine wpQuiet_nil ?_
    intro _ hw'
    obtain⟨⟨dq,osq⟩,hw''⟩:=hw'
    subst hw''
    have HBF:=hid (step HB3.out (below_regrown w3 dq osq))
    go_wp2
    go_roundw
    case rel=>exact⟨1,by omega,by go_num,HBF,HN3⟩
    case measure=>simp [intOf];omega
   case inr=>
    have hpl:p<V.length:=by have:=HJ.out;omega
    have K4:=HK3.out p rfl hpl
    have HC2:=HC.out p hpl w3 HB3.out
    have HN3:(V[p]'hpl).client <xc->_:=fun q=>HN2.out (fun r hr _=>by cases hr;exact q)
    clear HN2 HK3 HC
    generalize (V[p]'hpl).client =pc at K4 HC2 HN3
    have g0:=cell_regrown HC2
    have g1:IntKind.i64.wrap (((p+1:Nat):Int) - 1)=(p:Int):=by rw[IntKind.wrap_i64];omega
    have g2:(0:Int)<=(p:Int):=by omega
    have g3:(p:Int)<(N:Int):=by omega
    have g4:decide ((0:Int)<((p+1:Nat):Int))=true:=decide_eq_true (by omega)
    clear HC2
    by_cases e1:xc<=pc
    ·have d1:decide (xc<=pc)=true:=decide_eq_true e1
     have HE:=hid (K4 e1)
     clear e1 K4 HN3
     refine wp_region_quiet_below (by kernel_rfl) (by kernel_rfl) ?_
     repeat (go_big_quiet_step (fail))
     refine wpQuiet_nil ?_
     intro _ hw'
     obtain⟨⟨dq,osq⟩,hw''⟩:=hw'
     subst hw''
     go_wp2
     go_ret
     exact⟨by rw[HE.out];rfl,step HB3.out (below_regrown w3 dq osq)⟩
    ·have d1:decide (xc<=pc)=false:=decide_eq_false e1
     have HN4:=hid (HN3 (by omega))
     clear e1 K4 HN3
     refine wp_region_quiet_below (by kernel_rfl) (by kernel_rfl) ?_
     repeat (go_big_quiet_step (fail))
     refine wpQuiet_nil ?_
     intro _ hw'
     obtain⟨⟨dq,osq⟩,hw''⟩:=hw'
     subst hw''
     have HBF:=hid (step HB3.out (below_regrown w3 dq osq))
     go_wp2
     go_roundw
     case rel=>exact⟨p+2,by omega,by go_num,HBF,HN4⟩
     case measure=>simp [intOf];omega
  ·obtain rfl:j=N:=by omega
   have hr:=HR.out (fun q hq=>(HG.out q hq (by rw[<-HVL.out];exact hq)).1) (fun q hq=>(HG.out (q+1) hq (by rw[<-HVL.out];exact hq)).2 q rfl)
   have HE:=hid hr
   clear hr W1 W3
   go_wp2
   go_ret
   exact⟨by rw[HE.out];rfl,HB.out⟩
end Cm
end Go.Proofs.YtlnbmblbeaodcaaGreat

/- Contracts: package auto's isNumber, allGiven, Gone. -/
set_option linter.unusedVariables false
set_option maxRecDepth 8000
set_option linter.unusedSimpArgs false
namespace Go.Proofs.YtlnbmblbeaodcaaGreat
open Lib (hid)
open Go.RowKit Go.Shelf Go.Deep
namespace Cm

theorem isNumberA_any (v:Int) (w:World):Calls Tryz.prog 39 #[.int .i64 v] w (Says (highF v 0) w):=by
  unfold highF
  by_cases h1:0<=v<;>by_cases h2:v<=2305843009213693952<;>
    (go_enter Tryz.func39,Tryz.ntmps39
     go_wp2
     go_ret
     exact⟨by simp [h1,h2]<;>omega,rfl⟩)
theorem given1_any (s:SesV) (w:World) (b:Nat) (n:Int) (hb:w.cell? ⟨b,1,none⟩=some (.int .i64 n)):
  Calls Tryz.prog 93 #[sesVal s,.pointer (some ⟨b,0,none⟩)] w (SaysB (decide (n<s.num)) w):=by
 obtain⟨gc,gn,gr⟩:=s
 unfold sesVal
 dsimp only
 have HB:=hid (newAlloc w (.cells #[.int .i64 gc,.int .i64 gn,.int .i64 gr] 73))
 obtain⟨y0,y1,y2⟩:=box3 (Below.refl _ (w.alloc (.cells #[.int .i64 gc,.int .i64 gn,.int .i64 gr] 73)))
 have z1:=(HB.out.cell (lt_of_cell hb)).trans hb
 clear hb
 go_enter Tryz.func93,Tryz.ntmps93
 go_wp2
 go_ret
 exact⟨by simp<;>rfl,HB.out⟩
theorem given2_any (x:LockC) (w:World) (b:Nat) (t:Int) (hb:w.cell? ⟨b,2,none⟩=some (.int .i64 t)):
  Calls Tryz.prog 94 #[lockVal x,.pointer (some ⟨b,0,none⟩)] w (SaysB (decide (t<x.token)) w):=by
 obtain⟨xn,xh,xt,xl,xa,xc⟩:=x
 unfold lockVal LockC.lv
 dsimp only
 have HB:=hid (newAlloc w (.cells #[.string (bstr xn),.int .i64 xh,.int .i64 xt,.slice xa xl.length xc] 71))
 obtain⟨y0,y1,y2,y3⟩:=box4 (Below.refl _ (w.alloc (.cells #[.string (bstr xn),.int .i64 xh,.int .i64 xt,.slice xa xl.length xc] 71)))
 have z1:=(HB.out.cell (lt_of_cell hb)).trans hb
 clear hb
 generalize xl.length=N at*
 go_enter Tryz.func94,Tryz.ntmps94
 go_wp2
 go_ret
 exact⟨by simp<;>rfl,HB.out⟩
theorem enters_given1: ∀args w,(callFunc 93 args).run Tryz.prog w= .ok (.enter 93 args) w:=enters_of Tryz.func93 (by kernel_rfl) rfl
theorem enters_given2: ∀args w,(callFunc 94 args).run Tryz.prog w= .ok (.enter 94 args) w:=enters_of Tryz.func94 (by kernel_rfl) rfl
def givenA (s:StV):Bool:=s.ses.all (fun x=>decide (x.num<=s.num)) && s.locks.all (fun k=>decide (k.token<=s.token))
theorem any_not {α:Type} (l:List α) (p q:α->Bool) (h: ∀x,q x= !p x):l.any q= !l.all p:=by
 rw[List.not_all_eq_any_not]
 congr 1
 funext x
 exact h x
set_option maxHeartbeats 1000000 in
theorem allGiven_any (x:StC) (w:World) (h:RdSt w x):Calls Tryz.prog 43 #[stVal x] w (SaysB (givenA x.v) w):=by
 have hmf: ∀(fn:Fn) (first cap:Array Value) (w:World),(Instr.makeFunc fn first cap).run Tryz.prog w= .ok (.func fn first cap) w:=fun _ _ _ _=>rfl
 obtain⟨W1,hW1⟩: ∃W1,W1=w.alloc (.cells #[.int .i64 x.time,.int .i64 x.num,.int .i64 x.token,x.sv,x.kv,x.mv] 26):=⟨_,rfl⟩
 have hb1:Below w.heap.size w W1:=by rw[hW1];exact newAlloc _ _
 have hB1:BoxS W1 w.heap.size x:=by rw[hW1];exact BoxS.new w x _
 have HB:=hid hb1
 have KS:=hid (fun W (hb:Below W1.heap.size W1 W)=>HasS_any (fun s=>decide (x.num<s.num)) 93 #[.pointer (some ⟨w.heap.size,0,none⟩)] enters_given1 x.sv x.S W ((h.later (step hb1 hb)).s)
  (fun V s hv=>given1_any s V w.heap.size x.num (hB1.later (step hb hv)).c1))
 have KK:=hid (fun W (hb:Below W1.heap.size W1 W)=>HasK_any (fun k=>decide (x.token<k.token)) 94 #[.pointer (some ⟨w.heap.size,0,none⟩)] enters_given2 x.kv x.K W ((h.later (step hb1 hb)).k.row)
  (fun V s hv=>given2_any s V w.heap.size x.token (hB1.later (step hb hv)).c2))
 have HBX:=hid hB1
 have hR:givenA x.v=(!(x.S.any fun s=>decide (x.num<s.num)) && !(x.K.any fun k=>decide (x.token<k.token))):=by
  unfold givenA StC.v vals
  rw[any_not x.S (fun s=>decide (s.num<=x.num)) _ (fun s=>by by_cases q:x.num<s.num<;>simp [q]<;>omega),any_not x.K (fun k=>decide (k.token<=x.token)) _ (fun s=>by by_cases q:x.token<s.token<;>simp [q]<;>omega),Bool.not_not,Bool.not_not]
  congr 1
  dsimp only
  rw[List.all_map]
  rfl
 rw[hR]
 clear hR h hb1 hB1
 generalize (x.S.any fun s=>decide (x.num<s.num))=r1 at KS ⊢
 generalize (x.K.any fun k=>decide (x.token<k.token))=r2 at KK ⊢
 obtain⟨nb,hnb⟩: ∃nb,w.heap.size=nb:=⟨_,rfl⟩
 have HNB:=hid hnb
 rw[hnb] at KS KK HBX
 clear hnb
 obtain⟨xt,xn,xk,xS,sa,sc,xK,ka,kc,xM,ma,mc⟩:=x
 unfold stVal
 simp only[StC.sv,StC.kv,StC.mv] at hW1 KS KK ⊢
 obtain⟨c0,c1,c2,c3,c4,c5,cf⟩:=HBX.out
 simp only[StC.sv,StC.kv,StC.mv] at c0 c1 c2 c3 c4 c5
 go_enter Tryz.func43,Tryz.ntmps43
 go_upto_region 1 with fail
 rw[<-hW1]
 rw[HNB.out]
 clear hW1
 cases r1 with
 | true=>
  go_wp2_with (go_at_call 95;refine(KS.out W1 (Below.refl _ _)).mono ?_;rintro e w2 ⟨rfl,hb2⟩;have HB2:=hid hb2;clear hb2)
  go_ret
  exact⟨by simp,step HB.out HB2.out⟩
 | false=>
  go_wp2_with (first
   | (go_at_call 95;refine(KS.out W1 (Below.refl _ _)).mono ?_;rintro e w2 ⟨rfl,hb2⟩;have HB2:=hid hb2;obtain⟨d0,d1,d2,d3,d4,d5,df⟩:=HBX.out.later hb2;simp only[StC.sv,StC.kv,StC.mv] at d0 d1 d2 d3 d4 d5;clear hb2)
   | (go_at_call 96;refine(KK.out w2 HB2.out).mono ?_;rintro e w3 ⟨rfl,hb3⟩;have HB3:=hid hb3;clear hb3))
  go_ret
  exact⟨by simp,step HB.out (step HB2.out HB3.out)⟩
/-! ### Gone -/
end Cm
end Go.Proofs.YtlnbmblbeaodcaaGreat
