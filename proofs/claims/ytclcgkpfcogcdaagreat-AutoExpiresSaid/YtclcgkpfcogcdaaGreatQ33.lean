/- Texts laid together by program. -/
import Derived.Test.YtclcgkpfcogcdaaGreatQ32
import Derived.BigQuiet
/- Contracts: package lock's Right; with it all six of the package. -/
set_option linter.unusedVariables false
set_option maxRecDepth 8000
set_option linter.unusedSimpArgs false
namespace Go.Proofs.YtclcgkpfcogcdaaGreat
open Lib (hid)
open Go.RowKit Go.Shelf
namespace Cm

theorem str_leq (a b:List UInt8):(Op.bytesLess (bstr a).toList (bstr b).toList || (bstr a).toList ==(bstr b).toList)= !Op.bytesLess b a:=by
 rw[str_less,str_eq]
 rcases less_tri a b with ⟨q1,q2,q3⟩ | ⟨q1,q2,q3⟩ | ⟨q1,q2⟩
 ·simp [q1,q2,q3]
 ·simp [q1,q2,q3]
 ·subst q1;simp [q2]
theorem wrongK_one {l:List LockV} {j:Nat} {hj:j<l.length} (h:oneK l[j]=false):rightK l=false:=by
 cases q:rightK l
 ·rfl
 ·rw[((rightK_iff l).1 q).2.one l[j] (List.getElem_mem hj)] at h
  cases h
theorem wrongK_tok {l:List LockV} {j:Nat} {hj:j<l.length} (h:((l.take j).any fun x=>decide (x.token=l[j].token))=true):rightK l=false:=by
 cases q:rightK l
 ·rfl
 ·obtain⟨_,hr⟩:=(rightK_iff l).1 q
  rw[List.any_eq_true] at h
  obtain⟨s,hs,hp⟩:=h
  obtain⟨i,hi,rfl⟩:=List.mem_iff_getElem.1 hs
  have hij:i<j:=by rw[List.length_take] at hi;omega
  rw[List.getElem_take,decide_eq_true_eq] at hp
  exact absurd hp (List.pairwise_iff_getElem.1 hr.tok i j (by omega) hj hij)
theorem wrongK_up {l:List LockV} {j:Nat} {hj:j+1<l.length} (h:Op.bytesLess (l[j]'(by omega)).name l[j+1].name =false):rightK l=false:=by
 cases q:rightK l
 ·rfl
 ·obtain⟨_,hr⟩:=(rightK_iff l).1 q
  have:=List.pairwise_iff_getElem.1 hr.up j (j+1) (by omega) hj (by omega)
  rw[this] at h
  cases h
theorem rightK_of (l:List LockV) (h5:l.length<=4) (h1: ∀j (hj:j<l.length),oneK l[j]=true) (h2: ∀j (hj:j<l.length),((l.take j).any fun x=>decide (x.token=l[j].token))=false) (h3: ∀j (hj:j+1<l.length),Op.bytesLess (l[j]'(by omega)).name l[j+1].name =true):rightK l=true:=by
 refine(rightK_iff l).2 ⟨h5,fun s hs=>?_,?_,?_⟩
 ·obtain⟨i,hi,rfl⟩:=List.mem_iff_getElem.1 hs
  exact h1 i hi
 ·rw[List.pairwise_iff_getElem]
  intro i j hi hj hij
  obtain⟨d,rfl⟩: ∃d,j=i+1+d:=⟨j - i - 1,by omega⟩
  clear hij
  induction d with
  | zero=>exact h3 i hj
  | succ d ih=>exact less_tr _ _ _ (ih (by omega)) (h3 (i+1+d) (by omega))
 ·rw[List.pairwise_iff_getElem]
  intro i j hi hj hij e
  have:=h2 j hj
  rw[List.any_eq_false] at this
  refine this l[i] ?_ (by simpa using e)
  rw[List.mem_iff_getElem]
  exact⟨i,by rw[List.length_take];omega,List.getElem_take⟩
theorem any_vals (L:List LockC) (j:Nat) (t:Int):((L.take j).any fun x=>decide (x.token=t))=(((vals L).take j).any fun x=>decide (x.token=t)):=by
 rw[<-vals_take]
 unfold vals
 rw[List.any_map]
 rfl
set_option maxHeartbeats 8000000 in
theorem LckRight_any (v:Value) (L:List LockC) (w:World) (h:RdK w v L) (hn: ∀x∈L,x.name.length<=maxLen):Calls Tryz.prog 48 #[v] w (SaysB (rightK (vals L)) w):=by
 have hm:=h.len
 have hcap: ∀a cap,v= .slice a L.length cap->L.length<=cap/\cap<=maxLen:=fun a cap e=>by
  obtain⟨a',cap',hv,q1,q2,_⟩:=h.row.ex
  rw[hv] at e
  cases e
  exact⟨q1,q2⟩
 obtain⟨a,cap,rfl⟩:=h.form
 obtain⟨hc1,hc2⟩:=hcap a cap rfl
 clear hcap
 unfold maxLen at hc2
 by_cases c6:L.length<=4
 case neg=>
  have e:rightK (vals L)=false:=by unfold rightK;rw[vals_length,decide_eq_false c6,Bool.false_and]
  rw[e]
  clear h e hn
  have d5:decide (4<(L.length:Int))=true:=by simp;omega
  generalize L.length=N at*
  go_enter Tryz.func48,Tryz.ntmps48
  go_wp2
  go_ret
  exact⟨rfl,Below.refl _ _⟩
 have d5:decide (4<(L.length:Int))=false:=by simp;omega
 have HA:=hid (fun i hi=>rdk_at h.row i hi)
 have HLI:Hid (∀i (hi:i<L.length) (w':World),Below w.heap.size w w'->Calls Tryz.prog 94 #[lockVal L[i]] w' (SaysB (oneK L[i].val) w')):=hid fun i hi w' hb=>isRightK_any _ w' ((h.line _ (List.getElem_mem hi)).later hb)
 have HTK:Hid (∀i,i<=L.length-> ∀(w':World),Below w.heap.size w w'-> ∀t,Calls Tryz.prog 95 #[.slice a i cap,.int .i64 t] w' (SaysB (((vals L).take i).any fun x=>decide (x.token=t)) w')):=hid fun i hi w' hb t=>by
  rw[<-any_vals]
  exact hasTokenK_any _ (L.take i) t w' ((h.row.take i hi).later hb)
 have W1:=hid (fun j hj=>wrongK_one (l:=vals L) (j:=j) (hj:=hj))
 have W2:=hid (fun j hj=>wrongK_tok (l:=vals L) (j:=j) (hj:=hj))
 have W3:=hid (fun j hj=>wrongK_up (l:=vals L) (j:=j) (hj:=hj))
 have HR:=hid (rightK_of (vals L) (by rw[vals_length];exact c6))
 have HVG:Hid (∀i (h:i<L.length) (h':i<(vals L).length),(vals L)[i]=L[i].val):=hid (vals_get L)
 have HVL:=hid (vals_length L)
 clear h hn
 generalize vals L=V at*
 obtain⟨N,hL⟩: ∃N,L.length=N:=⟨_,rfl⟩
 have HLL:=hid hL
 rw[hL] at hm c6 d5 HTK hc1 HVL ⊢
 clear hL
 go_enter Tryz.func48,Tryz.ntmps48
 go_wp2
 go_loopw [10] (fun i wr=> ∃j:Nat,j<=N/\i= .int .i64 j/\Hid (Below w.heap.size w wr)/\Hid (∀q (hq:q<V.length),q<j->oneK V[q]=true/\((V.take q).any fun x=>decide (x.token=V[q].token))=false/\ ∀p (hp:p+1=q),Op.bytesLess (V[p]'(by omega)).name V[q].name =true)) (fun i _=>N - (intOf i).toNat)
 case atStart=>exact⟨0,by omega,rfl,hid (Below.refl _ _),hid (fun q hq h=>absurd h (Nat.not_lt_zero _))⟩
 case round=>
  obtain⟨j,hj,rfl,HB,HG⟩:=hrel
  by_cases hlt:j<N
  ·have hjl:j<L.length:=by rw[HLL.out];exact hlt
   have hjv:j<V.length:=by rw[HVL.out];exact hlt
   have HJ:=hid hjv
   obtain⟨b,o,rfl,hc⟩:=HA.out j hjl
   obtain⟨q0,q1,q2,q3⟩:=hc _ HB.out
   have HC:Hid (∀i (hi:i<V.length) (w':World),Below w.heap.size w w'->w'.cell? ⟨b,o+i*4,none⟩=some (.string (bstr V[i].name))):=hid fun i hi w' hb=>by
    have hi':i<L.length:=by rw[HLL.out,<-HVL.out];exact hi
    obtain⟨b',o',e,hc'⟩:=HA.out i hi'
    cases e
    have:=(hc' w' hb).1
    rw[HVG.out i hi' hi]
    exact this
   have K1:=W1.out j hjv
   have K2:=W2.out j hjv
   have HN:oneK (V[j]'hjv)=true->((V.take j).any fun x=>decide (x.token=(V[j]'hjv).token))=false->(∀p (hp:p+1=j) (hpl:p<V.length),Op.bytesLess V[p].name (V[j]'hjv).name =true)-> ∀q (hq:q<V.length),q<j+1->oneK V[q]=true/\((V.take q).any fun x=>decide (x.token=V[q].token))=false/\ ∀p (hp:p+1=q),Op.bytesLess (V[p]'(by omega)).name V[q].name =true:=fun a1 a2 a3 q hq hqj=>by
    by_cases e:q=j
    ·subst e;exact⟨a1,a2,fun p hp=>a3 p hp (by omega)⟩
    ·exact HG.out q hq (by omega)
   have K3: ∀p (hp:p+1=j) (hpl:p<V.length),Op.bytesLess V[p].name (V[j]'hjv).name =false->rightK V=false:=fun p hp _ hle=>by
    subst hp
    exact W3.out p hjv hle
   have KI:=fun w' hb=>HLI.out j hjl w' hb
   have KT:=fun w' hb=>HTK.out j hj w' hb
   rw[HVG.out j hjl hjv] at K1 K2 HN K3
   clear hc W1 W2 W3 HLI HTK HA HG
   generalize L[j]=x at q0 q1 q2 q3 K1 K2 K3 HN KI
   clear hjl hjv
   obtain⟨xn,xh,xt,xl,xa,xc⟩:=x
   unfold lockVal LockC.lv at KI
   unfold LockC.lv at q3
   unfold LockC.val at K1 K2 K3 HN KI
   dsimp only at q0 q1 q2 q3 K1 K2 K3 HN KI
   have KT:=fun w' hb=>KT w' hb xt
   obtain⟨WR,hWR⟩: ∃WR,WR=wr.alloc (.cells #[.string (bstr xn),.int .i64 xh,.int .i64 xt,.slice xa xl.length xc] 60):=⟨_,rfl⟩
   have HB1:Hid (Below w.heap.size w WR):=hid (by rw[hWR];exact step HB.out (newAlloc _ _))
   obtain⟨z0,z1,z2,z3⟩:=box4 (Below.refl _ (wr.alloc (.cells #[.string (bstr xn),.int .i64 xh,.int .i64 xt,.slice xa xl.length xc] 60)))
   rw[<-hWR] at z0 z1 z2 z3
   have HWW:=hid hWR
   clear hWR
   generalize xl.length=XN at*
   have k0:=cell_regrown z0
   have k1:=cell_regrown z1
   have k2:=cell_regrown z2
   have k3:=cell_regrown z3
   have D1:=hid (fun d os=>Calls.regrown_of (w:=WR) (d:=d) (os:=os) (KI _ (step HB1.out (below_regrown WR d os))))
   have D2:=hid (fun d os=>Calls.regrown_of (w:=WR) (d:=d) (os:=os) (KT _ (step HB1.out (below_regrown WR d os))))
   have f1:(0:Int)<=(j:Int):=by omega
   have f2:(j:Int)<(N:Int):=by omega
   have f3:(j:Int)<=(cap:Int):=by omega
   clear KI KT
   have mixed:Tryz.prog.follows Departure.mixedOrders=true:=by kernel_rfl
   cases n1:oneK ⟨xn,xh,xt,xl⟩
   case false=>
    have HE:=hid (K1 n1)
    rw[n1] at D1
    clear n1 HN K1 K2 K3 HC
    go_upto_region 6 with fail
    rw[<-HWW.out]
    clear HWW q0 q1 q2 q3
    refine wp_region_quiet_below (by kernel_rfl) (by kernel_rfl) ?_
    repeat (go_big_quiet_step (first | exact D1.out _ _ | exact D2.out _ _))
    refine wpQuiet_nil ?_
    intro _ hw'
    obtain⟨⟨dq,osq⟩,hw''⟩:=hw'
    subst hw''
    go_wp2
    go_ret
    exact⟨by rw[HE.out];rfl,step HB1.out (below_regrown WR dq osq)⟩
   rw[n1] at D1
   cases n2:((V.take j).any fun x=>decide (x.token=xt))
   case true=>
    have HE:=hid (K2 n2)
    rw[n2] at D2
    clear n1 n2 HN K1 K2 K3 HC
    go_upto_region 6 with fail
    rw[<-HWW.out]
    clear HWW q0 q1 q2 q3
    refine wp_region_quiet_below (by kernel_rfl) (by kernel_rfl) ?_
    repeat (go_big_quiet_step (first | exact D1.out _ _ | exact D2.out _ _))
    refine wpQuiet_nil ?_
    intro _ hw'
    obtain⟨⟨dq,osq⟩,hw''⟩:=hw'
    subst hw''
    go_wp2
    go_ret
    exact⟨by rw[HE.out];rfl,step HB1.out (below_regrown WR dq osq)⟩
   rw[n2] at D2
   have HN2:=hid (HN n1 n2)
   have HK3:=hid K3
   clear n1 n2 HN K1 K2 K3
   match j,hj,hlt,f1,f2,f3,q0,q1,q2,q3,HK3,HN2,HJ,D1,D2,HWW with
   | 0,hj,hlt,f1,f2,f3,q0,q1,q2,q3,HK3,HN2,HJ,D1,D2,HWW=>
    have HN3:=hid (HN2.out (fun p hp _=>by omega))
    clear HN2 HK3 HC
    simp only[Nat.zero_mul,Nat.add_zero] at q0 q1 q2 q3
    go_upto_region 6 with fail
    rw[<-HWW.out]
    clear HWW q0 q1 q2 q3
    refine wp_region_quiet_below (by kernel_rfl) (by kernel_rfl) ?_
    repeat (go_big_quiet_step (first | exact D1.out _ _ | exact D2.out _ _))
    refine wpQuiet_nil ?_
    intro _ hw'
    obtain⟨⟨dq,osq⟩,hw''⟩:=hw'
    subst hw''
    go_upto_region 8 with fail
    obtain⟨W9,hW9⟩: ∃W9,W9=Go.Sort.grow (redrawn WR dq) osq:=⟨_,rfl⟩
    have HB9:Hid (Below w.heap.size w W9):=hid (by rw[hW9];exact step HB1.out (below_regrown WR dq osq))
    have y0:=k0 dq osq
    rw[<-hW9] at y0 ⊢
    clear hW9 k0 k1 k2 k3 z0 z1 z2 z3 D1 D2
    go_quiet (fail)
    go_wp2
    go_roundw
    case rel=>exact⟨1,by omega,by go_num,hid (below_drewN6 HB9.out nq),HN3⟩
    case measure=>simp [intOf];omega
   | p+1,hj,hlt,f1,f2,f3,q0,q1,q2,q3,HK3,HN2,HJ,D1,D2,HWW=>
    have hpl:p<V.length:=by have:=HJ.out;omega
    have K4:=HK3.out p rfl hpl
    have HC2:=hid (HC.out p hpl)
    have HN3:Op.bytesLess (V[p]'hpl).name xn=true->_:=fun q=>HN2.out (fun r hr _=>by cases hr;exact q)
    clear HN2 HK3 HC
    generalize (V[p]'hpl).name =pn at K4 HC2 HN3
    have hE:=str_leq xn pn
    have g1:IntKind.i64.wrap (((p+1:Nat):Int) - 1)=(p:Int):=by rw[IntKind.wrap_i64];omega
    have g2:(0:Int)<=(p:Int):=by omega
    have g3:(p:Int)<(N:Int):=by omega
    have g4:(0:Int)<((p+1:Nat):Int):=by omega
    cases e1:Op.bytesLess pn xn with
    | false=>
     rw[e1] at hE
     have HE:=hid (K4 e1)
     clear e1 K4 HN3
     go_upto_region 6 with fail
     rw[<-HWW.out]
     clear HWW q0 q1 q2 q3
     refine wp_region_quiet_below (by kernel_rfl) (by kernel_rfl) ?_
     repeat (go_big_quiet_step (first | exact D1.out _ _ | exact D2.out _ _))
     refine wpQuiet_nil ?_
     intro _ hw'
     obtain⟨⟨dq,osq⟩,hw''⟩:=hw'
     subst hw''
     go_upto_region 8 with fail
     obtain⟨W9,hW9⟩: ∃W9,W9=Go.Sort.grow (redrawn WR dq) osq:=⟨_,rfl⟩
     have HB9:Hid (Below w.heap.size w W9):=hid (by rw[hW9];exact step HB1.out (below_regrown WR dq osq))
     have y0:=k0 dq osq
     rw[<-hW9] at y0 ⊢
     clear hW9 k0 k1 k2 k3 z0 z1 z2 z3 D1 D2
     have y1:=HC2.out W9 HB9.out
     go_quiet (fail)
     go_wp2
     go_ret
     exact⟨by rw[HE.out];rfl,below_drewN6 HB9.out nq⟩
    | true=>
     rw[e1] at hE
     have HN4:=hid (HN3 e1)
     clear e1 K4 HN3
     go_upto_region 6 with fail
     rw[<-HWW.out]
     clear HWW q0 q1 q2 q3
     refine wp_region_quiet_below (by kernel_rfl) (by kernel_rfl) ?_
     repeat (go_big_quiet_step (first | exact D1.out _ _ | exact D2.out _ _))
     refine wpQuiet_nil ?_
     intro _ hw'
     obtain⟨⟨dq,osq⟩,hw''⟩:=hw'
     subst hw''
     go_upto_region 8 with fail
     obtain⟨W9,hW9⟩: ∃W9,W9=Go.Sort.grow (redrawn WR dq) osq:=⟨_,rfl⟩
     have HB9:Hid (Below w.heap.size w W9):=hid (by rw[hW9];exact step HB1.out (below_regrown WR dq osq))
     have y0:=k0 dq osq
     rw[<-hW9] at y0 ⊢
     clear hW9 k0 k1 k2 k3 z0 z1 z2 z3 D1 D2
     have y1:=HC2.out W9 HB9.out
     go_quiet (fail)
     go_wp2
     go_roundw
     case rel=>exact⟨p+2,by omega,by go_num,hid (below_drewN6 HB9.out nq),HN4⟩
     case measure=>simp [intOf];omega
  ·obtain rfl:j=N:=by omega
   have hr:=HR.out (fun q hq=>(HG.out q hq (by rw[<-HVL.out];exact hq)).1) (fun q hq=>(HG.out q hq (by rw[<-HVL.out];exact hq)).2.1) (fun q hq=>(HG.out (q+1) hq (by rw[<-HVL.out];exact hq)).2.2 q rfl)
   have HE:=hid hr
   clear hr W1 W2 W3
   go_wp2
   go_ret
   exact⟨by rw[HE.out];rfl,HB.out⟩
end Cm
end Go.Proofs.YtclcgkpfcogcdaaGreat

/- Contracts: package session's Right, Open. -/
set_option linter.unusedVariables false
set_option maxRecDepth 8000
set_option linter.unusedSimpArgs false
namespace Go.Proofs.YtclcgkpfcogcdaaGreat
open Lib (hid)
open Go.RowKit Go.Shelf
namespace Cm

theorem right_one {l:List SesV} (h:rightS l=true): ∀s∈l,oneS s=true:=((rightS_iff l).1 h).2.one
theorem wrong_one {l:List SesV} {j:Nat} {hj:j<l.length} (h:oneS l[j]=false):rightS l=false:=by
 cases q:rightS l
 ·rfl
 ·rw[right_one q l[j] (List.getElem_mem hj)] at h
  cases h
theorem wrong_num {l:List SesV} {j:Nat} {hj:j<l.length} (h:takenS l l[j].client l[j].num =true):rightS l=false:=by
 cases q:rightS l
 ·rfl
 ·obtain⟨_,hr⟩:=(rightS_iff l).1 q
  unfold takenS at h
  rw[List.any_eq_true] at h
  obtain⟨s,hs,hp⟩:=h
  obtain⟨i,hi,rfl⟩:=List.mem_iff_getElem.1 hs
  rw[Bool.and_eq_true,decide_eq_true_eq] at hp
  have h2:l[i].client ≠l[j].client :=by simpa using hp.2
  have hn:=List.pairwise_iff_getElem.1 hr.num
  rcases Nat.lt_trichotomy i j with g | g | g
  ·exact absurd hp.1 (hn i j hi hj g)
  ·subst g;exact absurd rfl h2
  ·exact absurd hp.1.symm (hn j i hj hi g)
theorem wrong_up {l:List SesV} {j:Nat} {hj:j+1<l.length} (h:l[j+1].client <=(l[j]'(by omega)).client):rightS l=false:=by
 cases q:rightS l
 ·rfl
 ·obtain⟨_,hr⟩:=(rightS_iff l).1 q
  have:=List.pairwise_iff_getElem.1 hr.up j (j+1) (by omega) hj (by omega)
  omega
theorem up_of (l:List SesV) (h: ∀j (hj:j+1<l.length),(l[j]'(by omega)).client <l[j+1].client):l.Pairwise fun a b=>a.client<b.client:=by
 rw[List.pairwise_iff_getElem]
 intro i j hi hj hij
 obtain⟨d,rfl⟩: ∃d,j=i+1+d:=⟨j - i - 1,by omega⟩
 clear hij
 induction d with
 | zero=>exact h i hj
 | succ d ih=>
  have:=ih (by omega)
  have h2:=h (i+1+d) (by omega)
  exact Int.lt_trans this h2
theorem right_of (l:List SesV) (h5:l.length<=5) (h1: ∀j (hj:j<l.length),oneS l[j]=true) (h2: ∀j (hj:j<l.length),takenS l l[j].client l[j].num =false) (h3: ∀j (hj:j+1<l.length),(l[j]'(by omega)).client <l[j+1].client):rightS l=true:=by
 have hup:=up_of l h3
 refine(rightS_iff l).2 ⟨h5,fun s hs=>?_,hup,?_⟩
 ·obtain⟨i,hi,rfl⟩:=List.mem_iff_getElem.1 hs
  exact h1 i hi
 ·rw[List.pairwise_iff_getElem]
  intro i j hi hj hij e
  have u:=List.pairwise_iff_getElem.1 hup i j hi hj hij
  have t:=(takenS_none _ _ _).1 (h2 j hj) l[i] (List.getElem_mem hi) e
  omega
set_option maxHeartbeats 4000000 in
theorem SesRight_any (v:Value) (l:List SesV) (w:World) (h:RdS w v l):Calls Tryz.prog 47 #[v] w (SaysB (rightS l) w):=by
 have hm:=h.len
 have HT:=hid (fun c n w' (hb:Below w.heap.size w w')=>numOf_any v l c n w' (h.later hb))
 obtain⟨a,cap,rfl⟩:=h.form
 by_cases c6:l.length<=5
 case neg=>
  have e:rightS l=false:=by unfold rightS;rw[decide_eq_false c6,Bool.false_and]
  rw[e]
  clear h HT e
  have d5:decide (5<(l.length:Int))=true:=by simp;omega
  generalize l.length=L at*
  go_enter Tryz.func47,Tryz.ntmps47
  go_wp2
  go_ret
  exact⟨rfl,Below.refl _ _⟩
 have d5:decide (5<(l.length:Int))=false:=by simp;omega
 have HA:=hid (fun i hi=>rds_at h i hi)
 have W1:=hid (fun j hj=>wrong_one (l:=l) (j:=j) (hj:=hj))
 have W2:=hid (fun j hj=>wrong_num (l:=l) (j:=j) (hj:=hj))
 have W3:=hid (fun j hj=>wrong_up (l:=l) (j:=j) (hj:=hj))
 have HR:=hid (right_of l c6)
 clear h
 obtain⟨L,hL⟩: ∃L,l.length=L:=⟨_,rfl⟩
 have HLL:=hid hL
 rw[hL] at hm c6 d5 HT ⊢
 clear hL
 go_enter Tryz.func47,Tryz.ntmps47
 go_wp2
 go_loopw [10] (fun i wr=> ∃j:Nat,j<=L/\i= .int .i64 j/\Hid (Below w.heap.size w wr)/\Hid (∀q (hq:q<l.length),q<j->oneS l[q]=true/\takenS l l[q].client l[q].num =false/\ ∀p (hp:p+1=q),(l[p]'(by omega)).client <l[q].client)) (fun i _=>L - (intOf i).toNat)
 case atStart=>exact⟨0,by omega,rfl,hid (Below.refl _ _),hid (fun q hq h=>absurd h (Nat.not_lt_zero _))⟩
 case round=>
  obtain⟨j,hj,rfl,HB,HG⟩:=hrel
  by_cases hlt:j<L
  ·have hjl:j<l.length:=by rw[HLL.out];exact hlt
   have HJ:=hid hjl
   clear hjl
   obtain⟨b,o,rfl,hc⟩:=HA.out j HJ.out
   obtain⟨q0,q1,q2⟩:=hc _ HB.out
   have HC:Hid (∀i (hi:i<l.length) (w':World),Below w.heap.size w w'->w'.cell? ⟨b,o+i*3,none⟩=some (.int .i64 l[i].client)):=fun i hi w' hb=>by
    obtain⟨b',o',e,hc'⟩:=HA.out i hi
    cases e
    exact(hc' w' hb).1
   clear hc
   have K1:=hid (W1.out j HJ.out)
   have K2:=hid (W2.out j HJ.out)
   have HN:Hid (oneS (l[j]'HJ.out)=true->takenS l (l[j]'HJ.out).client (l[j]'HJ.out).num =false->(∀p (hp:p+1=j) (hpl:p<l.length),l[p].client <(l[j]'HJ.out).client)-> ∀q (hq:q<l.length),q<j+1->oneS l[q]=true/\takenS l l[q].client l[q].num =false/\ ∀p (hp:p+1=q),(l[p]'(by omega)).client <l[q].client):=hid (fun a1 a2 a3 q hq hqj=>by
    by_cases e:q=j
    ·subst e;exact⟨a1,a2,fun p hp=>a3 p hp (by omega)⟩
    ·exact HG.out q hq (by omega))
   have K3:Hid (∀p (hp:p+1=j) (hpl:p<l.length),(l[j]'HJ.out).client <=l[p].client ->rightS l=false):=hid (fun p hp _ hle=>by
    subst hp
    exact W3.out p HJ.out hle)
   clear W1 W2 W3
   generalize l[j]'HJ.out=g at q0 q1 q2 K1 K2 K3 HN
   obtain⟨gc,gn,gr⟩:=g
   dsimp only at q0 q1 q2 K2 K3 HN
   have HB1:=hid (stepAlloc HB.out (.cells #[.int .i64 gc,.int .i64 gn,.int .i64 gr] 46))
   obtain⟨y0,y1,y2⟩:=box3 (Below.refl _ (wr.alloc (.cells #[.int .i64 gc,.int .i64 gn,.int .i64 gr] 46)))
   have CR:Hid (∀w,Calls Tryz.prog 92 #[.agg #[.int .i64 gc,.int .i64 gn,.int .i64 gr]] w (SaysB (oneS ⟨gc,gn,gr⟩) w)):=fun w=>isRight_any ⟨gc,gn,gr⟩ w
   cases n1:oneS ⟨gc,gn,gr⟩
   case false=>
    have HE:=hid (K1.out n1)
    rw[n1] at CR
    clear n1 HN K1 K2 K3
    go_wp2_with (go_at_call 92;refine(CR.out _).mono ?_;rintro e w2 ⟨rfl,hb2⟩)
    go_ret
    exact⟨by rw[HE.out];rfl,step HB1.out hb2⟩
   rw[n1] at CR
   cases n2:takenS l gc gn
   case true=>
    have HE:=hid (K2.out n2)
    have HT2:=hid (HT.out gc gn)
    rw[n2] at HT2
    clear n1 n2 HN K1 K2 K3
    go_wp2_with (first
     | (go_at_call 92;refine(CR.out _).mono ?_;rintro e w2 ⟨rfl,hb2⟩;have z0:=(hb2.cell (lt_of_cell y0)).trans y0;have z1:=(hb2.cell (lt_of_cell y1)).trans y1;have HB2:=hid (step HB1.out hb2))
     | (go_at_call 93;refine(HT2.out _ HB2.out).mono ?_;rintro e w3 ⟨rfl,hb3⟩))
    go_ret
    exact⟨by rw[HE.out];rfl,step HB2.out hb3⟩
   have HT2:=hid (HT.out gc gn)
   rw[n2] at HT2
   have HN2:=hid (HN.out n1 n2)
   clear n1 n2 HN K1 K2
   match j,hj,hlt,q0,q1,q2,K3,HN2,HJ with
   | 0,hj,hlt,q0,q1,q2,K3,HN2,HJ=>
    have HN3:=hid (HN2.out (fun p hp _=>by omega))
    clear HN2 K3
    simp only[Nat.zero_mul,Nat.add_zero] at q0 q1 q2
    go_upto_region 8 with (first
     | (go_at_call 92;refine(CR.out _).mono ?_;rintro e w2 ⟨rfl,hb2⟩;have z0:=(hb2.cell (lt_of_cell y0)).trans y0;have z1:=(hb2.cell (lt_of_cell y1)).trans y1;have HB2:=hid (step HB1.out hb2))
     | (go_at_call 93;refine(HT2.out _ HB2.out).mono ?_;rintro e w3 ⟨rfl,hb3⟩))
    have x0:=(hb3.cell (lt_of_cell z0)).trans z0
    have HB3:=hid (step HB2.out hb3)
    clear hb3 hb2 z0 z1 y0 y1 y2 q0 q1 q2 CR HT2 HT
    go_region
    go_wp2
    go_roundw
    case rel=>exact⟨1,by omega,by go_num,hid HB3.out.drew,HN3⟩
    case measure=>simp [intOf];omega
   | p+1,hj,hlt,q0,q1,q2,K3,HN2,HJ=>
    have hpl:p<l.length:=by have:=HJ.out;omega
    have K4:=hid (K3.out p rfl hpl)
    have HC2:=hid (HC.out p hpl)
    have HN3:Hid ((l[p]'hpl).client <gc->_):=hid (fun q=>HN2.out (fun r hr _=>by cases hr;exact q))
    clear HN2 K3 HC
    generalize (l[p]'hpl).client =pc at K4 HC2 HN3
    have g1:IntKind.i64.wrap (((p+1:Nat):Int) - 1)=(p:Int):=by rw[IntKind.wrap_i64];omega
    have g2:(0:Int)<=(p:Int):=by omega
    have g3:(p:Int)<(L:Int):=by omega
    have g4:(0:Int)<((p+1:Nat):Int):=by omega
    by_cases e1:gc<=pc
    ·have d1:decide (gc<=pc)=true:=decide_eq_true e1
     have HE:=hid (K4.out e1)
     clear e1 K4 HN3
     go_upto_region 8 with (first
      | (go_at_call 92;refine(CR.out _).mono ?_;rintro e w2 ⟨rfl,hb2⟩;have z0:=(hb2.cell (lt_of_cell y0)).trans y0;have z1:=(hb2.cell (lt_of_cell y1)).trans y1;have HB2:=hid (step HB1.out hb2))
      | (go_at_call 93;refine(HT2.out _ HB2.out).mono ?_;rintro e w3 ⟨rfl,hb3⟩))
     have x0:=(hb3.cell (lt_of_cell z0)).trans z0
     have HB3:=hid (step HB2.out hb3)
     have x1:=HC2.out _ HB3.out
     clear hb3 hb2 z0 z1 y0 y1 y2 q0 q1 q2 CR HT2 HT HC2
     go_region
     go_wp2
     go_ret
     exact⟨by rw[HE.out];rfl,HB3.out.drew⟩
    ·have d1:decide (gc<=pc)=false:=decide_eq_false e1
     have HN4:=hid (HN3.out (by omega))
     clear e1 K4 HN3
     go_upto_region 8 with (first
      | (go_at_call 92;refine(CR.out _).mono ?_;rintro e w2 ⟨rfl,hb2⟩;have z0:=(hb2.cell (lt_of_cell y0)).trans y0;have z1:=(hb2.cell (lt_of_cell y1)).trans y1;have HB2:=hid (step HB1.out hb2))
      | (go_at_call 93;refine(HT2.out _ HB2.out).mono ?_;rintro e w3 ⟨rfl,hb3⟩))
     have x0:=(hb3.cell (lt_of_cell z0)).trans z0
     have HB3:=hid (step HB2.out hb3)
     have x1:=HC2.out _ HB3.out
     clear hb3 hb2 z0 z1 y0 y1 y2 q0 q1 q2 CR HT2 HT HC2
     go_region
     go_wp2
     go_roundw
     case rel=>exact⟨p+2,by omega,by go_num,hid HB3.out.drew,HN4⟩
     case measure=>simp [intOf];omega
  ·obtain rfl:j=L:=by omega
   have hr:=HR.out (fun q hq=>(HG.out q hq (by rw[<-HLL.out];exact hq)).1) (fun q hq=>(HG.out q hq (by rw[<-HLL.out];exact hq)).2.1) (fun q hq=>(HG.out (q+1) hq (by rw[<-HLL.out];exact hq)).2.2 q rfl)
   have HE:=hid hr
   clear hr W1 W2 W3
   go_wp2
   go_ret
   exact⟨by rw[HE.out];rfl,HB.out⟩
end Cm
end Go.Proofs.YtclcgkpfcogcdaaGreat
