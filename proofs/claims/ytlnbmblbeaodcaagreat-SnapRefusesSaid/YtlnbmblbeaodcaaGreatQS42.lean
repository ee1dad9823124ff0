/- Texts laid together by program. -/
import Derived.Test.YtlnbmblbeaodcaaGreatQS23
/- Contract: padlockref6's Keep, and of what each told memo is made (made from XMemC, XMemD by tools/gen_memp.py). -/
set_option linter.unusedVariables false
set_option maxRecDepth 8000
set_option linter.unusedSimpArgs false
namespace Go.Proofs.YtlnbmblbeaodcaaGreat
open Lib (hid)
open Go.RowKit
namespace Cm

def GetsKP (P:MemC->Prop) (r:List AnsV) (w:World) (e:Ending) (w':World):Prop:=
 ∃a c M,e= .returned (.slice a (List.length M) c)/\valsM M=r/\w'.ownsRow w.heap.size 76 6 (.slice a M.length c) M.length (flatX cellsM M)/\(∀x∈M,P x)/\Below w.heap.size w w'
set_option maxHeartbeats 4000000 in
theorem RefKeepP_no (P:MemC->Prop) (v u:Value) (L:List MemC) (A:AnsV) (w:World) (h:RdM w v L) (h5:L.length<=100000) (hu:RdH w u A.rep.held) (hP: ∀x∈L,P x) (hno:mayA A=false\/freshM (valsM L) A.client A.seq≠1):
  Calls Tryz.prog 60 #[v,ansVal A u] w (GetsKP P (valsM L) w):=by
 obtain⟨ua,uc,rfl, -⟩:=hu.ex
 obtain⟨⟨ac,sq,⟨ak,an,ad,al⟩⟩,hA⟩: ∃A',A'=A:=⟨_,rfl⟩
 subst hA
 have KM:=RefMayAnswer_any ⟨ac,sq,⟨ak,an,ad,al⟩⟩ (.slice ua al.length uc)
 unfold ansVal at KM ⊢
 dsimp only at hu hno KM ⊢
 have hb1:=newAlloc w (.cells #[.int .i64 ac,.int .i64 sq,.int .i64 ak,.int .i64 an,.int .i64 ad,.slice ua al.length uc] 94)
 obtain⟨c0,c1,c2,c3,c4,c5⟩:=box6 (Below.refl _ (w.alloc (.cells #[.int .i64 ac,.int .i64 sq,.int .i64 ak,.int .i64 an,.int .i64 ad,.slice ua al.length uc] 94)))
 obtain⟨W1,hW1⟩: ∃W1,W1=w.alloc (.cells #[.int .i64 ac,.int .i64 sq,.int .i64 ak,.int .i64 an,.int .i64 ad,.slice ua al.length uc] 94):=⟨_,rfl⟩
 rw[<-hW1] at hb1 c0 c1 c2 c3 c4 c5
 have HB:=hid hb1
 have HQ:Hid (∀w',Below W1.heap.size W1 w'->w'.cell? ⟨w.heap.size,0,none⟩=some (.int .i64 ac)/\w'.cell? ⟨w.heap.size,1,none⟩=some (.int .i64 sq)):=hid fun w' hb=>⟨(hb.cell (lt_of_cell c0)).trans c0,(hb.cell (lt_of_cell c1)).trans c1⟩
 have KM:=hid (KM W1 (hu.later hb1))
 have KF:Hid (∀W,Below W1.heap.size W1 W->Calls Tryz.prog 57 #[v,.int .i64 ac,.int .i64 sq] W (SaysI (freshM (valsM L) ac sq) W)):=hid fun W hb=>RefFresh_any v L ac sq W (h.later (step hb1 hb))
 have HR:Hid (∀W,Below w.heap.size w W->RdM W v L):=hid fun W hb=>h.later hb
 obtain⟨a,cap,rfl⟩:=h.form
 obtain⟨i1,hi,hz0,hz1,hz2⟩:=info_parts infoM
 have HFIN:Hid (∀(W W':World) (v5:Value),Below w.heap.size w W->W'.ownsRow W.heap.size 76 6 v5 L.length (flatX cellsM L)->Below W.heap.size W W'->GetsKP P (valsM L) w (.returned v5) W'):=hid fun W W' v5 hb ho hb2=>by
  obtain⟨a5,c5,rfl⟩:=Rw.own_form ho
  exact⟨a5,c5,L,rfl,rfl,own_lowerX ho hb.size,hP,step hb hb2⟩
 clear h hu hb1
 obtain⟨N,hN⟩: ∃N,L.length=N:=⟨_,rfl⟩
 have HNN:=hid hN
 rw[hN] at KF HR h5 ⊢
 clear hN
 generalize al.length=AN at*
 cases n1:mayA ⟨ac,sq,⟨ak,an,ad,al⟩⟩ with
 | false=>
  rw[n1] at KM
  clear n1 hno KF HQ
  go_enter Tryz.func60,Tryz.ntmps60
  go_upto_region 1 with fail
  rw[<-hW1]
  clear hW1
  go_wp2_with (first
   | (go_at_call 102;refine KM.out.mono ?_;rintro e w2 ⟨rfl,hb2⟩;have HB2:=hid (step HB.out hb2);have HB2N:=hid (stepAlloc HB2.out (.cells #[] 76));clear hb2)
   | (at_builtin;refine wpList_append_rdx cellsM_length (by omega) cellsM_one rfl (.tmp 21) (.tmp 22) 24 rfl w2.heap.size 76 i1 _ 64 Tryz.underlying24 hi hz0 hz1 hz2 rfl _ 0 [] rfl (own_new w2 _ 6 _ _ rfl (Nat.le_refl _)) _ L rfl ((HR.out _ HB2N.out).row) (by rw[HNN.out];unfold maxLen;omega) (by rw[HNN.out];omega) (newAlloc w2 (.cells #[] 76)).size ?_;intro v5 w5 hown5 hgrow5;have HB5:Hid (Below w2.heap.size w2 w5):=hid ((newAlloc w2 (.cells #[] 76)).grown hgrow5 (newAlloc w2 (.cells #[] 76)).size (fun k hk=>by cases hk;exact Nat.le_refl _));have HO5:Hid (w5.ownsRow w2.heap.size 76 6 v5 L.length (flatX cellsM L)):=hid (by simpa using hown5);clear hown5 hgrow5))
  go_ret
  exact HFIN.out _ _ _ HB2.out HO5.out HB5.out
 | true=>
  rw[n1] at KM
  have hne:freshM (valsM L) ac sq≠1:=by
   rcases hno with q | q
   ·rw[n1] at q;cases q
   ·exact q
  have d1:(freshM (valsM L) ac sq != 1)=true:=by simpa using hne
  generalize freshM (valsM L) ac sq=fr at KF d1
  clear n1 hno hne
  go_enter Tryz.func60,Tryz.ntmps60
  go_upto_region 1 with fail
  rw[<-hW1]
  clear hW1
  go_wp2_with (first
   | (go_at_call 102;refine KM.out.mono ?_;rintro e w2 ⟨rfl,hb2⟩;obtain⟨y0,y1⟩:=HQ.out _ hb2;have HB1:=hid hb2;clear hb2)
   | (go_at_call 57;refine(KF.out _ HB1.out).mono ?_;rintro e w3 ⟨rfl,hb3⟩;have HB2:=hid (step HB.out (step HB1.out hb3));have HB2N:=hid (stepAlloc HB2.out (.cells #[] 76));clear hb3)
   | (at_builtin;refine wpList_append_rdx cellsM_length (by omega) cellsM_one rfl (.tmp 21) (.tmp 22) 24 rfl w3.heap.size 76 i1 _ 64 Tryz.underlying24 hi hz0 hz1 hz2 rfl _ 0 [] rfl (own_new w3 _ 6 _ _ rfl (Nat.le_refl _)) _ L rfl ((HR.out _ HB2N.out).row) (by rw[HNN.out];unfold maxLen;omega) (by rw[HNN.out];omega) (newAlloc w3 (.cells #[] 76)).size ?_;intro v5 w5 hown5 hgrow5;have HB5:Hid (Below w3.heap.size w3 w5):=hid ((newAlloc w3 (.cells #[] 76)).grown hgrow5 (newAlloc w3 (.cells #[] 76)).size (fun k hk=>by cases hk;exact Nat.le_refl _));have HO5:Hid (w5.ownsRow w3.heap.size 76 6 v5 L.length (flatX cellsM L)):=hid (by simpa using hown5);clear hown5 hgrow5))
  go_ret
  exact HFIN.out _ _ _ HB2.out HO5.out HB5.out
set_option maxHeartbeats 8000000 in
theorem RefKeepP_yes (P:MemC->Prop) (v u:Value) (L:List MemC) (A:AnsV) (w:World) (h:RdM w v L) (h5:L.length<=100000) (hu:RdH w u A.rep.held) (hP: ∀x∈L,P x) (hPy: ∀ua uc,u= .slice ua A.rep.held.length uc->P ⟨A,ua,uc⟩) (hr:Rm (valsM L)) (h1:mayA A=true) (h2:freshM (valsM L) A.client A.seq=1):
  Calls Tryz.prog 60 #[v,ansVal A u] w (GetsKP P (insM A (valsM L)) w):=by
 rw[<-goM_ins A _ hr.up]
 clear hr
 obtain⟨ua,uc,rfl, -⟩:=hu.ex
 obtain⟨y,hy⟩: ∃y:MemC,y=⟨A,ua,uc⟩:=⟨_,rfl⟩
 have HY:Hid (P y):=hid (by rw[hy];exact hPy ua uc rfl)
 have HYM:Hid (y.m=A):=hid (by rw[hy])
 have HYC:Hid (cellsM y= [.int .i64 A.client,.int .i64 A.seq,.int .i64 A.rep.code,.int .i64 A.rep.session,.int .i64 A.rep.ahead,.slice ua A.rep.held.length uc]):=hid (by rw[hy];rfl)
 clear hy
 have HD:Hid (∀put k (hk:k<L.length),goM A put ((valsM L).drop k)=if L[k].m.client =A.client then A::goM A true ((valsM L).drop (k+1)) else if (!put && decide (A.client<L[k].m.client))=true then A::L[k].m ::goM A true ((valsM L).drop (k+1)) else L[k].m ::goM A put ((valsM L).drop (k+1))):=hid fun put k hk=>by
  have:=goM_drop A put (valsM L) k (by rw[valsM_length];exact hk)
  rw[valsM_get L k hk] at this
  exact this
 have KM:=RefMayAnswer_any A (.slice ua A.rep.held.length uc)
 have KF0:=RefFresh_any v L A.client A.seq
 rw[h2] at KF0
 have HYI:Hid (∀M:List MemC,valsM (M++ [y])=valsM M++ [A]):=hid fun M=>by rw[valsM_append];show _++ [y.m]= _;rw[HYM.out]
 have HEND:Hid (∀put,goM A put ((valsM L).drop L.length)=if put then [] else [A]):=hid fun put=>by
  rw[List.drop_eq_nil_of_le (by rw[valsM_length];exact Nat.le_refl _)]
  rfl
 obtain⟨R,hR⟩: ∃R,goM A false (valsM L)=R:=⟨_,rfl⟩
 rw[hR]
 have HGO:=hid hR
 clear hR
 obtain⟨ac,sq,⟨ak,an,ad,al⟩⟩:=A
 unfold ansVal at KM ⊢
 dsimp only at hu KM KF0 HYC ⊢
 have hb1:=newAlloc w (.cells #[.int .i64 ac,.int .i64 sq,.int .i64 ak,.int .i64 an,.int .i64 ad,.slice ua al.length uc] 94)
 obtain⟨c0,c1,c2,c3,c4,c5⟩:=box6 (Below.refl _ (w.alloc (.cells #[.int .i64 ac,.int .i64 sq,.int .i64 ak,.int .i64 an,.int .i64 ad,.slice ua al.length uc] 94)))
 obtain⟨W1,hW1⟩: ∃W1,W1=w.alloc (.cells #[.int .i64 ac,.int .i64 sq,.int .i64 ak,.int .i64 an,.int .i64 ad,.slice ua al.length uc] 94):=⟨_,rfl⟩
 rw[<-hW1] at hb1 c0 c1 c2 c3 c4 c5
 have HB:=hid hb1
 have HQ:Hid (∀w',Below W1.heap.size W1 w'->w'.cell? ⟨w.heap.size,0,none⟩=some (.int .i64 ac)/\w'.cell? ⟨w.heap.size,1,none⟩=some (.int .i64 sq)/\w'.cell? ⟨w.heap.size,2,none⟩=some (.int .i64 ak)/\w'.cell? ⟨w.heap.size,3,none⟩=some (.int .i64 an)/\w'.cell? ⟨w.heap.size,4,none⟩=some (.int .i64 ad)/\w'.cell? ⟨w.heap.size,5,none⟩=some (.slice ua al.length uc)):=hid fun w' hb=>⟨(hb.cell (lt_of_cell c0)).trans c0,(hb.cell (lt_of_cell c1)).trans c1,(hb.cell (lt_of_cell c2)).trans c2,(hb.cell (lt_of_cell c3)).trans c3,(hb.cell (lt_of_cell c4)).trans c4,(hb.cell (lt_of_cell c5)).trans c5⟩
 have KM:=KM W1 (hu.later hb1)
 rw[h1] at KM
 have KM:=hid KM
 have KF:Hid (∀W,Below W1.heap.size W1 W->Calls Tryz.prog 57 #[v,.int .i64 ac,.int .i64 sq] W (SaysI 1 W)):=hid fun W hb=>KF0 W (h.later (step hb1 hb))
 clear KF0 h1 h2 hu
 have HHL:Hid (∀i (hi:i<L.length),P L[i]):=hid fun i hi=>hP _ (List.getElem_mem hi)
 obtain⟨a,cap,rfl⟩:=h.form
 have HA:=hid (fun i hi=>rdm_at h.row i hi)
 obtain⟨i1,hi,hz0,hz1,hz2⟩:=info_parts infoM
 clear h hb1
 obtain⟨N,hN⟩: ∃N,L.length=N:=⟨_,rfl⟩
 have HNN:=hid hN
 rw[hN] at KF h5 HEND ⊢
 clear hN
 generalize al.length=AN at*
 go_enter Tryz.func60,Tryz.ntmps60
 go_upto_region 1 with fail
 rw[<-hW1]
 clear hW1
 go_upto_region 3 with (first
  | (go_at_call 102;refine KM.out.mono ?_;rintro e w2 ⟨rfl,hb2⟩;obtain⟨y0,y1, -⟩:=HQ.out _ hb2;have HB1:=hid hb2;clear hb2)
  | (go_at_call 57;refine(KF.out _ HB1.out).mono ?_;rintro e w3 ⟨rfl,hb3⟩;have HB3:=hid (step HB1.out hb3);clear hb3))
 obtain⟨y0,y1,y2,y3,y4,y5⟩:=HQ.out _ HB3.out
 obtain⟨W4,hW4⟩: ∃W4,W4=w3.alloc (.cells #[.int .i64 ac,.int .i64 sq,.int .i64 ak,.int .i64 an,.int .i64 ad,.slice ua AN uc] 76):=⟨_,rfl⟩
 have HB4:Hid (Below W1.heap.size W1 W4):=hid (by rw[hW4];exact stepAlloc HB3.out _)
 have hz:=box6 (Below.refl _ (w3.alloc (.cells #[.int .i64 ac,.int .i64 sq,.int .i64 ak,.int .i64 an,.int .i64 ad,.slice ua AN uc] 76)))
 rw[<-hW4] at hz
 obtain⟨z0,z1,z2,z3,z4,z5⟩:=hz
 have HZ:Hid (∀w',Below W4.heap.size W4 w'->w'.cell? ⟨w.heap.size,0,none⟩=some (.int .i64 ac)/\w'.cell? ⟨w3.heap.size,0,none⟩=some (.int .i64 ac)/\w'.cell? ⟨w3.heap.size,1,none⟩=some (.int .i64 sq)/\w'.cell? ⟨w3.heap.size,2,none⟩=some (.int .i64 ak)/\w'.cell? ⟨w3.heap.size,3,none⟩=some (.int .i64 an)/\w'.cell? ⟨w3.heap.size,4,none⟩=some (.int .i64 ad)/\w'.cell? ⟨w3.heap.size,5,none⟩=some (.slice ua AN uc)):=hid fun w' hb=>⟨(HQ.out _ (step HB4.out hb)).1,(hb.cell (lt_of_cell z0)).trans z0,(hb.cell (lt_of_cell z1)).trans z1,(hb.cell (lt_of_cell z2)).trans z2,(hb.cell (lt_of_cell z3)).trans z3,(hb.cell (lt_of_cell z4)).trans z4,(hb.cell (lt_of_cell z5)).trans z5⟩
 have HBW:=hid (step HB.out HB4.out)
 go_upto_region 4 with fail
 rw[<-hW4]
 clear hW4 y0 y1 y2 y3 y4 y5 z0 z1 z2 z3 z4 z5 c0 c1 c2 c3 c4 c5 HB1 HB3 HB KM KF
 go_wp2
 go_loopw [6,7,8] (fun m pt i wr=> ∃(k:Nat) (M:List MemC) (put:Bool),k<=N/\M.length<=k+1/\i= .int .i64 k/\pt= .bool put/\Hid (R=valsM M++goM ⟨ac,sq,⟨ak,an,ad,al⟩⟩ put ((valsM L).drop k))/\Hid (∀x∈M,P x)/\Hid (wr.ownsRow W4.heap.size 76 6 m M.length (flatX cellsM M))/\(put=false->M.length<=k)/\Hid (Below W4.heap.size W4 wr)) (fun _ _ i _=>N - (intOf i).toNat)
 case atStart=>exact⟨0,[],false,by omega,by simp,rfl,rfl,hid (by rw[<-HGO.out];rfl),hid (fun x hx=>by cases hx),hid (World.ownsRow_nil _ _ _ _),fun _=>by simp,hid (Below.refl _ _)⟩
 case round=>
  obtain⟨k,M,put,hk,hMl,rfl,rfl,HM,HH,HO,hpk,HB⟩:=hrel
  by_cases hlt:k<N
  ·have hkl:k<L.length:=by rw[HNN.out];exact hlt
   obtain⟨b,o,rfl,hc⟩:=HA.out k hkl
   obtain⟨x0,x1,x2,x3,x4,x5,x6⟩:=HZ.out _ HB.out
   have hd:=HD.out put k hkl
   have hh:=HHL.out k hkl
   have HC:Hid (∀W,Below w.heap.size w W->_):=hid hc
   have HX:=hid (rfl:L[k]=L[k])
   have HCX:Hid (cellsM L[k]= [.int .i64 L[k].m.client,.int .i64 L[k].m.seq,.int .i64 L[k].m.rep.code,.int .i64 L[k].m.rep.session,.int .i64 L[k].m.rep.ahead,L[k].hv]):=hid rfl
   have HXI:Hid (∀M:List MemC,valsM (M++ [L[k]])=valsM M++ [L[k].m]):=hid fun M=>by rw[valsM_append];rfl
   have hxv: ∃xn,L[k].hv = .slice L[k].ha xn L[k].hc :=⟨_,rfl⟩
   obtain⟨XN,hxv⟩:=hxv
   rw[hxv] at HCX hc
   have HCC:=hid hc
   clear HC hc HA HHL HD HX
   have HHX:Hid (P L[k]):=hid hh
   generalize L[k]=x at hd HCX HXI HHX HCC
   clear hh hxv hkl
   obtain⟨q0,q1,q2,q3,q4,q5⟩:=HCC.out _ (step HBW.out HB.out)
   have hbs:=HB.out.size
   obtain⟨⟨⟨xc,xs,⟨xk,xn,xd,xl⟩⟩,xa,xp⟩,hx⟩: ∃x',x'=x:=⟨_,rfl⟩
   rw[<-hx] at hd HCX HXI q0 q1 q2 q3 q4 q5 HCC
   dsimp only at hd HCX HXI q0 q1 q2 q3 q4 q5 HCC
   have HXE:=hid hx
   clear hx
   have f1:(0:Int)<=(k:Int):=by omega
   have f2:(k:Int)<(N:Int):=by omega
   by_cases e1:xc=ac
   ·rw[if_pos e1] at hd
    have d1:(xc==ac)=true:=by simpa using e1
    have HDD:=hid hd
    clear hd e1
    go_upto_region 9 with fail
    go_quiet (fail)
    obtain⟨W5,hW5⟩: ∃W5,W5=wr.drewN nq:=⟨_,rfl⟩
    have HB5:Hid (Below W4.heap.size W4 W5):=hid (by rw[hW5];exact below_drewN6 HB.out nq)
    have HO5:Hid (W5.ownsRow W4.heap.size 76 6 u6 M.length (flatX cellsM M)):=hid (by rw[hW5];exact Rw.own_below HO.out (below_drewN6 (Below.refl _ _) nq))
    obtain⟨x0,x1,x2,x3,x4,x5,x6⟩:=HZ.out _ HB5.out
    obtain⟨q0,q1,q2,q3,q4,q5⟩:=HCC.out _ (step HBW.out HB5.out)
    have hbsW5:=HB5.out.size
    rw[<-hW5]
    clear hW5
    go_wp2_with (at_builtin;refine wpList_append_one cellsM_length (by omega) rfl (.tmp 45) (.tmp 47) 24 rfl 76 i1 _ 64 Tryz.underlying24 hi hz0 hz1 hz2 rfl #[.int .i64 ac,.int .i64 sq,.int .i64 ak,.int .i64 an,.int .i64 ad,.slice ua AN uc] y (by rw[HYC.out]) (cellsM_one _) M W4.heap.size W4.heap.size W4 _ rfl rfl HO5.out (by first | (unfold maxLen;omega) | (rw[List.length_append,List.length_singleton];unfold maxLen;omega)) (by first | omega | (rw[List.length_append,List.length_singleton];omega)) hbsW5 HB5.out (Nat.le_refl _) ?_;intro v7 w7 how7 hbw7 _;have HO7:=hid how7;have HB7:=hid hbw7;clear how7 hbw7)
    go_roundw
    case rel=>exact⟨k+1,M++ [y],true,by omega,by simp;omega,by go_num,rfl,hid (by rw[HM.out,HDD.out,HYI.out];simp),hid (fun z hz=>by
     rcases List.mem_append.1 hz with q | q
     ·exact HH.out z q
     ·rw[List.mem_singleton] at q;subst q;exact HY.out),HO7,(fun q=>by cases q),HB7⟩
    case measure=>simp [intOf];omega
   ·rw[if_neg e1] at hd
    have d1:(xc==ac)=false:=by simpa using e1
    clear e1
    by_cases e2:put=false/\ac<xc
    ·obtain⟨e3,e4⟩:=e2
     subst e3
     have d2:decide (ac<xc)=true:=decide_eq_true e4
     rw[if_pos (by simp [e4])] at hd
     have HDD:=hid hd
     have hml:=hpk rfl
     clear hd e4
     go_upto_region 9 with fail
     go_quiet (fail)
     obtain⟨W5,hW5⟩: ∃W5,W5=wr.drewN nq:=⟨_,rfl⟩
     have HB5:Hid (Below W4.heap.size W4 W5):=hid (by rw[hW5];exact below_drewN6 HB.out nq)
     have HO5:Hid (W5.ownsRow W4.heap.size 76 6 u6 M.length (flatX cellsM M)):=hid (by rw[hW5];exact Rw.own_below HO.out (below_drewN6 (Below.refl _ _) nq))
     obtain⟨x0,x1,x2,x3,x4,x5,x6⟩:=HZ.out _ HB5.out
     obtain⟨q0,q1,q2,q3,q4,q5⟩:=HCC.out _ (step HBW.out HB5.out)
     have hbsW5:=HB5.out.size
     rw[<-hW5]
     clear hW5
     go_upto_region 12 with fail
     go_quiet (fail)
     obtain⟨W6,hW6⟩: ∃W6,W6=W5.drewN nq:=⟨_,rfl⟩
     have HB6:Hid (Below W4.heap.size W4 W6):=hid (by rw[hW6];exact below_drewN6 HB5.out nq)
     have HO6:Hid (W6.ownsRow W4.heap.size 76 6 u6 M.length (flatX cellsM M)):=hid (by rw[hW6];exact Rw.own_below HO5.out (below_drewN6 (Below.refl _ _) nq))
     obtain⟨x0,x1,x2,x3,x4,x5,x6⟩:=HZ.out _ HB6.out
     obtain⟨q0,q1,q2,q3,q4,q5⟩:=HCC.out _ (step HBW.out HB6.out)
     have hbsW6:=HB6.out.size
     rw[<-hW6]
     clear hW6
     go_wp2_with (first
      | (at_builtin;refine wpList_append_one cellsM_length (by omega) rfl (.tmp 61) (.tmp 63) 24 rfl 76 i1 _ 64 Tryz.underlying24 hi hz0 hz1 hz2 rfl #[.int .i64 ac,.int .i64 sq,.int .i64 ak,.int .i64 an,.int .i64 ad,.slice ua AN uc] y (by rw[HYC.out]) (cellsM_one _) M W4.heap.size W4.heap.size W4 _ rfl rfl HO6.out (by first | (unfold maxLen;omega) | (rw[List.length_append,List.length_singleton];unfold maxLen;omega)) (by first | omega | (rw[List.length_append,List.length_singleton];omega)) hbsW6 HB6.out (Nat.le_refl _) ?_;intro v7 w7 how7 hbw7 _;have HO7:=hid how7;have HB7:=hid hbw7;have hbs7:=HB7.out.size;obtain⟨r0,r1,r2,r3,r4,r5⟩:=HCC.out _ (step HBW.out HB7.out);clear how7 hbw7)
      | (at_builtin;refine wpList_append_one cellsM_length (by omega) rfl (.tmp 65) (.tmp 70) 24 rfl 76 i1 _ 64 Tryz.underlying24 hi hz0 hz1 hz2 rfl #[.int .i64 xc,.int .i64 xs,.int .i64 xk,.int .i64 xn,.int .i64 xd,.slice xa XN xp] x (by rw[<-HXE.out,HCX.out]) (cellsM_one _) (M++ [y]) W4.heap.size W4.heap.size W4 _ rfl rfl HO7.out (by first | (unfold maxLen;omega) | (rw[List.length_append,List.length_singleton];unfold maxLen;omega)) (by first | omega | (rw[List.length_append,List.length_singleton];omega)) hbs7 HB7.out (Nat.le_refl _) ?_;intro v8 w8 how8 hbw8 _;have HO8:=hid how8;have HB8:=hid hbw8;clear how8 hbw8))
     go_roundw
     case rel=>exact⟨k+1,M++ [y]++ [x],true,by omega,by simp;omega,by go_num,rfl,hid (by rw[HM.out,HDD.out,<-HXE.out,HXI.out,HYI.out];simp),hid (fun z hz=>by
      rcases List.mem_append.1 hz with q | q
      ·rcases List.mem_append.1 q with q | q
       ·exact HH.out z q
       ·rw[List.mem_singleton] at q;subst q;exact HY.out
      ·rw[List.mem_singleton] at q;subst q;exact HHX.out),HO8,(fun q=>by cases q),HB8⟩
     case measure=>simp [intOf];omega
    ·have hcase:(!put && decide (ac<xc))=false:=by
      cases put with
      | true=>rfl
      | false=>simp at e2 ⊢;exact e2
     rw[if_neg (by rw[hcase];simp)] at hd
     have HDD:=hid hd
     have hp2:put=true\/(put=false/\decide (ac<xc)=false):=by
      cases put with
      | true=>exact .inl rfl
      | false=>exact .inr ⟨rfl,by simpa using hcase⟩
     clear hd hcase e2
     rcases hp2 with e3 | ⟨e3,d2⟩
     all_goals
      subst e3
      go_upto_region 9 with fail
      go_quiet (fail)
      obtain⟨W5,hW5⟩: ∃W5,W5=wr.drewN nq:=⟨_,rfl⟩
      have HB5:Hid (Below W4.heap.size W4 W5):=hid (by rw[hW5];exact below_drewN6 HB.out nq)
      have HO5:Hid (W5.ownsRow W4.heap.size 76 6 u6 M.length (flatX cellsM M)):=hid (by rw[hW5];exact Rw.own_below HO.out (below_drewN6 (Below.refl _ _) nq))
      obtain⟨x0,x1,x2,x3,x4,x5,x6⟩:=HZ.out _ HB5.out
      obtain⟨q0,q1,q2,q3,q4,q5⟩:=HCC.out _ (step HBW.out HB5.out)
      have hbsW5:=HB5.out.size
      rw[<-hW5]
      clear hW5
      go_upto_region 12 with fail
      go_quiet (fail)
      obtain⟨W6,hW6⟩: ∃W6,W6=W5.drewN nq:=⟨_,rfl⟩
      have HB6:Hid (Below W4.heap.size W4 W6):=hid (by rw[hW6];exact below_drewN6 HB5.out nq)
      have HO6:Hid (W6.ownsRow W4.heap.size 76 6 u6 M.length (flatX cellsM M)):=hid (by rw[hW6];exact Rw.own_below HO5.out (below_drewN6 (Below.refl _ _) nq))
      obtain⟨x0,x1,x2,x3,x4,x5,x6⟩:=HZ.out _ HB6.out
      obtain⟨q0,q1,q2,q3,q4,q5⟩:=HCC.out _ (step HBW.out HB6.out)
      have hbsW6:=HB6.out.size
      rw[<-hW6]
      clear hW6
      go_wp2_with (at_builtin;refine wpList_append_one cellsM_length (by omega) rfl (.tmp 65) (.tmp 70) 24 rfl 76 i1 _ 64 Tryz.underlying24 hi hz0 hz1 hz2 rfl #[.int .i64 xc,.int .i64 xs,.int .i64 xk,.int .i64 xn,.int .i64 xd,.slice xa XN xp] x (by rw[<-HXE.out,HCX.out]) (cellsM_one _) M W4.heap.size W4.heap.size W4 _ rfl rfl HO6.out (by first | (unfold maxLen;omega) | (rw[List.length_append,List.length_singleton];unfold maxLen;omega)) (by first | omega | (rw[List.length_append,List.length_singleton];omega)) hbsW6 HB6.out (Nat.le_refl _) ?_;intro v8 w8 how8 hbw8 _;have HO8:=hid how8;have HB8:=hid hbw8;clear how8 hbw8)
      go_roundw
      case rel=>exact⟨k+1,M++ [x],_,by omega,by simp;omega,by go_num,rfl,hid (by rw[HM.out,HDD.out,<-HXE.out,HXI.out];simp),hid (fun z hz=>by
       rcases List.mem_append.1 hz with q | q
       ·exact HH.out z q
       ·rw[List.mem_singleton] at q;subst q;exact HHX.out),HO8,(fun q=>by first | (have hq:=hpk rfl;rw[List.length_append,List.length_singleton];omega) | (cases q;done)),HB8⟩
      case measure=>simp [intOf];omega
  ·obtain rfl:k=N:=by omega
   have hR:=HM.out
   rw[HEND.out] at hR
   cases put with
   | true=>
    rw[if_pos rfl,List.append_nil] at hR
    have HRR:=hid hR
    clear hR HM HD HGO HEND HYI
    obtain⟨ua6,uc6,rfl⟩:=Rw.own_form HO.out
    go_wp2
    go_ret
    exact⟨_,_,M,rfl,HRR.out.symm,own_lowerX HO.out HBW.out.size,HH.out,step HBW.out HB.out⟩
   | false=>
    rw[if_neg (by simp)] at hR
    have HRR:=hid hR
    have hml:=hpk rfl
    have hbs:=HB.out.size
    obtain⟨-,x0,x1,x2,x3,x4,x5⟩:=HZ.out _ HB.out
    clear hR HM HD HGO HEND
    go_wp2_with (at_builtin;refine wpList_append_one cellsM_length (by omega) rfl (.tmp 74) (.tmp 76) 24 rfl 76 i1 _ 64 Tryz.underlying24 hi hz0 hz1 hz2 rfl #[.int .i64 ac,.int .i64 sq,.int .i64 ak,.int .i64 an,.int .i64 ad,.slice ua AN uc] y (by rw[HYC.out]) (cellsM_one _) M W4.heap.size W4.heap.size W4 _ rfl rfl HO.out (by unfold maxLen;omega) (by omega) hbs HB.out (Nat.le_refl _) ?_;intro v5 w5 ho5 hb5 _;have HO5:=hid ho5;have HB5:=hid hb5;clear ho5 hb5)
    obtain⟨ua6,uc6,rfl⟩:=Rw.own_form HO5.out
    go_ret
    exact⟨_,_,M++ [y],rfl,by rw[HYI.out,HRR.out],own_lowerX HO5.out HBW.out.size,(fun x hx=>by
     rcases List.mem_append.1 hx with q | q
     ·exact HH.out x q
     ·rw[List.mem_singleton] at q;subst q;exact HY.out),step HBW.out HB5.out⟩
theorem RefKeepP_any (P:MemC->Prop) (v u:Value) (L:List MemC) (A:AnsV) (w:World) (h:RdM w v L) (h5:L.length<=100000) (hu:RdH w u A.rep.held) (hP: ∀x∈L,P x) (hPy: ∀ua uc,u= .slice ua A.rep.held.length uc->P ⟨A,ua,uc⟩) (hr:Rm (valsM L)):
  Calls Tryz.prog 60 #[v,ansVal A u] w (GetsKP P (keepM (valsM L) A) w):=by
 by_cases hno:mayA A=false\/freshM (valsM L) A.client A.seq≠1
 ·rw[keepM_no hno]
  exact RefKeepP_no P v u L A w h h5 hu hP hno
 ·have h1:mayA A=true:=by
   cases q:mayA A with
   | true=>rfl
   | false=>exact absurd (Or.inl q) hno
  have h2:freshM (valsM L) A.client A.seq=1:=Decidable.byContradiction fun q=>hno (Or.inr q)
  rw[keepM_yes h1 h2]
  exact RefKeepP_yes P v u L A w h h5 hu hP hPy hr h1 h2
end Cm
end Go.Proofs.YtlnbmblbeaodcaaGreat
