/- Texts laid together by program. -/
import Derived.Test.YtlnbmblbeaodcaaGreatQS14
/- Contracts: padlockref6's TakeLock, of a lock that there is not; all of it. -/
set_option linter.unusedVariables false
set_option maxRecDepth 8000
set_option linter.unusedSimpArgs false
namespace Go.Proofs.YtlnbmblbeaodcaaGreat
open Lib (hid)
open Go.RowKit
namespace Cm

def zeroC:LockC:=⟨[],0,0,[],none,0⟩
theorem ownK_put {w:World} {base g n cap:Nat} {M:List LockC} (h:w.ownsRow base 71 4 (.slice (some ⟨g,0,none⟩) n cap) n (flatX cellsK M)) (k:Nat) (hk:k<M.length) (y:LockC):
  ((((w.setCell ⟨g,k*4,none⟩ (.string (bstr y.name))).setCell ⟨g,k*4+1,none⟩ (.int .i64 y.holder)).setCell ⟨g,k*4+2,none⟩ (.int .i64 y.token)).setCell ⟨g,k*4+3,none⟩ y.lv).ownsRow base 71 4 (.slice (some ⟨g,0,none⟩) n cap) n (flatX cellsK (M.set k y)):=by
 have h1:=(h.stored (k*4) (.string (bstr y.name))).1
 have h2:=(h1.stored (k*4+1) (.int .i64 y.holder)).1
 have h3:=(h2.stored (k*4+2) (.int .i64 y.token)).1
 have h4:=(h3.stored (k*4+3) y.lv).1
 have e:((((flatX cellsK M).set (k*4) (.string (bstr y.name))).set (k*4+1) (.int .i64 y.holder)).set (k*4+2) (.int .i64 y.token)).set (k*4+3) y.lv=flatX cellsK (M.set k y):=by
  have a1:=flatX_set cellsK_length 0 (.string (bstr y.name)) (by omega) ⟨y.name,M[k].holder,M[k].token,M[k].line,M[k].la,M[k].lc⟩ M k hk rfl
  rw[Nat.add_zero] at a1
  rw[a1]
  have k1:k<(M.set k ⟨y.name,M[k].holder,M[k].token,M[k].line,M[k].la,M[k].lc⟩).length :=by rw[List.length_set];exact hk
  rw[flatX_set cellsK_length 1 (.int .i64 y.holder) (by omega) ⟨y.name,y.holder,M[k].token,M[k].line,M[k].la,M[k].lc⟩ _ k k1 (by rw[List.getElem_set_self];rfl),List.set_set]
  have k2:k<(M.set k ⟨y.name,y.holder,M[k].token,M[k].line,M[k].la,M[k].lc⟩).length :=by rw[List.length_set];exact hk
  rw[flatX_set cellsK_length 2 (.int .i64 y.token) (by omega) ⟨y.name,y.holder,y.token,M[k].line,M[k].la,M[k].lc⟩ _ k k2 (by rw[List.getElem_set_self];rfl),List.set_set]
  have k3:k<(M.set k ⟨y.name,y.holder,y.token,M[k].line,M[k].la,M[k].lc⟩).length :=by rw[List.length_set];exact hk
  rw[flatX_set cellsK_length 3 y.lv (by omega) y _ k k3 (by rw[List.getElem_set_self];rfl),List.set_set]
 rw[e] at h4
 exact h4
def roomK (M:List LockC) (j:Nat):List LockC:=(M++ [zeroC]).take (j+1)++M.drop j
theorem roomK_all (M:List LockC):roomK M M.length=M++ [zeroC]:=by
 unfold roomK
 rw[List.drop_length,List.append_nil,List.take_of_length_le (by simp)]
theorem roomK_length (M:List LockC) (j:Nat) (h:j<=M.length):(roomK M j).length =M.length+1:=by
 unfold roomK
 rw[List.length_append,List.length_take,List.length_append,List.length_drop]
 simp
 omega
theorem roomK_get (M:List LockC) (q:Nat) (h:q+1<=M.length) (h':q<(roomK M (q+1)).length):(roomK M (q+1))[q]=M[q]:=by
 unfold roomK at h' ⊢
 rw[List.getElem_append_left (by rw[List.length_take,List.length_append];simp;omega),List.getElem_take,List.getElem_append_left (by omega)]
theorem roomK_move (M:List LockC) (q:Nat) (h:q+1<=M.length):(roomK M (q+1)).set (q+1) M[q]=roomK M q:=by
 unfold roomK
 have e1:(M++ [zeroC]).take (q+1+1)=(M++ [zeroC]).take (q+1)++ [(M++ [zeroC])[q+1]'(by simp;omega)]:=List.take_succ_eq_append_getElem (by simp;omega)
 have hl:((M++ [zeroC]).take (q+1)).length =q+1:=by rw[List.length_take];simp;omega
 rw[e1,List.append_assoc,List.set_append_right _ _ (by omega),hl,Nat.sub_self]
 have e2:M.drop q=M[q]::M.drop (q+1):=List.drop_eq_getElem_cons (by omega)
 rw[e2]
 rfl
theorem roomK_set (M:List LockC) (k:Nat) (h:k<=M.length) (y:LockC):(roomK M k).set k y=M.take k++y::M.drop k:=by
 unfold roomK
 have e1:(M++ [zeroC]).take (k+1)=(M++ [zeroC]).take k++ [(M++ [zeroC])[k]'(by simp;omega)]:=List.take_succ_eq_append_getElem (by simp;omega)
 have hl:((M++ [zeroC]).take k).length =k:=by rw[List.length_take];simp;omega
 rw[e1,List.append_assoc,List.set_append_right _ _ (by omega),hl,Nat.sub_self,List.take_append_of_le_length h]
 rfl
theorem ownK_cell {w:World} {base g n cap:Nat} {M:List LockC} (h:w.ownsRow base 71 4 (.slice (some ⟨g,0,none⟩) n cap) n (flatX cellsK M)) (k:Nat) (hk:k<M.length) (j:Nat) (hj:j<4) (u:Value) (y:LockC) (e:(cellsK M[k]).set j u=cellsK y):
  (w.setCell ⟨g,k*4+j,none⟩ u).ownsRow base 71 4 (.slice (some ⟨g,0,none⟩) n cap) n (flatX cellsK (M.set k y)):=by
 have h1:=(h.stored (k*4+j) u).1
 rw[flatX_set cellsK_length j u hj y M k hk e] at h1
 exact h1
theorem grown_set {a w:World} {g:Nat} (h:a.grownBy w (some g)) (j:Nat) (u:Value):a.grownBy (w.setCell ⟨g,j,none⟩ u) (some g):=by
 refine⟨h.os,h.tape,h.output,by simpa using h.size,fun k hk hne=>?_⟩
 rw[Below.heap_setCell w ⟨g,j,none⟩ u k (fun q=>hne (congrArg some q))]
 exact h.block k hk hne
theorem room_done {w w4 wf:World} {g n n' c c':Nat} {M M':List LockC} {xs:List Value} (hr4:w4.ownsRow w.heap.size 71 4 (.slice (some ⟨g,0,none⟩) n c) n xs) (hl: ∀x∈M,w4.ownsRow w.heap.size 3 1 x.lv x.line.length (flatX cellsI x.line))
  (hb:Below w.heap.size w w4) (hg:w4.grownBy wf (some g)) (hrf:wf.ownsRow w.heap.size 71 4 (.slice (some ⟨g,0,none⟩) n' c') n' (flatX cellsK M')) (hn:M'.length=n') (hM: ∀x∈M',x∈M\/NewI w.heap.size wf x.lv x.line):
  OwnN w.heap.size wf (.slice (some ⟨g,0,none⟩) n' c') M'/\Below w.heap.size w wf:=by
 refine⟨⟨by rw[hn];exact hrf,fun x hx=>?_⟩,hb.grown hg hb.size (fun k hk=>by cases hk;exact(Rw.own_lt hr4 g rfl).1)⟩
 rcases hM x hx with q | q
 ·exact NewI.own (Rw.own_keep (hl x q) fun g' hg'=>hg.block g' (Rw.own_lt (hl x q) g' hg').2 fun e=>own_types hr4 (hl x q) (by decide) g rfl (by rw[hg'];exact e))
 ·exact q
theorem app_facts {base:Nat} {w1 w4:World} {a:Option Addr} {N c:Nat} {M:List LockC} {o:Obj} (ho:OwnD base w1 (.slice a N c) M) (hg:(w1.alloc o).grownBy w4 (Value.slice a N c).ownBlock):
  (∀x∈M,w4.ownsRow base 3 1 x.lv x.line.length (flatX cellsI x.line))/\ ∀w:World,Below w.heap.size w w1->w.heap.size<=base->Below w.heap.size w w4:=by
 refine⟨fun x hx=>Rw.own_other (Rw.own_alloc (ho.line x hx) _) hg (own_types ho.row (ho.line x hx) (by decide)),fun w hb hbs=>?_⟩
 exact(stepAlloc hb _).grown hg (by have:=hb.size;simp;omega) (fun b hb'=>Nat.le_trans hbs (Rw.own_lt ho.row b hb').1)
set_option maxRecDepth 2000 in
set_option maxHeartbeats 4000000 in
theorem Take_new (v:Value) (L:List LockC) (n:List UInt8) (c t:Int) (wt:Bool) (w:World) (h:RdK w v L) (h5:L.length<=1000) (h6: ∀x∈L,x.line.length<=1000) (hi:idxI (isNm n) (vals L)= -1) (h4: ¬4<=L.length) (ht:0<=t/\t<=4611686018427387904):
  Calls Tryz.prog 125 #[v,.string (bstr n),.int .i64 c,.int .i64 t,.bool wt] w (GetsT (putK ⟨n,c,t+1,[]⟩ (vals L),0,0) w):=by
 obtain⟨N,hN⟩: ∃N,L.length=N:=⟨_,rfl⟩
 have CC:=hid (Copy_at v L w N hN h h5 h6)
 have HI:=hid hi
 have hm:=h.len
 have HPL:=hid (placeK_lt n (vals L))
 have HPA:=hid (placeK_at n (vals L))
 have hp:=placeK_le n (vals L)
 have HPP:=hid (putK_place ⟨n,c,t+1,[]⟩ (vals L))
 rw[vals_length,hN] at hp
 rw[hN] at h4 hm
 have d4:decide ((4:Int)<=(N:Int))=false:=by simp;omega
 have h4':N<=3:=by omega
 have HNN:=hid hN
 have hw1:IntKind.i64.wrap (t+1)=t+1:=by rw[IntKind.wrap_i64];omega
 have HT:=hid ht
 clear h h5 h6 hi hN h4 ht
 obtain⟨i1,hi',hz0',hz1',hz2'⟩:=info_parts infoK
 dsimp only at HPP
 generalize placeK n (vals L)=P at*
 go_enter Tryz.func125,Tryz.ntmps125
 go_wp2_with (first
  | (go_at_call 36;refine CC.out.mono ?_;rintro e w1 ⟨a1,c1,M,rfl,hM,hv,ho,hb⟩;have HF:=hid (Find_at a1 N c1 M n w1 (-1) (by rw[hv];exact HI.out) ho.rd.row);have HB:=hid hb;have HO:=hid ho;have HV:=hid hv;clear ho hb hv)
  | (go_at_call 170;refine HF.out.mono ?_;rintro e w2 ⟨rfl,rfl⟩))
 have HA:=hid (fun i hi=>rdk_at HO.out.rd.row i hi)
 go_loop [15] (fun i=> ∃k:Nat,k<=P/\i= .int .i64 k) (fun i=>N - (intOf i).toNat)
 case atStart=>exact⟨0,Nat.zero_le _,rfl⟩
 case round=>
  obtain⟨k,hk,rfl⟩:=hrel
  by_cases hlt:k<P
  ·have hkM:k<M.length:=by omega
   obtain⟨b,o,rfl,hc⟩:=HA.out k hkM
   obtain⟨q0, -⟩:=hc _ (Below.refl _ _)
   have hle:Op.bytesLess M[k].name n=true:=by
    have:=HPL.out k (by rw[vals_length,HNN.out];omega) hlt
    have e1:=vals_get M k hkM (by rw[vals_length];omega)
    have e3:(vals M)[k]'(by rw[vals_length];omega)=(vals L)[k]'(by rw[vals_length,HNN.out];omega):=by simp [HV.out]
    rw[<-e3,e1] at this
    exact this
   have hE:=str_less M[k].name n
   rw[hle] at hE
   clear hc HA hle
   generalize M[k].name =xn at q0 hE
   have f2:(k:Int)<(N:Int):=by omega
   have f1:(0:Int)<=(k:Int):=by omega
   go_wp2
   go_round
   case rel=>exact⟨k+1,by omega,by go_num⟩
   case measure=>simp [intOf];omega
  ·obtain rfl:k=P:=by omega
   by_cases hkN:k<N
   case' pos=>
    have hkM:k<M.length:=by omega
    obtain⟨b,o,rfl,hc⟩:=HA.out k hkM
    obtain⟨q0, -⟩:=hc _ (Below.refl _ _)
    have hle:Op.bytesLess M[k].name n=false:=by
     have:=HPA.out (by rw[vals_length,HNN.out];omega)
     have e1:=vals_get M k hkM (by rw[vals_length];omega)
     have e3:(vals M)[k]'(by rw[vals_length];omega)=(vals L)[k]'(by rw[vals_length,HNN.out];omega):=by simp [HV.out]
     rw[<-e3,e1] at this
     exact this
    have hE:=str_less M[k].name n
    rw[hle] at hE
    clear hc HA hle
    generalize M[k].name =xn at q0 hE
    have f2:(k:Int)<(N:Int):=by omega
    have f1:(0:Int)<=(k:Int):=by omega
    go_upto_region 9 with fail
    clear hE q0 f1 f2 hkM
   case' neg=>
    have hkN2:k=N:=by omega
    have d0:decide ((k:Int)<(N:Int))=false:=by simp;omega
    clear HA
    go_upto_region 9 with fail
    clear d0 hkN2
   all_goals
    clear HPL HPA hkN
    have hMM:=hM
    have HMM:=hid hM
    go_upto_region 10 with (at_builtin;refine wpList_append_one_gr cellsK_length (by omega) rfl (.tmp 44) (.tmp 46) 23 rfl 71 i1 _ 56 Tryz.underlying23 hi' hz0' hz1' hz2' rfl _ zeroC rfl (cellsK_one _) M w.heap.size _ rfl rfl HO.out.row (by unfold maxLen;omega) (by omega) HB.out.size ?_;intro v4 w4 ho4 hg4 _)
    have hlen1:(M++ [zeroC]).length =N+1:=by rw[List.length_append,hM];rfl
    obtain⟨a4,c4,rfl⟩:=Rw.own_form ho4
    rw[hlen1] at ho4
    obtain⟨g,rfl,hg⟩:=own_some (sz:=4) ho4 (by omega)
    obtain⟨hl4,hb4⟩:=app_facts HO.out hg4
    have HL4:=hid hl4
    have HB4:=hid (hb4 w HB.out (Nat.le_refl _))
    clear hl4 hb4
    have HO4:Hid (w4.ownsRow w.heap.size 71 4 (.slice (some ⟨g,0,none⟩) (N+1) c4) (N+1) (flatX cellsK (roomK M N))):=hid (by rw[<-hM,roomK_all,hM];exact ho4)
    have HRL:=hid (fun j (hj:j<=N)=>(roomK_length M j (by omega)).trans (by rw[hM]))
    have HRG:=hid (fun q (hq:q+1<=N)=>roomK_get M q (by omega))
    have HRM:=hid (fun q (hq:q+1<=N)=>roomK_move M q (by omega))
    have HRS:=hid (fun y=>roomK_set M k (by omega) y)
    have hcap:N+1<=c4:=by
     rcases ho4.2 with ⟨q,_⟩ | ⟨g',cap',cur,q1,q2,q3,q4,_⟩
     ·cases q
     ·cases q1;exact q4
    clear ho4 hg4 HO HB HF HI CC
    have w1':IntKind.i64.wrap (((N+1:Nat):Int) - 1)=(N:Int):=by rw[IntKind.wrap_i64];omega
    go_upto_region 11 with fail
    go_loopw [16] (fun i wr=> ∃j:Nat,k<=j/\j<=N/\i= .int .i64 j/\Hid (wr.ownsRow w.heap.size 71 4 (.slice (some ⟨g,0,none⟩) (N+1) c4) (N+1) (flatX cellsK (roomK M j)))/\Hid (w4.grownBy wr (some g))) (fun i _=>(intOf i).toNat)
    case atStart=>exact⟨N,by omega,by omega,rfl,HO4,hid (World.grownBy.refl _ _)⟩
    case round=>
     obtain⟨j,hkj,hjN,rfl,HR,HG⟩:=hrel
     by_cases hlt:k<j
     ·obtain⟨q,rfl⟩: ∃q,j=q+1:=⟨j - 1,by omega⟩
      have hrl:=HRL.out (q+1) hjN
      obtain⟨q0,q1,q2,q3,qf⟩:=ownK_at HR.out hrl q (by omega)
      have hgq:=HRG.out q hjN (by omega)
      have hmv:=HRM.out q hjN
      rw[hgq] at q0 q1 q2 q3
      have HP:=hid (fun y=>ownK_put HR.out (q+1) (by omega) y)
      obtain⟨p0,p1,p2,p3,pf⟩:=ownK_at HR.out hrl (q+1) (by omega)
      generalize M[q]=x at q0 q1 q2 q3 hmv
      obtain⟨xn,xh,xt,xl,xa,xc⟩:=x
      unfold LockC.lv at q3
      dsimp only at q0 q1 q2 q3
      have HP:=hid (HP.out ⟨xn,xh,xt,xl,xa,xc⟩)
      rw[hmv] at HP
      unfold LockC.lv at HP
      dsimp only at HP
      generalize (roomK M (q+1))[q+1]=y at p0 p1 p2 p3
      unfold LockC.lv at p3
      have e1:IntKind.i64.wrap (((q+1:Nat):Int) - 1)=(q:Int):=by rw[IntKind.wrap_i64];omega
      have f1:(0:Int)<=(q:Int):=by omega
      have f2:(q:Int)<((N+1:Nat):Int):=by omega
      have f3:((q+1:Nat):Int)<((N+1:Nat):Int):=by omega
      have f4:(0:Int)<=((q+1:Nat):Int):=by omega
      have f5:(k:Int)<((q+1:Nat):Int):=by omega
      clear hmv hgq hrl
      go_wp2
      go_roundw
      case rel=>exact⟨q,by omega,by omega,rfl,HP,hid (grown_set (grown_set (grown_set (grown_set HG.out _ _) _ _) _ _) _ _)⟩
      case measure=>simp [intOf]
     ·obtain rfl:j=k:=by omega
      have d0:decide ((j:Int)<(j:Int))=false:=by simp
      have hrl:=HRL.out j hjN
      obtain⟨p0,p1,p2,p3,pf⟩:=ownK_at HR.out hrl j (by omega)
      have hp:=ownK_put HR.out j (by omega) ⟨n,c,t+1,[],none,0⟩
      rw[HRS.out] at hp
      unfold LockC.lv at hp
      dsimp only[List.length_nil] at hp
      have HP:=hid hp
      have hnl:(M.take j++(⟨n,c,t+1,[],none,0⟩:LockC)::M.drop j).length =N+1:=by
       rw[<-HRS.out,List.length_set];exact hrl
      have HD:=hid (room_done HO4.out HL4.out HB4.out (grown_set (grown_set (grown_set (grown_set HG.out _ _) _ _) _ _) _ _) HP.out hnl (fun x hx=>by
       rcases List.mem_append.1 hx with q | q
       ·exact .inl (List.mem_of_mem_take q)
       ·rcases List.mem_cons.1 q with q | q
        ·subst q;exact .inr (NewI.nil _ _)
        ·exact .inl (List.mem_of_mem_drop q)))
      have HVF:Hid (vals (M.take j++(⟨n,c,t+1,[],none,0⟩:LockC)::M.drop j)=putK ⟨n,c,t+1,[]⟩ (vals L)):=hid (by
       rw[HPP.out,<-HV.out,<-vals_take,<-vals_drop]
       unfold vals
       rw[List.map_append,List.map_cons]
       rfl)
      generalize (roomK M j)[j]=y at p0 p1 p2 p3
      unfold LockC.lv at p3
      have f1:(0:Int)<=(j:Int):=by omega
      have f2:(j:Int)<((N+1:Nat):Int):=by omega
      clear hp hnl hrl HRS HRL HRG HRM
      go_wp2
      refine bodyPost_ret (by simp [results,Tryz.results125,go_sem]<;>rfl) rfl ?_
      exact⟨_,_,rfl,HVF.out,HD.out.1,HD.out.2⟩
theorem TakeLock_any (v:Value) (L:List LockC) (n:List UInt8) (c t:Int) (wt:Bool) (w:World) (h:RdK w v L) (h5:L.length<=1000) (h6: ∀x∈L,x.line.length<=1000) (ht:0<=t/\t<=4611686018427387904):
  Calls Tryz.prog 125 #[v,.string (bstr n),.int .i64 c,.int .i64 t,.bool wt] w (GetsT (takeK (vals L) n c t wt) w):=by
 rcases idx_casesG (isNm n) (vals L) with hi | ⟨k,hk,hi, -⟩
 ·unfold takeK
  rw[if_pos (by omega),vals_length]
  by_cases h4:4<=L.length
  ·rw[if_pos h4]
   exact Take_full v L n c t wt w h h5 h6 hi h4
  ·rw[if_neg h4]
   exact Take_new v L n c t wt w h h5 h6 hi h4 ht
 ·have hg:=getK_nat (vals L) k hk
  unfold takeK
  rw[hi,if_neg (by omega),hg]
  rw[vals_length] at hk
  rw[vals_get L k hk]
  unfold LockC.val
  dsimp only
  by_cases h1:L[k].holder =c
  ·rw[if_pos h1]
   exact Take_twice v L n c t wt w k hk h h5 h6 hi h1
  rw[if_neg h1]
  by_cases h2:wt=false
  ·rw[if_pos h2]
   exact Take_busy v L n c t wt w k hk h h5 h6 hi h1 h2
  rw[if_neg h2]
  have h2:wt=true:=by simpa using h2
  obtain⟨p,b⟩: ∃x,aheadL L[k].line c=x:=⟨_,rfl⟩
  by_cases h3:(aheadL L[k].line c).2=true
  ·rw[if_pos h3]
   exact Take_waits v L n c t wt w k hk h h5 h6 hi h1 h2 _ (Prod.ext rfl h3)
  rw[if_neg h3]
  have h3:(aheadL L[k].line c).2=false:=by simpa using h3
  by_cases h4:3<=L[k].line.length
  ·rw[if_pos h4]
   exact Take_line v L n c t wt w k hk h h5 h6 hi h1 h2 _ (Prod.ext rfl h3) h4
  rw[if_neg h4]
  exact Take_join v L n c t wt w k hk h h5 h6 hi h1 h2 _ (Prod.ext rfl h3) h4
end Cm
end Go.Proofs.YtlnbmblbeaodcaaGreat
