/- Texts laid together by program. -/
import Derived.Test.YthpknaieimlmnaaGreatQ3
/- Contracts: padlockref6's OpenSession. -/
set_option linter.unusedVariables false
set_option maxRecDepth 8000
set_option linter.unusedSimpArgs false
namespace Go.Proofs.YthpknaieimlmnaaGreat
open Lib (hid)
open Go.RowKit
namespace Cm

theorem infoS:(Tryz.prog.info? 56).map (fun i=>(i.zero,i.size,i.bytes))=some (some (.agg #[.int .i64 0,.int .i64 0,.int .i64 0]),3,24):=by kernel_rfl
def GetsS (r:List SesV × Int) (w:World) (e:Ending) (w':World):Prop:=
 ∃v,e= .returned (.tuple #[v,.int .i64 r.2])/\w'.ownsRow w.heap.size 56 3 v r.1.length (flatX cellsS r.1)/\Below w.heap.size w w'
theorem GetsS.empty {w w':World} {e:Ending} {c:Int} (he:e= .returned (.tuple #[.slice none 0 0,.int .i64 c])) (hb:Below w.heap.size w w'):GetsS ([],c) w e w':=
 ⟨.slice none 0 0,he,World.ownsRow_nil _ _ _ _,hb⟩
theorem takenS_drop (l:List SesV) (c n:Int) (j:Nat) (h:j<l.length):takenS (l.drop j) c n=((decide (l[j].num =n) && !decide (l[j].client =c)) || takenS (l.drop (j+1)) c n):=by
 rw[List.drop_eq_getElem_cons h]
 rfl
theorem cellsS_one (s:SesV): ∀u∈cellsS s,u.oneCell'=true:=by
 intro u hu
 unfold cellsS at hu
 simp only[List.mem_cons,List.not_mem_nil,or_false] at hu
 rcases hu with rfl | rfl | rfl<;>rfl
set_option maxHeartbeats 4000000 in
theorem Open_any (v:Value) (l:List SesV) (c n t:Int) (w:World) (h:RdS w v l):Calls Tryz.prog 178 #[v,.int .i64 c,.int .i64 n,.int .i64 t] w (GetsS (openS l c n t) w):=by
 have hm:=h.len
 have CF:=hid (Find_any v l c w h)
 obtain⟨a,cap,rfl⟩:=h.form
 have HA:=hid (fun i hi=>rds_at h i hi)
 have HT:=hid (takenS_drop l c n)
 clear h
 cases n1:clientF c
 case false=>
  have e:openS l c n t=([],1):=by unfold openS;simp [n1]
  rw[e]
  go_enter Tryz.func178,Tryz.ntmps178
  go_wp2_with (go_at_call 142;refine(client6_any _ _).mono ?_;rw[n1];rintro e w1 ⟨rfl,rfl⟩)
  go_ret2
  exact GetsS.empty rfl (Below.refl _ _)
 cases n2:highF n 1
 case false=>
  have e:openS l c n t=([],1):=by unfold openS;simp [n2]
  rw[e]
  go_enter Tryz.func178,Tryz.ntmps178
  go_wp2_with (go_at_call 142;refine(client6_any _ _).mono ?_;rw[n1];rintro e w1 ⟨rfl,rfl⟩)
  refine(high6_any _ _ _).mono ?_
  rw[n2]
  rintro e w1 ⟨rfl,rfl⟩
  go_wp2
  go_ret2
  exact GetsS.empty rfl (Below.refl _ _)
 cases n3:highF t 0
 case false=>
  have e:openS l c n t=([],1):=by unfold openS;simp [n3]
  rw[e]
  go_enter Tryz.func178,Tryz.ntmps178
  go_wp2_with (go_at_call 142;refine(client6_any _ _).mono ?_;rw[n1];rintro e w1 ⟨rfl,rfl⟩)
  refine(high6_any _ _ _).mono ?_
  rw[n2]
  rintro e w1 ⟨rfl,rfl⟩
  go_wp2_with fail
  refine(high6_any _ _ _).mono ?_
  rw[n3]
  rintro e w1 ⟨rfl,rfl⟩
  go_wp2
  go_ret2
  exact GetsS.empty rfl (Below.refl _ _)
 have HE:Hid (openS l c n t=if takenS l c n=true then ([],1) else if (findS l c).2=true then ([],7) else if 5<=l.length then ([],5) else (putS ⟨c,n,t⟩ l,0)):=hid (by unfold openS;simp [n1,n2,n3])
 have HPA:=hid (putN_all ⟨c,n,t⟩ l)
 have HPS:=hid (putN_succ ⟨c,n,t⟩ l)
 have HPL:=hid (putN_length ⟨c,n,t⟩ l)
 obtain⟨L,hL⟩: ∃L,l.length=L:=⟨_,rfl⟩
 have HLL:=hid hL
 rw[hL] at hm CF ⊢
 clear hL
 obtain⟨i0,hi,hz0,hz1,hz2⟩:=info_parts infoS
 go_enter Tryz.func178,Tryz.ntmps178
 go_wp2_with (go_at_call 142;refine(client6_any _ _).mono ?_;rw[n1];rintro e w1 ⟨rfl,rfl⟩)
 refine(high6_any _ _ _).mono ?_
 rw[n2]
 rintro e w1 ⟨rfl,rfl⟩
 go_wp2_with fail
 refine(high6_any _ _ _).mono ?_
 rw[n3]
 rintro e w1 ⟨rfl,rfl⟩
 clear n1 n2 n3
 go_wp2
 go_loop [10] (fun i=> ∃j:Nat,j<=L/\i= .int .i64 j/\Hid (takenS l c n=takenS (l.drop j) c n)) (fun i=>L - (intOf i).toNat)
 case atStart=>exact⟨0,by omega,rfl,hid rfl⟩
 case round=>
  obtain⟨j,hj,rfl,ha⟩:=hrel
  by_cases hlt:j<L
  ·have hjl:j<l.length:=by rw[HLL.out];exact hlt
   obtain⟨b,o,rfl,hc⟩:=HA.out j hjl
   obtain⟨q0,q1,q2⟩:=hc w (Below.refl _ _)
   have hd:=HT.out j hjl
   clear hc
   generalize l[j]=g at q0 q1 q2 hd
   obtain⟨gc,gn,gr⟩:=g
   dsimp only at q0 q1 q2 hd
   by_cases e1:gn=n
   ·have d1:(gn==n)=true:=by simpa using e1
    by_cases e2:gc=c
    ·have d2:(gc != c)=false:=by simp [e2]
     rw[decide_eq_true e2,Bool.not_true,Bool.and_false,Bool.false_or] at hd
     have H:=hid hd
     clear hd e1 e2
     go_wp2
     go_round
     case rel=>exact⟨j+1,by omega,by go_num,hid (by rw[ha.out,H.out])⟩
     case measure=>simp [intOf];omega
    ·have d2:(gc != c)=true:=by simpa using e2
     rw[decide_eq_true e1,decide_eq_false e2,Bool.not_false,Bool.true_and,Bool.true_or] at hd
     have H:=hid hd
     clear hd e1 e2
     go_wp2
     go_ret2
     rw[HE.out,ha.out,H.out,if_pos rfl]
     exact GetsS.empty rfl (Below.refl _ _)
   ·have d1:(gn==n)=false:=by simpa using e1
    rw[decide_eq_false e1,Bool.false_and,Bool.false_or] at hd
    have H:=hid hd
    clear hd e1
    go_wp2
    go_round
    case rel=>exact⟨j+1,by omega,by go_num,hid (by rw[ha.out,H.out])⟩
    case measure=>simp [intOf];omega
  ·obtain rfl:j=L:=by omega
   have ha:=ha.out
   rw[<-HLL.out,List.drop_length] at ha
   have ht:takenS l c n=false:=ha
   have he:=HE.out
   rw[ht,if_neg (by simp)] at he
   clear ha ht HE HT
   have CF2:=CF.out
   unfold Found at CF2
   cases hf:(findS l c).2
   case true=>
    rw[hf,if_pos rfl] at he
    rw[hf] at CF2
    have HE:=hid he
    have CF2:=hid CF2
    clear he hf
    generalize (findS l c).1=fs at CF2
    obtain⟨fc,fn,fr⟩:=fs
    unfold sesVal at CF2
    dsimp only at CF2
    go_wp2_with (go_at_call 32;refine CF2.out.mono ?_;rintro e w1 ⟨rfl,hb1⟩)
    go_ret2
    rw[HE.out]
    exact GetsS.empty rfl (stepAlloc hb1 _)
   rw[hf,if_neg (by simp),HLL.out] at he
   rw[hf] at CF2
   have CF2:=hid CF2
   clear hf
   generalize (findS l c).1=fs at CF2
   obtain⟨fc,fn,fr⟩:=fs
   unfold sesVal at CF2
   dsimp only at CF2
   by_cases h5:5<=j
   ·have d5:decide ((5:Int)<=(j:Int))=true:=by simp;omega
    rw[if_pos h5] at he
    have HE:=hid he
    clear he
    go_wp2_with (go_at_call 32;refine CF2.out.mono ?_;rintro e w1 ⟨rfl,hb1⟩)
    go_ret2
    rw[HE.out]
    exact GetsS.empty rfl (stepAlloc hb1 _)
   have d5:decide ((5:Int)<=(j:Int))=false:=by simp;omega
   rw[if_neg h5] at he
   have HE:=hid he
   clear he
   go_wp2_with (go_at_call 32;refine CF2.out.mono ?_;rintro e w1 ⟨rfl,hb1⟩)
   have HW:=hid (stepAlloc hb1 (.cells #[.int .i64 fc,.int .i64 fn,.int .i64 fr] 56))
   clear hb1 CF CF2 d5
   go_loopw [13,14,15] (fun m p i wr=> ∃(k:Nat) (M:List SesV) (P:Bool),k<=j/\i= .int .i64 k/\p= .bool P/\Hid (putN ⟨c,n,t⟩ l k=(M,P))/\M.length<=6/\Hid (wr.ownsRow w.heap.size 56 3 m M.length (flatX cellsS M))/\Hid (Below w.heap.size w wr)) (fun _ _ i _=>j - (intOf i).toNat)
   case atStart=>exact⟨0,[],false,by omega,rfl,rfl,hid (putN_zero _ _),by simp,hid (World.ownsRow_nil _ _ _ _),HW⟩
   case round=>
    obtain⟨k,M,P,hk,rfl,rfl,HP,hM6,HO,HB⟩:=hrel
    by_cases hlt:k<j
    ·have hkl:k<l.length:=by rw[HLL.out];exact hlt
     obtain⟨b,o,rfl,hc⟩:=HA.out k hkl
     obtain⟨q0,q1,q2⟩:=hc _ HB.out
     have hp:=HPS.out k hkl
     have HPN:=hid (HPL.out (k+1) (by rw[HLL.out];omega))
     have hM:=(HPL.out k (by rw[HLL.out];omega)).1
     rw[HP.out] at hp hM
     dsimp only at hM
     have HC:Hid (∀w',Below w.heap.size w w'->w'.cell? ⟨b,o+k*3,none⟩=some (.int .i64 l[k].client)/\w'.cell? ⟨b,o+k*3+1,none⟩=some (.int .i64 l[k].num)/\w'.cell? ⟨b,o+k*3+2,none⟩=some (.int .i64 l[k].ren)):=hc
     clear hc
     generalize l[k]=g at q0 q1 q2 hp HC
     obtain⟨gc,gn,gr⟩:=g
     dsimp only at q0 q1 q2 HC
     have f1:(0:Int)<=(k:Int):=by omega
     have f2:(k:Int)<(j:Int):=by omega
     cases P
     case true=>
      have hp2:putN ⟨c,n,t⟩ l (k+1)=(M++ [⟨gc,gn,gr⟩],true):=by rw[hp];simp [putE]
      have H:=hid hp2
      have hl6:(M++ [(⟨gc,gn,gr⟩:SesV)]).length <=6:=by have:=HPN.out.1;rw[H.out] at this;dsimp only at this;omega
      have HL6:=hid hl6
      clear hp hp2 hl6
      go_wp2_with (first
       | (at_builtin;refine wpList_append_one cellsS_length (by omega) rfl (.tmp 85) (.tmp 90) 24 rfl 56 i0 _ 24 Tryz.underlying24 hi hz0 hz1 hz2 rfl #[.int .i64 gc,.int .i64 gn,.int .i64 gr] ⟨gc,gn,gr⟩ rfl (cellsS_one _) M w.heap.size w.heap.size w _ rfl rfl HO.out (by unfold maxLen;first | omega | (simp;omega)) (by first | omega | (simp;omega)) HB.out.size HB.out (Nat.le_refl _) ?_;intro v5 w5 ho5 hb5 _;have HO5:=hid ho5;have HB5:=hid hb5;clear ho5 hb5))
      go_roundw
      case rel=>exact⟨k+1,M++ [⟨gc,gn,gr⟩],true,by omega,by go_num,rfl,H,HL6.out,HO5,HB5⟩
      case measure=>simp [intOf];omega
     case false=>
      by_cases hcg:c<gc
      ·have d1:decide (c<gc)=true:=decide_eq_true hcg
       have hp2:putN ⟨c,n,t⟩ l (k+1)=(M++ [⟨c,n,t⟩]++ [⟨gc,gn,gr⟩],true):=by rw[hp];simp [putE,hcg]
       have H:=hid hp2
       have hl6:(M++ [(⟨c,n,t⟩:SesV)]++ [(⟨gc,gn,gr⟩:SesV)]).length <=6:=by have:=HPN.out.1;rw[H.out] at this;dsimp only at this;omega
       have HL6:=hid hl6
       clear hp hp2 hl6 hcg
       go_wp2_with (first
        | (at_builtin;refine wpList_append_one cellsS_length (by omega) rfl (.tmp 78) (.tmp 83) 24 rfl 56 i0 _ 24 Tryz.underlying24 hi hz0 hz1 hz2 rfl #[.int .i64 c,.int .i64 n,.int .i64 t] ⟨c,n,t⟩ rfl (cellsS_one _) M w.heap.size w.heap.size w _ rfl rfl HO.out (by unfold maxLen;first | omega | (simp;omega)) (by first | omega | (simp;omega)) HB.out.size HB.out (Nat.le_refl _) ?_;intro v4 w4 ho4 hb4 _;have HO4:=hid ho4;have HB4:=hid hb4;clear ho4 hb4;obtain⟨q0,q1,q2⟩:=HC.out _ HB4.out)
        | (at_builtin;refine wpList_append_one cellsS_length (by omega) rfl (.tmp 85) (.tmp 90) 24 rfl 56 i0 _ 24 Tryz.underlying24 hi hz0 hz1 hz2 rfl #[.int .i64 gc,.int .i64 gn,.int .i64 gr] ⟨gc,gn,gr⟩ rfl (cellsS_one _) (M++ [(⟨c,n,t⟩:SesV)]) w.heap.size w.heap.size w _ rfl rfl HO4.out (by unfold maxLen;first | omega | (simp;omega)) (by first | omega | (simp;omega)) HB4.out.size HB4.out (Nat.le_refl _) ?_;intro v5 w5 ho5 hb5 _;have HO5:=hid ho5;have HB5:=hid hb5;clear ho5 hb5))
       go_roundw
       case rel=>exact⟨k+1,M++ [⟨c,n,t⟩]++ [⟨gc,gn,gr⟩],true,by omega,by go_num,rfl,H,HL6.out,HO5,HB5⟩
       case measure=>simp [intOf];omega
      ·have d1:decide (c<gc)=false:=decide_eq_false hcg
       have hp2:putN ⟨c,n,t⟩ l (k+1)=(M++ [⟨gc,gn,gr⟩],false):=by rw[hp];simp [putE,hcg]
       have H:=hid hp2
       have hl6:(M++ [(⟨gc,gn,gr⟩:SesV)]).length <=6:=by have:=HPN.out.1;rw[H.out] at this;dsimp only at this;omega
       have HL6:=hid hl6
       clear hp hp2 hl6 hcg
       go_wp2_with (first
        | (at_builtin;refine wpList_append_one cellsS_length (by omega) rfl (.tmp 85) (.tmp 90) 24 rfl 56 i0 _ 24 Tryz.underlying24 hi hz0 hz1 hz2 rfl #[.int .i64 gc,.int .i64 gn,.int .i64 gr] ⟨gc,gn,gr⟩ rfl (cellsS_one _) M w.heap.size w.heap.size w _ rfl rfl HO.out (by unfold maxLen;first | omega | (simp;omega)) (by first | omega | (simp;omega)) HB.out.size HB.out (Nat.le_refl _) ?_;intro v5 w5 ho5 hb5 _;have HO5:=hid ho5;have HB5:=hid hb5;clear ho5 hb5))
       go_roundw
       case rel=>exact⟨k+1,M++ [⟨gc,gn,gr⟩],false,by omega,by go_num,rfl,H,HL6.out,HO5,HB5⟩
       case measure=>simp [intOf];omega
    ·obtain rfl:k=j:=by omega
     have he:=HE.out
     have ha:=HPA.out
     rw[HLL.out,HP.out] at ha
     cases P
     case true=>
      have ha:M=putS ⟨c,n,t⟩ l:=by rw[<-ha];rfl
      rw[<-ha] at he
      have HE:=hid he
      clear he ha
      go_wp2
      go_ret2
      rw[HE.out]
      exact⟨_,rfl,HO.out,HB.out⟩
     case false=>
      have ha:M++ [⟨c,n,t⟩]=putS ⟨c,n,t⟩ l:=by rw[<-ha];rfl
      rw[<-ha] at he
      have HE:=hid he
      clear he ha
      go_wp2_with (first
       | (at_builtin;refine wpList_append_one cellsS_length (by omega) rfl (.tmp 94) (.tmp 99) 24 rfl 56 i0 _ 24 Tryz.underlying24 hi hz0 hz1 hz2 rfl #[.int .i64 c,.int .i64 n,.int .i64 t] ⟨c,n,t⟩ rfl (cellsS_one _) M w.heap.size w.heap.size w _ rfl rfl HO.out (by unfold maxLen;first | omega | (simp;omega)) (by first | omega | (simp;omega)) HB.out.size HB.out (Nat.le_refl _) ?_;intro v5 w5 ho5 hb5 _;have HO5:=hid ho5;have HB5:=hid hb5;clear ho5 hb5))
      go_ret2
      rw[HE.out]
      exact⟨_,rfl,HO5.out,HB5.out⟩
end Cm
end Go.Proofs.YthpknaieimlmnaaGreat

/- Contracts: padlockref6's CloseSession, Due. -/
set_option linter.unusedVariables false
set_option maxRecDepth 8000
set_option linter.unusedSimpArgs false
namespace Go.Proofs.YthpknaieimlmnaaGreat
open Lib (hid)
open Go.RowKit
namespace Cm

theorem infoN:(Tryz.prog.info? 3).map (fun i=>(i.zero,i.size,i.bytes))=some (some (.int .i64 0),1,8):=by kernel_rfl
theorem cellsI_one (x:Int): ∀u∈cellsI x,u.oneCell'=true:=by
 intro u hu
 unfold cellsI at hu
 rw[List.mem_singleton] at hu
 subst hu
 rfl
theorem filter_take_succ {α:Type} (l:List α) (p:α->Bool) (j:Nat) (h:j<l.length):(l.take (j+1)).filter p=(l.take j).filter p++if p l[j] then [l[j]] else []:=by
 rw[List.take_succ_eq_append_getElem h,List.filter_append]
 congr 1
 by_cases q:p l[j]=true
 ·simp [q]
 ·simp [q]
def keepsS (c:Int) (s:SesV):Bool:= !decide (s.client=c)
set_option maxHeartbeats 4000000 in
theorem Close_any (v:Value) (l:List SesV) (c:Int) (w:World) (h:RdS w v l) (h5:l.length<=1000):Calls Tryz.prog 110 #[v,.int .i64 c] w (GetsS (closeS l c) w):=by
 have hm:=h.len
 have CF:=hid (Find_any v l c w h)
 obtain⟨a,cap,rfl⟩:=h.form
 have HA:=hid (fun i hi=>rds_at h i hi)
 have HF:=hid (filter_take_succ l (keepsS c))
 clear h
 obtain⟨L,hL⟩: ∃L,l.length=L:=⟨_,rfl⟩
 have HLL:=hid hL
 rw[hL] at hm CF h5 ⊢
 clear hL
 obtain⟨i0,hi,hz0,hz1,hz2⟩:=info_parts infoS
 have CF2:=CF.out
 unfold Found at CF2
 cases hf:(findS l c).2
 case false=>
  have e:closeS l c=([],6):=by unfold closeS;rw[if_pos hf]
  rw[e]
  rw[hf] at CF2
  have CF2:=hid CF2
  clear hf CF
  generalize (findS l c).1=fs at CF2
  obtain⟨fc,fn,fr⟩:=fs
  unfold sesVal at CF2
  dsimp only at CF2
  go_enter Tryz.func110,Tryz.ntmps110
  go_wp2_with (go_at_call 32;refine CF2.out.mono ?_;rintro e w1 ⟨rfl,hb1⟩)
  go_ret2
  exact GetsS.empty rfl (stepAlloc hb1 _)
 have e:closeS l c=(l.filter (keepsS c),0):=by unfold closeS;rw[if_neg (by simp [hf])];rfl
 rw[e]
 rw[hf] at CF2
 have CF2:=hid CF2
 clear hf CF e
 generalize (findS l c).1=fs at CF2
 obtain⟨fc,fn,fr⟩:=fs
 unfold sesVal at CF2
 dsimp only at CF2
 go_enter Tryz.func110,Tryz.ntmps110
 go_wp2_with (go_at_call 32;refine CF2.out.mono ?_;rintro e w1 ⟨rfl,hb1⟩)
 have HW:=hid (stepAlloc hb1 (.cells #[.int .i64 fc,.int .i64 fn,.int .i64 fr] 56))
 clear hb1 CF2
 go_loopw [8,9] (fun m i wr=> ∃(k:Nat) (M:List SesV),k<=L/\i= .int .i64 k/\Hid ((l.take k).filter (keepsS c)=M)/\M.length<=k/\Hid (wr.ownsRow w.heap.size 56 3 m M.length (flatX cellsS M))/\Hid (Below w.heap.size w wr)) (fun _ i _=>L - (intOf i).toNat)
 case atStart=>exact⟨0,[],by omega,rfl,hid rfl,by simp,hid (World.ownsRow_nil _ _ _ _),HW⟩
 case round=>
  obtain⟨k,M,hk,rfl,HM,hMk,HO,HB⟩:=hrel
  by_cases hlt:k<L
  ·have hkl:k<l.length:=by rw[HLL.out];exact hlt
   obtain⟨b,o,rfl,hc⟩:=HA.out k hkl
   obtain⟨q0,q1,q2⟩:=hc _ HB.out
   have hp:=HF.out k hkl
   rw[HM.out] at hp
   clear hc
   generalize l[k]=g at q0 q1 q2 hp
   obtain⟨gc,gn,gr⟩:=g
   dsimp only at q0 q1 q2
   by_cases e1:gc=c
   ·have d1:(gc != c)=false:=by simp [e1]
    have hp2:(l.take (k+1)).filter (keepsS c)=M:=by rw[hp];simp [keepsS,e1]
    have H:=hid hp2
    clear hp hp2 e1
    go_wp2
    go_roundw
    case rel=>exact⟨k+1,M,by omega,by go_num,H,by omega,HO,HB⟩
    case measure=>simp [intOf];omega
   ·have d1:(gc != c)=true:=by simpa using e1
    have hp2:(l.take (k+1)).filter (keepsS c)=M++ [⟨gc,gn,gr⟩]:=by rw[hp];simp [keepsS,e1]
    have H:=hid hp2
    clear hp hp2 e1
    go_wp2_with (first
     | (at_builtin;refine wpList_append_one cellsS_length (by omega) rfl (.tmp 31) (.tmp 36) 24 rfl 56 i0 _ 24 Tryz.underlying24 hi hz0 hz1 hz2 rfl #[.int .i64 gc,.int .i64 gn,.int .i64 gr] ⟨gc,gn,gr⟩ rfl (cellsS_one _) M w.heap.size w.heap.size w _ rfl rfl HO.out (by unfold maxLen;omega) (by omega) HB.out.size HB.out (Nat.le_refl _) ?_;intro v5 w5 ho5 hb5 _;have HO5:=hid ho5;have HB5:=hid hb5;clear ho5 hb5))
    go_roundw
    case rel=>exact⟨k+1,M++ [⟨gc,gn,gr⟩],by omega,by go_num,H,by simp;omega,HO5,HB5⟩
    case measure=>simp [intOf];omega
  ·obtain rfl:k=L:=by omega
   have hM:=HM.out
   rw[<-HLL.out,List.take_length] at hM
   have H:=hid hM
   clear hM
   go_wp2
   go_ret2
   rw[H.out]
   exact⟨_,rfl,HO.out,HB.out⟩
def GetsN (r:List Int) (w:World) (e:Ending) (w':World):Prop:=
 ∃v,e= .returned v/\w'.ownsRow w.heap.size 3 1 v r.length (flatX cellsI r)/\Below w.heap.size w w'
theorem map_filter_take (l:List SesV) (p:SesV->Bool) (j:Nat) (h:j<l.length):((l.take (j+1)).filter p).map (·.client)=((l.take j).filter p).map (·.client)++if p l[j] then [l[j].client] else []:=by
 rw[filter_take_succ l p j h,List.map_append]
 congr 1
 by_cases q:p l[j]=true<;>simp [q]
def lateS (t d:Int) (s:SesV):Bool:=decide (d<=t - s.ren)
set_option maxHeartbeats 4000000 in
theorem Due_any (v:Value) (l:List SesV) (t d:Int) (w:World) (h:RdS w v l) (h5:l.length<=1000) (hr: ∀s∈l,highF s.ren 0=true):Calls Tryz.prog 59 #[v,.int .i64 t,.int .i64 d] w (GetsN (dueS l t d) w):=by
 have hm:=h.len
 obtain⟨a,cap,rfl⟩:=h.form
 have HA:=hid (fun i hi=>rds_at h i hi)
 have HF:=hid (map_filter_take l (lateS t d))
 have HR:=hid hr
 clear h hr
 obtain⟨L,hL⟩: ∃L,l.length=L:=⟨_,rfl⟩
 have HLL:=hid hL
 rw[hL] at hm h5 ⊢
 clear hL
 obtain⟨i0,hi,hz0,hz1,hz2⟩:=info_parts infoN
 cases n1:highF t 0
 case false=>
  have e:dueS l t d= []:=by unfold dueS;simp [n1]
  rw[e]
  go_enter Tryz.func59,Tryz.ntmps59
  go_wp2_with fail
  refine(high6_any _ _ _).mono ?_
  rw[n1]
  rintro e w1 ⟨rfl,rfl⟩
  go_wp2
  go_ret
  exact⟨_,rfl,World.ownsRow_nil _ _ _ _,Below.refl _ _⟩
 cases n2:highF d 0
 case false=>
  have e:dueS l t d= []:=by unfold dueS;simp [n2]
  rw[e]
  go_enter Tryz.func59,Tryz.ntmps59
  go_wp2_with fail
  refine(high6_any _ _ _).mono ?_
  rw[n1]
  rintro e w1 ⟨rfl,rfl⟩
  go_wp2_with fail
  refine(high6_any _ _ _).mono ?_
  rw[n2]
  rintro e w1 ⟨rfl,rfl⟩
  go_wp2
  go_ret
  exact⟨_,rfl,World.ownsRow_nil _ _ _ _,Below.refl _ _⟩
 have e:dueS l t d=(l.filter (lateS t d)).map (·.client):=by unfold dueS;rw[if_neg (by simp [n1,n2])];rfl
 rw[e]
 have ht:0<=t/\t<=2305843009213693952:=by unfold highF at n1;simpa using n1
 go_enter Tryz.func59,Tryz.ntmps59
 go_wp2_with fail
 refine(high6_any _ _ _).mono ?_
 rw[n1]
 rintro e w1 ⟨rfl,rfl⟩
 go_wp2_with fail
 refine(high6_any _ _ _).mono ?_
 rw[n2]
 rintro e w1 ⟨rfl,rfl⟩
 clear n1 n2 e
 go_wp2
 go_loopw [7,8] (fun m i wr=> ∃(k:Nat) (M:List Int),k<=L/\i= .int .i64 k/\Hid (((l.take k).filter (lateS t d)).map (·.client)=M)/\M.length<=k/\Hid (wr.ownsRow w.heap.size 3 1 m M.length (flatX cellsI M))/\Hid (Below w.heap.size w wr)) (fun _ i _=>L - (intOf i).toNat)
 case atStart=>exact⟨0,[],by omega,rfl,hid rfl,by simp,hid (World.ownsRow_nil _ _ _ _),hid (Below.refl _ _)⟩
 case round=>
  obtain⟨k,M,hk,rfl,HM,hMk,HO,HB⟩:=hrel
  by_cases hlt:k<L
  ·have hkl:k<l.length:=by rw[HLL.out];exact hlt
   obtain⟨b,o,rfl,hc⟩:=HA.out k hkl
   obtain⟨q0,q1,q2⟩:=hc _ HB.out
   have hp:=HF.out k hkl
   rw[HM.out] at hp
   have hgr:=HR.out l[k] (List.getElem_mem _)
   clear hc
   generalize l[k]=g at q0 q1 q2 hp hgr
   obtain⟨gc,gn,gr⟩:=g
   dsimp only at q0 q1 q2 hgr hp
   have hg2:0<=gr/\gr<=2305843009213693952:=by unfold highF at hgr;simpa using hgr
   have hw1:IntKind.i64.wrap (t - gr)=t - gr:=by rw[IntKind.wrap_i64];omega
   clear hgr
   by_cases e1:d<=t - gr
   ·have d1:decide (d<=t - gr)=true:=decide_eq_true e1
    have hp2:((l.take (k+1)).filter (lateS t d)).map (·.client)=M++ [gc]:=by rw[hp];simp [lateS,e1]
    have H:=hid hp2
    clear hp hp2 e1
    go_wp2_with (first
     | (at_builtin;refine wpList_append_one cellsI_length (by omega) rfl (.tmp 32) (.tmp 38) 34 rfl 3 i0 _ 8 Tryz.underlying34 hi hz0 hz1 hz2 rfl #[.int .i64 gc] gc rfl (cellsI_one _) M w.heap.size w.heap.size w _ rfl rfl HO.out (by unfold maxLen;omega) (by omega) HB.out.size HB.out (Nat.le_refl _) ?_;intro v5 w5 ho5 hb5 _;have HO5:=hid ho5;have HB5:=hid hb5;clear ho5 hb5))
    go_roundw
    case rel=>exact⟨k+1,M++ [gc],by omega,by go_num,H,by simp;omega,HO5,HB5⟩
    case measure=>simp [intOf];omega
   ·have d1:decide (d<=t - gr)=false:=decide_eq_false e1
    have hp2:((l.take (k+1)).filter (lateS t d)).map (·.client)=M:=by rw[hp];simp [lateS,e1]
    have H:=hid hp2
    clear hp hp2 e1
    go_wp2
    go_roundw
    case rel=>exact⟨k+1,M,by omega,by go_num,H,by omega,HO,HB⟩
    case measure=>simp [intOf];omega
  ·obtain rfl:k=L:=by omega
   have hM:=HM.out
   rw[<-HLL.out,List.take_length] at hM
   have H:=hid hM
   clear hM
   go_wp2
   go_ret
   rw[H.out]
   exact⟨_,rfl,HO.out,HB.out⟩
end Cm
end Go.Proofs.YthpknaieimlmnaaGreat
