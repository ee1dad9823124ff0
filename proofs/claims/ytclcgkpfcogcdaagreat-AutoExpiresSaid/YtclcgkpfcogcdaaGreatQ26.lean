/- Texts laid together by program. -/
import Derived.Test.YtclcgkpfcogcdaaGreatQ25
import Derived.Deep.RegionHeld3
/- Contracts: package lock's add. -/
set_option linter.unusedVariables false
set_option maxRecDepth 8000
set_option linter.unusedSimpArgs false
namespace Go.Proofs.YtclcgkpfcogcdaaGreat
open Lib (hid)
open Go.RowKit Go.Shelf
namespace Cm

def GetsB (r:List LockV × Int) (w:World) (e:Ending) (w':World):Prop:=
 ∃v M,e= .returned (.tuple #[v,.int .i64 r.2])/\vals M=r.1/\OwnN w.heap.size w' v M/\Below w.heap.size w w'
theorem ins_done {base k:Nat} {W w3:World} {m v:Value} {M:List LockC} {y:LockC} (ho:OwnD base W m M) (hy: ∀w',NewI base w' y.lv y.line) (hg:W.grownBy w3 m.ownBlock)
  (h3:w3.ownsRow base 60 4 v (M.length+1) (flatX cellsK (M.take k++y::M.drop k))) (hk:k<=M.length):OwnN base w3 v (M.take k++y::M.drop k):=by
 refine⟨?_,fun x hx=>?_⟩
 ·have e:(M.take k++y::M.drop k).length =M.length+1:=by simp;omega
  rw[e];exact h3
 ·have hM: ∀x∈M,NewI base w3 x.lv x.line:=fun x hx=>NewI.own (Rw.own_other (ho.line x hx) hg (own_types ho.row (ho.line x hx) (by decide)))
  rcases List.mem_append.1 hx with q | q
  ·exact hM x (List.mem_of_mem_take q)
  ·rcases List.mem_cons.1 q with q | q
   ·subst q;exact hy w3
   ·exact hM x (List.mem_of_mem_drop q)
set_option maxHeartbeats 4000000 in
theorem add_any (v:Value) (L:List LockC) (n:List UInt8) (c t:Int) (w:World) (h:RdK w v L) (h5:L.length<=1000) (h6: ∀x∈L,x.line.length<=1000) (hi:idxI (isNm n) (vals L)= -1):
  Calls Tryz.prog 202 #[v,.agg #[.string (bstr n),.int .i64 c,.int .i64 t,.slice none 0 0]] w (GetsB (if 4<=L.length then ([],5) else (putK ⟨n,c,t,[]⟩ (vals L),0)) w):=by
 have hm:=h.len
 have hb1:=newAlloc w (.cells #[.string (bstr n),.int .i64 c,.int .i64 t,.slice none 0 0] 60)
 obtain⟨c0,c1,c2,c3⟩:=box4 (Below.refl _ (w.alloc (.cells #[.string (bstr n),.int .i64 c,.int .i64 t,.slice none 0 0] 60)))
 obtain⟨W1,hW1⟩: ∃W1,W1=w.alloc (.cells #[.string (bstr n),.int .i64 c,.int .i64 t,.slice none 0 0] 60):=⟨_,rfl⟩
 rw[<-hW1] at hb1 c0 c1 c2 c3
 have HB:=hid hb1
 have HQ:Hid (∀w',Below W1.heap.size W1 w'->w'.cell? ⟨w.heap.size,0,none⟩=some (.string (bstr n))/\w'.cell? ⟨w.heap.size,1,none⟩=some (.int .i64 c)/\w'.cell? ⟨w.heap.size,2,none⟩=some (.int .i64 t)/\w'.cell? ⟨w.heap.size,3,none⟩=some (.slice none 0 0)):=hid fun w' hb=>⟨(hb.cell (lt_of_cell c0)).trans c0,(hb.cell (lt_of_cell c1)).trans c1,(hb.cell (lt_of_cell c2)).trans c2,(hb.cell (lt_of_cell c3)).trans c3⟩
 have KC:Hid (∀w',Below W1.heap.size W1 w'->Calls Tryz.prog 221 #[v] w' (MadeC (vals L) w')):=hid fun w' hb=>copies_any _ _ w' (h.later (step hb1 hb)) h5 h6
 have KP:Hid (∀w',Below W1.heap.size W1 w'->Calls Tryz.prog 222 #[v,.string (bstr n)] w' (SaysI (placeK n (vals L):Int) w')):=hid fun w' hb=>placeOfK_any _ _ n w' (h.later (step hb1 hb)).row hi
 have hle:placeK n (vals L)<=L.length:=by have:=placeK_le n (vals L);rw[vals_length] at this;exact this
 have HPP:Hid (putK ⟨n,c,t,[]⟩ (vals L)=(vals L).take (placeK n (vals L))++⟨n,c,t,[]⟩::(vals L).drop (placeK n (vals L))):=hid (putK_place _ _)
 have HLL:Hid (L.length=(vals L).length /\L.length<=1000):=hid ⟨(vals_length L).symm,h5⟩
 obtain⟨a,cap,rfl⟩:=h.form
 clear h h6 hi hb1 c0 c1 c2 c3
 by_cases h4:4<=L.length
 ·rw[if_pos h4]
  have d3:decide ((4:Int)<=(L.length:Int))=true:=decide_eq_true (by omega)
  clear HLL HPP KP KC HQ hle h4
  generalize L.length=N at*
  go_enter Tryz.func202,Tryz.ntmps202
  go_upto_region 1 with fail
  rw[<-hW1]
  clear hW1
  go_wp2
  go_ret2
  exact⟨_,[],rfl,rfl,OwnN.nil _ _,HB.out⟩
 ·rw[if_neg h4]
  have d3:decide ((4:Int)<=(L.length:Int))=false:=decide_eq_false (by omega)
  clear h4
  generalize putK ⟨n,c,t,[]⟩ (vals L)=R at*
  obtain⟨N,hN⟩: ∃N,L.length=N:=⟨_,rfl⟩
  rw[hN] at hm h5 hle d3 KC KP HLL ⊢
  clear hN
  generalize placeK n (vals L)=k at*
  have HIN:Hid (∀(M6:List LockC) (a6:Option Addr) (c6:Nat) (W:World) (b:Nat),vals M6=vals L->OwnD W1.heap.size W (.slice a6 M6.length c6) M6->W1.heap.size<=W.heap.size->W.heap[b]?=some (.cells #[.string (bstr n),.int .i64 c,.int .i64 t,.slice none 0 0] 60)->(Value.slice a6 M6.length c6).ownBlock ≠some b->
    Calls Tryz.prog 220 #[.slice a6 M6.length c6,.int .i64 (k:Int),.slice (some ⟨b,0,none⟩) 1 1] W (Inserted W1.heap.size (.slice a6 M6.length c6) M6 k ⟨n,c,t,[],none,0⟩ W)):=hid fun M6 a6 c6 W b hm ho hs hy hne=>by
   have hml:M6.length=N:=(vlen hm).trans ((vals_length L).symm.trans HLL.out.1.symm)
   exact Insert_any W1.heap.size M6 k ⟨n,c,t,[],none,0⟩ b W _ ho.row (by omega) hs hy (by omega) hne
  go_enter Tryz.func202,Tryz.ntmps202
  go_upto_region 1 with fail
  rw[<-hW1]
  clear hW1
  go_upto_region 3 with fail
  obtain⟨k0,k1,k2,k3⟩:=HQ.out _ (Below.refl _ W1)
  go_region_held3 (fun w'=>w'.cell? ⟨w.heap.size,0,none⟩=some (.string (bstr n))/\w'.cell? ⟨w.heap.size,1,none⟩=some (.int .i64 c)/\w'.cell? ⟨w.heap.size,2,none⟩=some (.int .i64 t)/\w'.cell? ⟨w.heap.size,3,none⟩=some (.slice none 0 0)) (first | exact⟨k0,k1,k2,k3⟩ | exact HQ.out _ (Below.refl _ _).drew | exact HQ.out _ ((newAlloc W1 _).drew) | exact HQ.out _ HB6.out | exact HQ.out _ HB7.out | exact HQ.out _ (stepAlloc HB6.out _) | exact HQ.out _ HB8.out | exact HQ.out _ (stepAlloc HB7.out _) | go_keep) (first
   | (go_at_call 221;refine(KC.out _ (Below.refl _ _).drew).mono ?_;rintro e w6 ⟨v6,M6,rfl,hm6,ho6,hb6⟩;obtain⟨a6,c6,rfl⟩:=Rw.own_form ho6.row;have HO6:Hid (OwnD W1.heap.size w6 (.slice a6 M6.length c6) M6):=hid ho6;have HB6:Hid (Below W1.heap.size W1 w6):=hid (step (Below.refl _ _).drew hb6);have HM6:=hid hm6;clear ho6 hb6 hm6)
   | (go_at_call 221;refine(KC.out _ ((newAlloc W1 (.cells #[.string (bstr n),.int .i64 c,.int .i64 t,.slice none 0 0] 60)).drew)).mono ?_;rintro e w6 ⟨v6,M6,rfl,hm6,ho6,hb6⟩;obtain⟨a6,c6,rfl⟩:=Rw.own_form ho6.row;have HO6:Hid (OwnD W1.heap.size w6 (.slice a6 M6.length c6) M6):=hid (ho6.lower (newAlloc W1 (.cells #[.string (bstr n),.int .i64 c,.int .i64 t,.slice none 0 0] 60)).size);have HB6:Hid (Below W1.heap.size W1 w6):=hid (step (newAlloc W1 (.cells #[.string (bstr n),.int .i64 c,.int .i64 t,.slice none 0 0] 60)).drew hb6);have HM6:=hid hm6;have HY6:Hid (w6.heap[W1.heap.size]?=some (.cells #[.string (bstr n),.int .i64 c,.int .i64 t,.slice none 0 0] 60)):=hid ((hb6.block W1.heap.size (show W1.heap.size<(W1.alloc (.cells #[.string (bstr n),.int .i64 c,.int .i64 t,.slice none 0 0] 60)).heap.size by simp)).trans (heap_alloc_new W1 _));have HN6:Hid ((Value.slice a6 M6.length c6).ownBlock ≠some W1.heap.size):=hid (fun q=>by have:=(Rw.own_lt ho6.row _ q).1;simp at this;omega);clear ho6 hb6 hm6)
   | (go_at_call 222;have HY66:=HY6;refine(KP.out _ HB6.out).mono ?_;rintro e w7 ⟨rfl,hb7⟩;have HOI:=hid (HO6.out.later hb7);have HB7:Hid (Below W1.heap.size W1 w7):=hid (step HB6.out hb7);have HBI:=HB7;have HYI:=hid ((hb7.block W1.heap.size (by have:=(HO6.out);exact(Array.getElem?_eq_some_iff.1 HY6.out).1)).trans HY6.out);have HNI:=HN6;clear hb7)
   | (go_at_call 222;refine(KP.out _ HB6.out).mono ?_;rintro e w7 ⟨rfl,hb7⟩;have HOJ:=hid (HO6.out.later hb7);have HB7:Hid (Below W1.heap.size W1 w7):=hid (step HB6.out hb7);have HBI:Hid (Below W1.heap.size W1 (w7.alloc (.cells #[.string (bstr n),.int .i64 c,.int .i64 t,.slice none 0 0] 60))):=hid (stepAlloc HB7.out _);have HOI:Hid (OwnD W1.heap.size (w7.alloc (.cells #[.string (bstr n),.int .i64 c,.int .i64 t,.slice none 0 0] 60)) (.slice a6 M6.length c6) M6):=hid (HOJ.out.later (newAlloc _ _));have HNI:Hid ((Value.slice a6 M6.length c6).ownBlock ≠some w7.heap.size):=hid (own_ne_lt HOJ.out.row (Nat.le_refl _));have HYI:Hid ((w7.alloc (.cells #[.string (bstr n),.int .i64 c,.int .i64 t,.slice none 0 0] 60)).heap[w7.heap.size]?=some (.cells #[.string (bstr n),.int .i64 c,.int .i64 t,.slice none 0 0] 60)):=hid (heap_alloc_new w7 _);clear hb7)
   | (go_at_call 222;refine(KP.out _ (stepAlloc HB6.out _)).mono ?_;rintro e w7 ⟨rfl,hb7⟩;have HOJ:=HO6;have HB7:Hid (Below W1.heap.size W1 w7):=hid (step (stepAlloc HB6.out _) hb7);have HBI:=HB7;have HOI:Hid (OwnD W1.heap.size w7 (.slice a6 M6.length c6) M6):=hid (HO6.out.later (step (newAlloc w6 _) hb7));have HNI:Hid ((Value.slice a6 M6.length c6).ownBlock ≠some w6.heap.size):=hid (own_ne_lt HOJ.out.row (Nat.le_refl _));have HYI:Hid (w7.heap[w6.heap.size]?=some (.cells #[.string (bstr n),.int .i64 c,.int .i64 t,.slice none 0 0] 60)):=hid ((hb7.block w6.heap.size (by simp)).trans (heap_alloc_new w6 _));clear hb7)
   | (go_at_call 220;refine(HIN.out _ _ _ _ _ HM6.out HOI.out HBI.out.size HYI.out HNI.out).mono ?_;rintro e w8 ⟨v8,rfl,ho8,hg8⟩;have HO8:=hid ho8;have HG8:=hid hg8;have HB8:Hid (Below W1.heap.size W1 w8):=hid (HBI.out.grown hg8 HBI.out.size (fun g hg=>(Rw.own_lt HOI.out.row g hg).1));clear ho8 hg8))
  all_goals
   go_wp2
   go_ret2
   refine⟨v8,M6.take k++(⟨n,c,t,[],none,0⟩:LockC)::M6.drop k,rfl,?_,(ins_done HOI.out (fun w'=>NewI.nil _ _) HG8.out HO8.out (by have:=vlen HM6.out;have:=HLL.out;rw[vals_length] at this;omega)).lower HB.out.size,step HB.out HB8.out⟩
   rw[HPP.out,vals_append,vals_take,HM6.out]
   show _++_::vals (M6.drop k)= _
   rw[vals_drop,HM6.out]
   rfl
end Cm
end Go.Proofs.YtclcgkpfcogcdaaGreat

/- Contracts: slices.Index, slices.Contains of numbers. -/
set_option linter.unusedVariables false
set_option maxRecDepth 8000
set_option linter.unusedSimpArgs false
namespace Go.Proofs.YtclcgkpfcogcdaaGreat
open Lib (hid)
open Go.RowKit
namespace Cm

def SaysN (r:Int) (w:World) (e:Ending) (w':World):Prop:=e= .returned (.int .i64 r)/\w'=w
theorem Index_num (v:Value) (l:List Int) (c:Int) (w:World) (h:RdI w v l):Calls Tryz.prog 179 #[v,.int .i64 c] w (SaysN (idxI (isN c) l) w):=by
 have hm:=h.len
 obtain⟨a,cap,rfl⟩:=h.form
 have HA:=hid (fun i hi=>rdi_at h i hi)
 have HH:=hid (idxI_hit (isN c) l)
 have HM:=hid (idxI_miss (isN c) l)
 clear h
 obtain⟨L,hL⟩: ∃L,l.length=L:=⟨_,rfl⟩
 have HLL:=hid hL
 rw[hL] at hm ⊢
 clear hL
 go_enter Tryz.func179,Tryz.ntmps179
 go_wp2
 go_loop [8] (fun i=> ∃k:Nat,k<=L/\i= .int .i64 k/\Hid (∀j (hj:j<k) (hl:j<l.length),isN c l[j]=false)) (fun i=>L - (intOf i).toNat)
 case atStart=>exact⟨0,by omega,rfl,hid (fun j hj=>absurd hj (Nat.not_lt_zero _))⟩
 case round=>
  obtain⟨k,hk,rfl,HJ⟩:=hrel
  by_cases hlt:k<L
  ·have hkl:k<l.length:=by rw[HLL.out];exact hlt
   obtain⟨b,o,rfl,hc⟩:=HA.out k hkl
   have q1:=hc w (Below.refl _ _)
   have HI:Hid (isN c l[k]=true->idxI (isN c) l=k):=hid (fun q=>HH.out k hkl q (fun j hj=>HJ.out j hj (by omega)))
   have HN:Hid (isN c l[k]=false-> ∀j (hj:j<k+1) (hl:j<l.length),isN c l[j]=false):=hid (fun q j hj hl=>by
    by_cases e:j=k
    ·subst e;exact q
    ·exact HJ.out j (by omega) hl)
   clear HA HH HM hc
   generalize l[k]=g at q1 HI HN
   by_cases hq:g=c
   ·have d:(c==g)=true:=by simpa using hq.symm
    have H:=hid (HI.out (by unfold isN;exact decide_eq_true hq))
    clear hq HI HN
    go_wp2
    go_ret
    exact⟨by rw[H.out];rfl,rfl⟩
   ·have d:(c==g)=false:=by simpa using fun q=>hq q.symm
    have H:=hid (HN.out (by unfold isN;exact decide_eq_false hq))
    clear hq HI HN
    go_wp2
    go_round
    case rel=>exact⟨k+1,by omega,by go_num,H⟩
    case measure=>simp [intOf];omega
  ·obtain rfl:k=L:=by omega
   have H:=hid (HM.out (fun j hj=>HJ.out j (by rw[<-HLL.out];exact hj) hj))
   clear HM HH
   go_wp2
   go_ret
   exact⟨by rw[H.out];rfl,rfl⟩
theorem Contains_num (v:Value) (l:List Int) (c:Int) (w:World) (h:RdI w v l):Calls Tryz.prog 132 #[v,.int .i64 c] w (Says (hasL l c) w):=by
 rw[hasL_idx]
 have HC:=hid (Index_num v l c w h)
 obtain⟨a,cap,rfl⟩:=h.form
 clear h
 generalize idxI (isN c) l=r at HC ⊢
 generalize l.length=L at*
 go_enter Tryz.func132,Tryz.ntmps132
 go_wp2_with (go_at_call 179;refine HC.out.mono ?_;rintro e w' ⟨rfl,rfl⟩)
 go_ret
 exact⟨by simp,rfl⟩
end Cm
end Go.Proofs.YtclcgkpfcogcdaaGreat

/- Contracts: package line's Right, Ahead, Join, Leave, Next, Without. -/
set_option linter.unusedVariables false
set_option maxRecDepth 8000
set_option linter.unusedSimpArgs false
namespace Go.Proofs.YtclcgkpfcogcdaaGreat
open Lib (hid)
open Go.RowKit
namespace Cm

theorem isClient_any (c:Int) (w:World):Calls Tryz.prog 196 #[.int .i64 c] w (Says (clientF c) w):=by
  unfold clientF
  by_cases h1:0<=c<;>by_cases h2:c<8<;>
    (go_enter Tryz.func196,Tryz.ntmps196
     go_wp2
     go_ret
     exact⟨by simp [h1,h2]<;>omega,rfl⟩)
set_option maxHeartbeats 2000000 in
theorem LineRight_any (v:Value) (l:List Int) (w:World) (h:RdI w v l):Calls Tryz.prog 154 #[v] w (SaysB (rightL l) w):=by
 have hm:=h.len
 obtain⟨a,cap,rfl⟩:=h.form
 unfold rightL
 by_cases c6:l.length<=3
 case neg=>
  rw[decide_eq_false c6,Bool.false_and]
  clear h
  have d5:decide (3<(l.length:Int))=true:=by simp;omega
  generalize l.length=L at*
  go_enter Tryz.func154,Tryz.ntmps154
  go_wp2
  go_ret
  exact⟨rfl,Below.refl _ _⟩
 rw[decide_eq_true c6,Bool.true_and]
 have d5:decide (3<(l.length:Int))=false:=by simp;omega
 have hcap:l.length<=cap/\cap<=maxLen:=by
  obtain⟨a',cap',hv,q1,q2,_⟩:=h.ex
  cases hv
  exact⟨q1,q2⟩
 have HA:=hid (fun i hi=>rdi_at h i hi)
 have HT:=hid (fun k (hk:k<=l.length) x=>Contains_num _ (l.take k) x w (h.take k hk))
 have HD:=hid (lineGo_drop l)
 clear h
 obtain⟨L,hL⟩: ∃L,l.length=L:=⟨_,rfl⟩
 have HLL:=hid hL
 rw[hL] at hm c6 d5 hcap ⊢
 clear hL
 obtain⟨hc1,hc2⟩:=hcap
 go_enter Tryz.func154,Tryz.ntmps154
 go_wp2
 go_loop [10] (fun i=> ∃j:Nat,j<=L/\i= .int .i64 j/\Hid (lineGo [] l=lineGo (l.take j) (l.drop j))) (fun i=>L - (intOf i).toNat)
 case atStart=>exact⟨0,by omega,rfl,hid rfl⟩
 case round=>
  obtain⟨j,hj,rfl,HG⟩:=hrel
  by_cases hlt:j<L
  ·have hjl:j<l.length:=by rw[HLL.out];exact hlt
   obtain⟨b,o,rfl,hc⟩:=HA.out j hjl
   have q0:=hc _ (Below.refl _ _)
   have HT2:=hid (HT.out j (by rw[HLL.out];exact hj))
   have hd:=HD.out j hjl
   clear hc HT HA HD
   generalize l[j]=x at q0 hd
   have HI:=hid (HT2.out x)
   clear HT2
   have g1:(0:Int)<=(j:Int):=by omega
   have g2:(j:Int)<(L:Int):=by omega
   have g3:(j:Int)<=(cap:Int):=by omega
   generalize l.take j=P at HI hd HG
   have CC:=hid (isClient_any x w)
   cases n1:clientF x with
   | false=>
    rw[n1] at hd CC
    have H:=hid hd
    clear hd n1
    go_wp2_with (go_at_call 196;refine CC.out.mono ?_;rintro e w1 ⟨rfl,rfl⟩)
    go_ret
    exact⟨by rw[HG.out,H.out];rfl,Below.refl _ _⟩
   | true=>
    rw[n1] at hd CC
    cases n2:hasL P x with
    | true=>
     rw[n2] at hd HI
     have H:=hid hd
     clear hd n1 n2
     go_wp2_with (first
      | (go_at_call 196;refine CC.out.mono ?_;rintro e w1 ⟨rfl,rfl⟩)
      | (go_at_call 132;refine HI.out.mono ?_;rintro e w1 ⟨rfl,rfl⟩))
     go_ret
     exact⟨by rw[HG.out,H.out];rfl,Below.refl _ _⟩
    | false=>
     rw[n2] at hd HI
     have H:=hid hd
     clear hd n1 n2
     go_wp2_with (first
      | (go_at_call 196;refine CC.out.mono ?_;rintro e w1 ⟨rfl,rfl⟩)
      | (go_at_call 132;refine HI.out.mono ?_;rintro e w1 ⟨rfl,rfl⟩))
     go_round
     case rel=>exact⟨j+1,by omega,by go_num,hid (by rw[HG.out,H.out];simp)⟩
     case measure=>simp [intOf];omega
  ·obtain rfl:j=L:=by omega
   have hg:=HG.out
   rw[<-HLL.out,List.drop_length] at hg
   have HE:=hid hg
   clear hg HT
   go_wp2
   go_ret
   exact⟨by rw[HE.out];rfl,Below.refl _ _⟩
theorem LineAhead_any (v:Value) (l:List Int) (c:Int) (w:World) (h:RdI w v l):Calls Tryz.prog 223 #[v,.int .i64 c] w (StandsB (aheadL l c) w):=by
 have HC:=hid (Index_num v l c w h)
 obtain⟨a,cap,rfl⟩:=h.form
 clear h
 unfold aheadL
 have hge:=idxI_ge (isN c) l
 generalize idxI (isN c) l=r at HC hge ⊢
 generalize l.length=L at*
 by_cases h0:r<0
 ·rw[if_pos h0]
  go_enter Tryz.func223,Tryz.ntmps223
  go_wp2_with (go_at_call 179;refine HC.out.mono ?_;rintro e w' ⟨rfl,rfl⟩)
  go_ret2
  exact⟨rfl,Below.refl _ _⟩
 ·rw[if_neg h0]
  go_enter Tryz.func223,Tryz.ntmps223
  go_wp2_with (go_at_call 179;refine HC.out.mono ?_;rintro e w' ⟨rfl,rfl⟩)
  go_ret2
  exact⟨rfl,Below.refl _ _⟩
set_option maxHeartbeats 2000000 in
theorem LineWithout_any (v u:Value) (l g:List Int) (w:World) (h:RdI w v l) (h2:RdI w u g) (h5:l.length<=1000):Calls Tryz.prog 177 #[v,u] w (GetsN (withoutL l g) w):=by
 have hm:=h.len
 obtain⟨a,cap,rfl⟩:=h.form
 have HA:=hid (fun i hi=>rdi_at h i hi)
 have HF:=hid (withoutL_succ l g)
 have HG:=hid (fun x w' (hb:Below w.heap.size w w')=>Contains_num u g x w' (h2.later hb))
 obtain⟨a2,cap2,rfl⟩:=h2.form
 clear h h2
 obtain⟨i0,hi,hz0,hz1,hz2⟩:=info_parts infoN
 obtain⟨L,hL⟩: ∃L,l.length=L:=⟨_,rfl⟩
 have HLL:=hid hL
 rw[hL] at hm h5 ⊢
 clear hL
 generalize g.length=GL at*
 go_enter Tryz.func177,Tryz.ntmps177
 go_wp2
 go_loopw [5,10] (fun m i wr=> ∃(k:Nat) (M:List Int),k<=L/\i= .int .i64 k/\Hid (withoutL (l.take k) g=M)/\M.length<=k/\Hid (wr.ownsRow w.heap.size 3 1 m M.length (flatX cellsI M))/\Hid (Below w.heap.size w wr)) (fun _ i _=>L - (intOf i).toNat)
 case atStart=>exact⟨0,[],by omega,rfl,hid rfl,by simp,hid (World.ownsRow_nil _ _ _ _),hid (Below.refl _ _)⟩
 case round=>
  obtain⟨k,M,hk,rfl,HM,hMk,HO,HB⟩:=hrel
  by_cases hlt:k<L
  ·have hkl:k<l.length:=by rw[HLL.out];exact hlt
   obtain⟨b,o,rfl,hc⟩:=HA.out k hkl
   have q0:=hc _ HB.out
   have hp:=HF.out k hkl
   rw[HM.out] at hp
   clear hc HA HF
   generalize l[k]=x at q0 hp
   have HI:=hid (HG.out x wr HB.out)
   clear HG
   cases n1:hasL g x with
   | true=>
    have H:Hid (withoutL (l.take (k+1)) g=M):=hid (by rw[hp,n1];simp)
    rw[n1] at HI
    clear hp n1
    go_wp2_with fail
    refine HI.out.mono ?_
    rintro e w1 ⟨rfl,rfl⟩
    go_wp2
    go_roundw
    case rel=>exact⟨k+1,M,by omega,by go_num,H,by omega,HO,HB⟩
    case measure=>simp [intOf];omega
   | false=>
    have H:Hid (withoutL (l.take (k+1)) g=M++ [x]):=hid (by rw[hp,n1];simp)
    rw[n1] at HI
    clear hp n1
    go_wp2_with fail
    refine HI.out.mono ?_
    rintro e w1 ⟨rfl,rfl⟩
    go_wp2_with (at_builtin;(refine wpList_append_one cellsI_length (by omega) rfl (.tmp 18) (.tmp 20) 58 rfl 3 i0 _ 8 Tryz.underlying58 hi hz0 hz1 hz2 rfl #[.int .i64 x] x rfl (cellsI_one _) M w.heap.size w.heap.size w _ rfl rfl HO.out (by unfold maxLen;omega) (by omega) HB.out.size HB.out (Nat.le_refl _) ?_);intro v5 w5 ho5 hb5 _;have HO5:=hid ho5;have HB5:=hid hb5;clear ho5 hb5)
    go_roundw
    case rel=>exact⟨k+1,M++ [x],by omega,by go_num,H,by simp;omega,HO5,HB5⟩
    case measure=>simp [intOf];omega
  ·obtain rfl:k=L:=by omega
   have hM:=HM.out
   rw[<-HLL.out,List.take_length] at hM
   have H:=hid hM
   clear hM
   go_wp2
   go_ret
   rw[H.out]
   exact⟨_,rfl,HO.out,HB.out⟩
end Cm
end Go.Proofs.YtclcgkpfcogcdaaGreat
