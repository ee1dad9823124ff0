/- Texts laid together by program. -/
import Derived.Test.YtmodbbmdkealdaaV12
/- Contract: the document's Accept. -/
set_option linter.unusedVariables false
set_option maxRecDepth 8000
set_option linter.unusedSimpArgs false
namespace Go.Proofs.Ytmodbbmdkealdaa
open Lib (hid)
open Go.RowKit
namespace Ac
open Cm

def Mix (L:List VoteC) (x:VoteC) (A:List VoteC):Prop:= ∀y∈A,y∈L\/y=x
theorem Mix.nil (L:List VoteC) (x:VoteC):Mix L x []:=fun y h=>by cases h
theorem Mix.new {L:List VoteC} {x:VoteC} {A:List VoteC} (h:Mix L x A):Mix L x (A++ [x]):=fun y hy=>by
 rcases List.mem_append.1 hy with q | q
 ·exact h y q
 ·exact .inr (List.mem_singleton.1 q)
theorem Mix.old {L:List VoteC} {x y:VoteC} {A:List VoteC} (h:Mix L x A) (hy:y∈L):Mix L x (A++ [y]):=fun z hz=>by
 rcases List.mem_append.1 hz with q | q
 ·exact h z q
 ·rw[List.mem_singleton.1 q];exact .inl hy
set_option maxHeartbeats 8000000 in
theorem RefAccept_any (g1 g m:Nat) (s:AccV) (b t:Int) (x:BatV) (u:Value) (w:World) (h:HasW w g1 g m s) (hs:Good s) (hr:RdR w u x.reqs) (hu: ∀k,u.ownBlock=some k->x.reqs≠ []->k≠g/\k≠g1):
  Calls Try.prog 15 #[.pointer (some ⟨g,0,none⟩),.int .i64 b,.int .i64 t,batVal x u] w (DidW g1 g m (accF s b t x) w):=by
 obtain⟨ua,uc,rfl⟩:=hr.form
 have CB:=hid (fun w=>high12_any b 0 w)
 have CS:=hid (fun w=>high12_any t 1 w)
 have hb1:=newAlloc w (.cells #[.bool x.fill,.int .i64 x.view,.int .i64 x.tv,.int .i64 x.ts,.int .i64 x.time,.slice ua x.reqs.length uc] 27)
 have k1:=alloc_atB w (.cells #[.bool x.fill,.int .i64 x.view,.int .i64 x.tv,.int .i64 x.ts,.int .i64 x.time,.slice ua x.reqs.length uc] 27) _ rfl
 obtain⟨W1,hW1⟩: ∃W1,W1=w.alloc (.cells #[.bool x.fill,.int .i64 x.view,.int .i64 x.tv,.int .i64 x.ts,.int .i64 x.time,.slice ua x.reqs.length uc] 27):=⟨_,rfl⟩
 rw[<-hW1] at hb1 k1
 have CM:=hid (RefMayB_any x (.slice ua x.reqs.length uc) W1 (hr.later hb1))
 have HB1:=hid hb1
 have HK1:=hid k1
 have HA1:=hid (h.later hb1)
 have HR1:=hid (hr.later hb1)
 have HU:=hid hu
 have HG:=hid hs
 have hgl:=h.lt
 clear hb1 k1 h hr hu hs
 have c0:=cell_at HK1.out 0
 have c1:=cell_at HK1.out 1
 have c2:=cell_at HK1.out 2
 have c3:=cell_at HK1.out 3
 have c4:=cell_at HK1.out 4
 have c5:=cell_at HK1.out 5
 simp at c0 c1 c2 c3 c4 c5
 unfold batVal at CM ⊢
 rcases hE:accF s b t x with ⟨s',cd⟩
 unfold accF at hE
 by_cases h1:highF b 0=false
 ·rw[if_pos (by rw[h1];rfl)] at hE
  rw[h1] at CB
  cases hE
  clear h1
  go_enter Try.func15,Try.ntmps15
  go_upto_region 1 with fail
  rw[<-hW1]
  clear hW1
  go_wp2_with (go_at_call 25;refine(CB.out _).mono ?_;rintro e w1 ⟨rfl,rfl⟩)
  go_ret
  exact⟨rfl,HA1.out,gr_new _ HB1.out⟩
 rw[Bool.not_eq_false] at h1
 rw[h1] at CB
 by_cases h2:highF t 1=false
 ·rw[if_pos (by rw[h1,h2];rfl)] at hE
  rw[h2] at CS
  cases hE
  clear h1 h2
  go_enter Try.func15,Try.ntmps15
  go_upto_region 1 with fail
  rw[<-hW1]
  clear hW1
  go_wp2_with fail
  refine(CB.out _).mono ?_
  rintro e w1 ⟨rfl,rfl⟩
  go_wp2_with fail
  refine(CS.out _).mono ?_
  rintro e w1 ⟨rfl,rfl⟩
  go_wp2
  go_ret
  exact⟨rfl,HA1.out,gr_new _ HB1.out⟩
 rw[Bool.not_eq_false] at h2
 rw[h2] at CS
 by_cases h3:mayB x=false
 ·rw[if_pos (by rw[h1,h2,h3];rfl)] at hE
  rw[h3] at CM
  cases hE
  clear h1 h2 h3
  go_enter Try.func15,Try.ntmps15
  go_upto_region 1 with fail
  rw[<-hW1]
  clear hW1
  go_wp2_with fail
  refine(CB.out _).mono ?_
  rintro e w1 ⟨rfl,rfl⟩
  go_wp2_with fail
  refine(CS.out _).mono ?_
  rintro e w1 ⟨rfl,rfl⟩
  go_wp2_with fail
  refine CM.out.mono ?_
  rintro e w2 ⟨rfl,hb2⟩
  have HB2:=hid hb2
  have a0:=(HA1.out.later HB2.out).c0
  have a1:=(HA1.out.later HB2.out).c1
  have af:=(HA1.out.later HB2.out).open_ 0
  clear hb2
  go_wp2
  go_ret
  exact⟨rfl,HA1.out.later HB2.out,gr_new _ (step HB1.out HB2.out)⟩
 rw[Bool.not_eq_false] at h3
 rw[h3] at CM
 rw[if_neg (by rw[h1,h2,h3];decide)] at hE
 have HM:=hid h3
 have HT:=hid h2
 clear h1 h3
 by_cases h4:b<s.ballot
 ·rw[if_pos (.inl h4)] at hE
  cases hE
  have d4:decide (b<s.ballot)=true:=decide_eq_true h4
  clear h2 h4
  go_enter Try.func15,Try.ntmps15
  go_upto_region 1 with fail
  rw[<-hW1]
  clear hW1
  go_wp2_with fail
  refine(CB.out _).mono ?_
  rintro e w1 ⟨rfl,rfl⟩
  go_wp2_with fail
  refine(CS.out _).mono ?_
  rintro e w1 ⟨rfl,rfl⟩
  go_wp2_with fail
  refine CM.out.mono ?_
  rintro e w2 ⟨rfl,hb2⟩
  have HB2:=hid hb2
  have a0:=(HA1.out.later HB2.out).c0
  have a1:=(HA1.out.later HB2.out).c1
  have af:=(HA1.out.later HB2.out).open_ 0
  clear hb2
  go_wp2
  go_ret
  exact⟨rfl,HA1.out.later HB2.out,gr_new _ (step HB1.out HB2.out)⟩
 have d4:decide (b<s.ballot)=false:=decide_eq_false h4
 by_cases h5:t<=s.done
 ·rw[if_pos (.inr h5)] at hE
  cases hE
  have d5:decide (t<=s.done)=true:=decide_eq_true h5
  clear h2 h4 h5
  go_enter Try.func15,Try.ntmps15
  go_upto_region 1 with fail
  rw[<-hW1]
  clear hW1
  go_wp2_with fail
  refine(CB.out _).mono ?_
  rintro e w1 ⟨rfl,rfl⟩
  go_wp2_with fail
  refine(CS.out _).mono ?_
  rintro e w1 ⟨rfl,rfl⟩
  go_wp2_with fail
  refine CM.out.mono ?_
  rintro e w2 ⟨rfl,hb2⟩
  have HB2:=hid hb2
  have a0:=(HA1.out.later HB2.out).c0
  have a1:=(HA1.out.later HB2.out).c1
  have af:=(HA1.out.later HB2.out).open_ 0
  clear hb2
  go_wp2
  go_ret
  exact⟨rfl,HA1.out.later HB2.out,gr_new _ (step HB1.out HB2.out)⟩
 have d5:decide (t<=s.done)=false:=decide_eq_false h5
 rw[if_neg (by omega)] at hE
 have e9:IntKind.i64.wrap (t - s.done)=t - s.done:=by
  have:=HG.out.d0
  have:=HG.out.d1
  simp [highF] at h2
  rw[IntKind.wrap_i64]
  omega
 by_cases h6:s.done+9<t
 ·rw[if_pos h6] at hE
  cases hE
  have d6:decide (9<t - s.done)=true:=decide_eq_true (by omega)
  clear h2 h4 h5 h6
  go_enter Try.func15,Try.ntmps15
  go_upto_region 1 with fail
  rw[<-hW1]
  clear hW1
  go_wp2_with fail
  refine(CB.out _).mono ?_
  rintro e w1 ⟨rfl,rfl⟩
  go_wp2_with fail
  refine(CS.out _).mono ?_
  rintro e w1 ⟨rfl,rfl⟩
  go_wp2_with fail
  refine CM.out.mono ?_
  rintro e w2 ⟨rfl,hb2⟩
  have HB2:=hid hb2
  have a0:=(HA1.out.later HB2.out).c0
  have a1:=(HA1.out.later HB2.out).c1
  have af:=(HA1.out.later HB2.out).open_ 0
  clear hb2
  go_wp2
  go_ret
  exact⟨rfl,HA1.out.later HB2.out,gr_new _ (step HB1.out HB2.out)⟩
 rw[if_neg h6] at hE
 have d6:decide (9<t - s.done)=false:=decide_eq_false (by omega)
 cases hE
 clear h2 h4 h5 h6
 obtain⟨i1,hi1,hz0,hz1,hz2⟩:=info_partsA infoV
 go_enter Try.func15,Try.ntmps15
 go_upto_region 1 with fail
 rw[<-hW1]
 clear hW1
 go_wp2_with fail
 refine(CB.out _).mono ?_
 rintro e w1 ⟨rfl,rfl⟩
 go_wp2_with fail
 refine(CS.out _).mono ?_
 rintro e w1 ⟨rfl,rfl⟩
 go_wp2_with fail
 refine CM.out.mono ?_
 rintro e w2 ⟨rfl,hb2⟩
 have HB2:=hid hb2
 have a0:=(HA1.out.later HB2.out).c0
 have a1:=(HA1.out.later HB2.out).c1
 have af:=(HA1.out.later HB2.out).open_ 0
 clear hb2
 go_upto_region 8 with fail
 clear c0 c1 c2 c3 c4 c5 a0 a1 af d4 d5 d6 e9
 have hA2:=HA1.out.later HB2.out
 have HA3:=hid (hA2.putB b)
 have hg2:=hA2.lt
 have HGR:Hid (w.grownBy (w2.setCell ⟨g,0,none⟩ (.int .i64 b)) (some g)):=hid ((gr_new _ (step HB1.out HB2.out)).trans (grown_setA w2 g 0 _))
 have HR3:Hid (RdR (w2.setCell ⟨g,0,none⟩ (.int .i64 b)) (.slice ua x.reqs.length uc) x.reqs):=hid ((HR1.out.later HB2.out).but (grown_setA w2 g 0 _) (fun k hk hl q=>(HU.out k hk hl).1 (by cases q;rfl)))
 have hk3:(w2.setCell ⟨g,0,none⟩ (.int .i64 b)).heap[w.heap.size]?= _:=(Below.heap_setCell w2 ⟨g,0,none⟩ (.int .i64 b) w.heap.size (by show w.heap.size≠g;omega)).trans ((HB2.out.block _ (get_ltB HK1.out)).trans HK1.out)
 generalize w2.setCell ⟨g,0,none⟩ (.int .i64 b)=W3 at HA3 HGR HR3 hk3 ⊢
 clear hA2 hg2 HA1 HB1 HB2 HK1 HR1 CM
 have c0:=cell_at hk3 0
 have c1:=cell_at hk3 1
 have c2:=cell_at hk3 2
 have c3:=cell_at hk3 3
 have c4:=cell_at hk3 4
 have c5:=cell_at hk3 5
 simp at c0 c1 c2 c3 c4 c5
 clear hk3
 go_upto_region 11 with fail
 clear c0 c1 c2 c3 c4 c5
 have hv4:=alloc_atB W3 (.cells #[.int .i64 t,.int .i64 b,.bool x.fill,.int .i64 x.view,.int .i64 x.tv,.int .i64 x.ts,.int .i64 x.time,.slice ua x.reqs.length uc] 49) _ rfl
 have hb4:=newAlloc W3 (.cells #[.int .i64 t,.int .i64 b,.bool x.fill,.int .i64 x.view,.int .i64 x.tv,.int .i64 x.ts,.int .i64 x.time,.slice ua x.reqs.length uc] 49)
 have HGW:=hid (gr_below HGR.out hb4)
 have HW4:=hid (HA3.out.later hb4)
 have HR4:=hid (HR3.out.later hb4)
 generalize W3.alloc (.cells #[.int .i64 t,.int .i64 b,.bool x.fill,.int .i64 x.view,.int .i64 x.tv,.int .i64 x.ts,.int .i64 x.time,.slice ua x.reqs.length uc] 49)=W4 at hv4 HGW HW4 HR4 ⊢
 generalize W3.heap.size=nv at hv4 ⊢
 have HV4:=hid hv4
 clear hv4 hb4 HGR HA3 HR3
 obtain⟨lv,L,hL1,hL2,hL3,hL4⟩:=HW4.out.ex
 obtain⟨la,lc,rfl⟩:=Rw.own_form hL3
 have HL1:=hid hL1
 have HL4:=hid hL4
 have HAT:=hid (fun i hi=>rdv_at (RdX.own cellsV_length hL3) i hi)
 have hn:L.length<=9:=by rw[<-valsV_length,hL2];exact(show s.votes.length<=9 from good_len HG.out)
 obtain⟨TOT,hTOT⟩: ∃TOT,putV ⟨t,b,x⟩ s.votes=TOT:=⟨_,rfl⟩
 have HP0:Hid (refP ⟨t,b,x⟩ false [] (valsV L)=TOT):=hid (by rw[hL2,refP_go _ _ _ HG.out.list.rise,List.nil_append,hTOT])
 have HTT:=hid hTOT
 obtain⟨n,hnn⟩: ∃n,L.length=n:=⟨_,rfl⟩
 have HN:=hid hnn
 rw[hnn] at hn HL1
 clear hL1 hL2 hL3 hL4 hTOT hnn
 have HC:Hid (∀W,Below W4.heap.size W4 W->W.heap[g]?=some (.cells #[.int .i64 b,.int .i64 s.done,.slice la n lc] 35)/\W.heap[nv]?=some (.cells #[.int .i64 t,.int .i64 b,.bool x.fill,.int .i64 x.view,.int .i64 x.tv,.int .i64 x.ts,.int .i64 x.time,.slice ua x.reqs.length uc] 49)):=hid fun W hb=>⟨cells_later HL1.out hb,cells_later HV4.out hb⟩
 go_wp2
 go_loopw [9,10,12] (fun lv pt i wr=> ∃(k:Nat) (p:Bool) (A:List VoteC),k<=n/\i= .int .i64 (k:Int)/\pt= .bool p/\A.length<=2*k/\Hid (wr.ownsRow W4.heap.size 49 8 lv A.length (flatX cellsV A))/\Hid (Mix L ⟨t,b,x,ua,uc⟩ A)/\Hid (refP ⟨t,b,x⟩ p (valsV A) ((valsV L).drop k)=TOT)/\Hid (Below W4.heap.size W4 wr)) (fun _ _ i _=>n - (intOf i).toNat)
 case atStart=>exact⟨0,false,[],by omega,rfl,rfl,by simp,hid (World.ownsRow_nil _ _ _ _),hid (Mix.nil _ _),HP0,hid (Below.refl _ _)⟩
 case round=>
  obtain⟨k,p,A,hk,rfl,rfl,hA,HOW,HMX,HP,HBW⟩:=hrel
  obtain⟨hcg,hcv⟩:=HC.out _ HBW.out
  have c2:=cell_at hcg 2
  have cf:=frozen_at hcg
  have v0:=cell_at hcv 0
  have v1:=cell_at hcv 1
  have v2:=cell_at hcv 2
  have v3:=cell_at hcv 3
  have v4:=cell_at hcv 4
  have v5:=cell_at hcv 5
  have v6:=cell_at hcv 6
  have v7:=cell_at hcv 7
  simp at c2 v0 v1 v2 v3 v4 v5 v6 v7
  clear hcg hcv
  obtain⟨ma,mc,hmv⟩:=Rw.own_form HOW.out
  subst hmv
  have hb5:=HBW.out.size
  by_cases hlt:k<n
  ·have hkl:k<L.length:=by rw[HN.out];exact hlt
   obtain⟨b',o',rfl,hc⟩:=HAT.out k hkl
   obtain⟨q0,q1,q2,q3,q4,q5,q6,q7⟩:=hc _ HBW.out
   have hp:refP ⟨t,b,x⟩ p (valsV A) ((valsV L).drop k)=refP ⟨t,b,x⟩ (p || decide (t<=L[k].slot)) (if L[k].slot =t then (if !p && decide (t<=L[k].slot) then valsV A++ [⟨t,b,x⟩] else valsV A) else (if !p && decide (t<=L[k].slot) then valsV A++ [⟨t,b,x⟩] else valsV A)++ [L[k].val]) ((valsV L).drop (k+1)):=by
    rw[List.drop_eq_getElem_cons (by rw[valsV_length];exact hkl),refP,valsV_get L k hkl]
    rfl
   rw[hp] at HP
   have HIN:=hid (List.getElem_mem hkl)
   have HCX:=hid hc
   clear hc HAT hp
   generalize L[k]=y at q0 q1 q2 q3 q4 q5 q6 q7 HP HIN HCX
   obtain⟨y1,y2,⟨y3,y4,y5,y6,y7,y8⟩,ya,yc⟩:=y
   unfold VoteC.u at q7
   dsimp only at q0 q1 q2 q3 q4 q5 q6 q7 HP
   have kk:(k:Int)<(n:Int):=by omega
   have HCY:Hid (∀W,Below W4.heap.size W4 W->W.cell? ⟨b',o'+k*8,none⟩=some (.int .i64 y1)/\W.cell? ⟨b',o'+k*8+1,none⟩=some (.int .i64 y2)/\W.cell? ⟨b',o'+k*8+2,none⟩=some (.bool y3)/\W.cell? ⟨b',o'+k*8+3,none⟩=some (.int .i64 y4)/\W.cell? ⟨b',o'+k*8+4,none⟩=some (.int .i64 y5)/\W.cell? ⟨b',o'+k*8+5,none⟩=some (.int .i64 y6)/\W.cell? ⟨b',o'+k*8+6,none⟩=some (.int .i64 y7)/\W.cell? ⟨b',o'+k*8+7,none⟩=some (.slice ya y8.length yc)):=HCX
   cases p
   case true=>
    by_cases he:y1=t
    ·have e5:(y1 != t)=false:=by simpa using he
     have HP:=HP.out
     simp only[Bool.not_true,Bool.false_and,Bool.true_or,Bool.false_eq_true,if_false,if_true] at HP
     rw[if_pos he] at HP
     have HP:=hid HP
     go_wp2
     go_roundw
     case rel=>exact⟨k+1,true,A,by omega,by go_num,rfl,by (try simp only[List.length_append,List.length_singleton]);omega,HOW,hid (HMX.out),hid (HP.out),HBW⟩
     case measure=>simp [intOf];omega
    ·have e5:(y1 != t)=true:=by simpa using he
     have HP:=HP.out
     simp only[Bool.not_true,Bool.false_and,Bool.true_or,Bool.false_eq_true,if_false,if_true] at HP
     rw[if_neg he] at HP
     have HP:=hid HP
     have hb6:=HBW.out.size
     go_wp2_with (at_builtin;refine wpList_append_one cellsV_length (by omega) rfl _ _ 33 rfl 49 i1 _ 80 Try.underlying33 hi1 hz0 hz1 hz2 rfl #[.int .i64 y1,.int .i64 y2,.bool y3,.int .i64 y4,.int .i64 y5,.int .i64 y6,.int .i64 y7,.slice ya y8.length yc] (⟨y1,y2,⟨y3,y4,y5,y6,y7,y8⟩,ya,yc⟩:VoteC) rfl (cellsV_one _) A W4.heap.size W4.heap.size W4 (.slice ma A.length mc) rfl rfl HOW.out (by unfold maxLen;(try simp only[List.length_append,List.length_singleton]);omega) (by (try simp only[List.length_append,List.length_singleton]);omega) HBW.out.size HBW.out (Nat.le_refl _) ?_;intro v7 w7 ho hb _;have HO7:=hid ho;have HB7:=hid hb;clear ho hb)
     go_roundw
     case rel=>exact⟨k+1,true,(A++ [⟨y1,y2,⟨y3,y4,y5,y6,y7,y8⟩,ya,yc⟩]),by omega,by go_num,rfl,by (try simp only[List.length_append,List.length_singleton]);omega,HO7,hid (HMX.out.old HIN.out),hid (by rw[valsV_snoc];exact HP.out),HB7⟩
     case measure=>simp [intOf];omega
   case false=>
    by_cases hle:t<=y1
    ·have dle:decide (t<=y1)=true:=decide_eq_true hle
     by_cases he:y1=t
     ·have e5:(y1 != t)=false:=by simpa using he
      have HP:=HP.out
      simp only[Bool.not_false,Bool.true_and,Bool.false_or,dle,Bool.false_eq_true,if_false,if_true] at HP
      rw[if_pos he] at HP
      have HP:=hid HP
      go_upto_region 17 with (at_builtin;refine wpList_append_one cellsV_length (by omega) rfl _ _ 33 rfl 49 i1 _ 80 Try.underlying33 hi1 hz0 hz1 hz2 rfl #[.int .i64 t,.int .i64 b,.bool x.fill,.int .i64 x.view,.int .i64 x.tv,.int .i64 x.ts,.int .i64 x.time,.slice ua x.reqs.length uc] (⟨t,b,x,ua,uc⟩:VoteC) rfl (cellsV_one _) A W4.heap.size W4.heap.size W4 (.slice ma A.length mc) rfl rfl HOW.out (by unfold maxLen;(try simp only[List.length_append,List.length_singleton]);omega) (by (try simp only[List.length_append,List.length_singleton]);omega) HBW.out.size HBW.out (Nat.le_refl _) ?_;intro v6 w6 ho hb _;have HO6:=hid ho;have HB6:=hid hb;have c26:=cell_at (HC.out _ hb).1 2;have HLQ:=hid hb;clear ho hb;simp at c26;obtain⟨na,nc,hnv⟩:=Rw.own_form HO6.out;rw[List.length_append,List.length_singleton] at hnv;subst hnv)
      obtain⟨r0,r1,r2,r3,r4,r5,r6,r7⟩:=HCY.out _ HB6.out
      go_wp2
      go_roundw
      case rel=>exact⟨k+1,true,(A++ [⟨t,b,x,ua,uc⟩]),by omega,by go_num,rfl,by (try simp only[List.length_append,List.length_singleton]);omega,HO6,hid (HMX.out.new),hid (by rw[valsV_snoc];exact HP.out),HB6⟩
      case measure=>simp [intOf];omega
     ·have e5:(y1 != t)=true:=by simpa using he
      have HP:=HP.out
      simp only[Bool.not_false,Bool.true_and,Bool.false_or,dle,Bool.false_eq_true,if_false,if_true] at HP
      rw[if_neg he] at HP
      have HP:=hid HP
      go_upto_region 17 with (at_builtin;refine wpList_append_one cellsV_length (by omega) rfl _ _ 33 rfl 49 i1 _ 80 Try.underlying33 hi1 hz0 hz1 hz2 rfl #[.int .i64 t,.int .i64 b,.bool x.fill,.int .i64 x.view,.int .i64 x.tv,.int .i64 x.ts,.int .i64 x.time,.slice ua x.reqs.length uc] (⟨t,b,x,ua,uc⟩:VoteC) rfl (cellsV_one _) A W4.heap.size W4.heap.size W4 (.slice ma A.length mc) rfl rfl HOW.out (by unfold maxLen;(try simp only[List.length_append,List.length_singleton]);omega) (by (try simp only[List.length_append,List.length_singleton]);omega) HBW.out.size HBW.out (Nat.le_refl _) ?_;intro v6 w6 ho hb _;have HO6:=hid ho;have HB6:=hid hb;have c26:=cell_at (HC.out _ hb).1 2;have HLQ:=hid hb;clear ho hb;simp at c26;obtain⟨na,nc,hnv⟩:=Rw.own_form HO6.out;rw[List.length_append,List.length_singleton] at hnv;subst hnv)
      obtain⟨r0,r1,r2,r3,r4,r5,r6,r7⟩:=HCY.out _ HB6.out
      have hb6:=HB6.out.size
      go_wp2_with (at_builtin;refine wpList_append_one cellsV_length (by omega) rfl _ _ 33 rfl 49 i1 _ 80 Try.underlying33 hi1 hz0 hz1 hz2 rfl #[.int .i64 y1,.int .i64 y2,.bool y3,.int .i64 y4,.int .i64 y5,.int .i64 y6,.int .i64 y7,.slice ya y8.length yc] (⟨y1,y2,⟨y3,y4,y5,y6,y7,y8⟩,ya,yc⟩:VoteC) rfl (cellsV_one _) (A++ [⟨t,b,x,ua,uc⟩]) W4.heap.size W4.heap.size W4 (.slice na (A.length+1) nc) rfl rfl HO6.out (by unfold maxLen;(try simp only[List.length_append,List.length_singleton]);omega) (by (try simp only[List.length_append,List.length_singleton]);omega) HB6.out.size HB6.out (Nat.le_refl _) ?_;intro v7 w7 ho hb _;have HO7:=hid ho;have HB7:=hid hb;clear ho hb)
      go_roundw
      case rel=>exact⟨k+1,true,((A++ [⟨t,b,x,ua,uc⟩])++ [⟨y1,y2,⟨y3,y4,y5,y6,y7,y8⟩,ya,yc⟩]),by omega,by go_num,rfl,by (try simp only[List.length_append,List.length_singleton]);omega,HO7,hid (HMX.out.new.old HIN.out),hid (by rw[valsV_snoc,valsV_snoc];exact HP.out),HB7⟩
      case measure=>simp [intOf];omega
    ·have dle:decide (t<=y1)=false:=decide_eq_false hle
     have he: ¬y1=t:=by omega
     have e5:(y1 != t)=true:=by simpa using he
     have HP:=HP.out
     simp only[Bool.not_false,Bool.true_and,Bool.false_or,dle,Bool.false_eq_true,if_false,if_true] at HP
     rw[if_neg he] at HP
     have HP:=hid HP
     have hb6:=HBW.out.size
     go_wp2_with (at_builtin;refine wpList_append_one cellsV_length (by omega) rfl _ _ 33 rfl 49 i1 _ 80 Try.underlying33 hi1 hz0 hz1 hz2 rfl #[.int .i64 y1,.int .i64 y2,.bool y3,.int .i64 y4,.int .i64 y5,.int .i64 y6,.int .i64 y7,.slice ya y8.length yc] (⟨y1,y2,⟨y3,y4,y5,y6,y7,y8⟩,ya,yc⟩:VoteC) rfl (cellsV_one _) A W4.heap.size W4.heap.size W4 (.slice ma A.length mc) rfl rfl HOW.out (by unfold maxLen;(try simp only[List.length_append,List.length_singleton]);omega) (by (try simp only[List.length_append,List.length_singleton]);omega) HBW.out.size HBW.out (Nat.le_refl _) ?_;intro v7 w7 ho hb _;have HO7:=hid ho;have HB7:=hid hb;clear ho hb)
     go_roundw
     case rel=>exact⟨k+1,false,(A++ [⟨y1,y2,⟨y3,y4,y5,y6,y7,y8⟩,ya,yc⟩]),by omega,by go_num,rfl,by (try simp only[List.length_append,List.length_singleton]);omega,HO7,hid (HMX.out.old HIN.out),hid (by rw[valsV_snoc];exact HP.out),HB7⟩
     case measure=>simp [intOf];omega
  ·obtain rfl:k=n:=by omega
   have hT:(valsV L).drop k= []:=List.drop_eq_nil_of_le (by rw[valsV_length,HN.out];exact Nat.le_refl _)
   rw[hT] at HP
   clear hT HAT
   have HFIN:Hid (∀(M:List VoteC) (v:Value) (W:World),Below W4.heap.size W4 W->W.ownsRow W4.heap.size 49 8 v M.length (flatX cellsV M)->Mix L ⟨t,b,x,ua,uc⟩ M->valsV M=TOT->HasW (W.setCell ⟨g,2,none⟩ v) g1 g m ⟨b,s.done,TOT⟩/\w.grownBy (W.setCell ⟨g,2,none⟩ v) (some g)):=hid fun M v W hb ho hmx hv=>
    ⟨hasW_put (HC.out _ hb).1 hv (own_lowerX ho HW4.out.mw) (fun z hz=>by
     rcases hmx z hz with q | q
     ·exact⟨(HL4.out z q).1.later hb,(HL4.out z q).2⟩
     ·rw[q];exact⟨HR4.out.later hb,HU.out⟩) HW4.out.gm HW4.out.gm1 (Nat.le_trans HW4.out.mw hb.size),(gr_below HGW.out hb).trans (grown_setA _ _ _ _)⟩
   cases p
   case true=>
    have HV:Hid (valsV A=TOT):=HP
    have HF:=hid (HFIN.out A _ _ HBW.out HOW.out HMX.out HV.out)
    go_wp2
    go_ret
    exact⟨rfl,by rw[HTT.out];exact HF.out.1,HF.out.2⟩
   case false=>
    have HV:Hid (valsV (A++ [⟨t,b,x,ua,uc⟩])=TOT):=hid (by rw[valsV_snoc];exact HP.out)
    go_wp2_with (at_builtin;refine wpList_append_one cellsV_length (by omega) rfl _ _ 33 rfl 49 i1 _ 80 Try.underlying33 hi1 hz0 hz1 hz2 rfl #[.int .i64 t,.int .i64 b,.bool x.fill,.int .i64 x.view,.int .i64 x.tv,.int .i64 x.ts,.int .i64 x.time,.slice ua x.reqs.length uc] (⟨t,b,x,ua,uc⟩:VoteC) rfl (cellsV_one _) A W4.heap.size W4.heap.size W4 (.slice ma A.length mc) rfl rfl HOW.out (by unfold maxLen;(try simp only[List.length_append,List.length_singleton]);omega) (by (try simp only[List.length_append,List.length_singleton]);omega) HBW.out.size HBW.out (Nat.le_refl _) ?_;intro v6 w6 ho hb _;have HO6:=hid ho;have HB6:=hid hb;have cf6:=frozen_at (HC.out _ hb).1;obtain⟨na,nc,hnv⟩:=Rw.own_form ho;rw[List.length_append,List.length_singleton] at hnv;subst hnv;have HF:=hid (HFIN.out _ _ _ hb ho HMX.out.new HV.out);have c26:=cell_at (HC.out _ hb).1 2;clear ho hb;simp at c26)
    go_ret
    exact⟨rfl,by rw[HTT.out];exact HF.out.1,HF.out.2⟩
end Ac
end Go.Proofs.Ytmodbbmdkealdaa
