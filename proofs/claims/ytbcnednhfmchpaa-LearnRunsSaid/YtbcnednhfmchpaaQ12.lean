/- Texts laid together by program. -/
import Derived.Test.YtbcnednhfmchpaaQ11
/- Contract of package learn: Hear. -/
set_option linter.unusedVariables false
set_option maxRecDepth 8000
set_option linter.unusedSimpArgs false
namespace Go.Proofs.Ytbcnednhfmchpaa
open Lib (hid)
open Go.RowKit
namespace Ln
open Cm

def DidD (g m:Nat) (r:LrnV × Int) (w:World) (e:Ending) (w':World):Prop:=e= .returned (.int .i64 r.2)/\HasD w' g m r.1/\w.grownBy w' (some g)
theorem cellsP_vote (x:VotC) (F:Nat) (hF:F<7):(cellsP x).set (8+F) (.bool true)=cellsP ⟨x.slot,x.ballot,addW (F:Int) x.who,x.bat,x.ua,x.uc⟩:=by
 unfold cellsP
 dsimp only
 simp only[inW_add]
 match F,hF with
 | 0,_=>rfl
 | 1,_=>rfl
 | 2,_=>rfl
 | 3,_=>rfl
 | 4,_=>rfl
 | 5,_=>rfl
 | 6,_=>rfl
theorem MidD.vote {w:World} {g m:Nat} {n d:Int} {L:List PlV} (h:MidD w g m n d L) (hL:L.length=9) (p:Nat) (hp:p<9) (F:Nat) (hF:F<7) (y:PlV) (hy:L[p]'(by omega)=y):MidD (w.setCell ⟨g,2+p*15+8+F,none⟩ (.bool true)) g m n d (L.set p ⟨y.slot,y.ballot,addW (F:Int) y.who,y.bat⟩):=by
 obtain⟨M,h3,h4,h5⟩:=h.ex
 have hl:M.length=9:=by rw[<-valsP_length,h4,hL]
 have hM:(M[p]'(by omega)).val =y:=by
  rw[<-hy,<-valsP_get M p (by omega) (by rw[valsP_length];omega)]
  congr 1
 have hg:=grown_setL w g (2+p*15+8+F) (.bool true)
 refine⟨⟨M.set p ⟨(M[p]'(by omega)).slot,(M[p]'(by omega)).ballot,addW (F:Int) (M[p]'(by omega)).who,(M[p]'(by omega)).bat,(M[p]'(by omega)).ua,(M[p]'(by omega)).uc⟩,?_,?_,fun x hx=>?_⟩,h.gm,Nat.le_trans h.mw hg.size⟩
 ·rw[set_atB h3]
  congr 2
  unfold lrnCells
  rw[List.setIfInBounds_toArray,show 2+p*15+8+F=2+(p*15+(8+F)) by omega,lrnCells_set1,flatX_set cellsP_length (8+F) (.bool true) (by omega) _ M p (by omega) (cellsP_vote _ F hF)]
 ·rw[valsP_set,h4,<-hM]
  rfl
 ·rcases List.mem_or_eq_of_mem_set hx with q | q
  ·exact(h5 x q).keep hg h.gm
  ·rw[q]
   exact(h5 _ (List.getElem_mem (by omega:p<M.length))).keep hg h.gm
theorem HasD.mid {w:World} {g m:Nat} {s:LrnV} (h:HasD w g m s):MidD w g m s.n s.done (placesL s.l):=⟨h.ex,h.gm,h.mw⟩
theorem MidD.has {w:World} {g m:Nat} {s:LrnV} (hs:GoodN s) (y:SlotV) (h1:s.done<y.slot) (h2:y.slot<=s.done+9) (p:Nat) (hp:y.slot % 9=(p:Int)) (h:MidD w g m s.n s.done ((placesL s.l).set p (plOf y))):HasD w g m ⟨s.n,s.done,putS y s.l⟩:=by
 obtain⟨⟨M,a1,a2,a3⟩,b1,b2⟩:=h
 exact⟨⟨M,a1,by rw[a2];exact(places_putL hs.win y h1 h2 p hp).symm,a3⟩,b1,b2⟩
set_option maxHeartbeats 4000000 in
theorem Hear_arg (g m:Nat) (s:LrnV) (f b t:Int) (x:BatV) (u:Value) (w:World) (h:HasD w g m s) (hs:GoodN s) (hr:RdR w u x.reqs) (hbad:badF s f b t x=true):
  Calls Try.prog 13 #[.pointer (some ⟨g,0,none⟩),.int .i64 f,.int .i64 b,.int .i64 t,batVal x u] w (DidD g m (s,1) w):=by
 obtain⟨ua,uc,rfl⟩:=hr.form
 have CB:=hid (fun w=>isBallot_any b w)
 have CS:=hid (fun w=>isSlot_any t w)
 have hb1:=newAlloc w (.cells #[.bool x.fill,.int .i64 x.view,.int .i64 x.tv,.int .i64 x.ts,.int .i64 x.time,.slice ua x.reqs.length uc] 38)
 have k1:=alloc_atB w (.cells #[.bool x.fill,.int .i64 x.view,.int .i64 x.tv,.int .i64 x.ts,.int .i64 x.time,.slice ua x.reqs.length uc] 38) _ rfl
 obtain⟨W1,hW1⟩: ∃W1,W1=w.alloc (.cells #[.bool x.fill,.int .i64 x.view,.int .i64 x.tv,.int .i64 x.ts,.int .i64 x.time,.slice ua x.reqs.length uc] 38):=⟨_,rfl⟩
 rw[<-hW1] at hb1 k1
 have CM:=hid (MayB_any x (.slice ua x.reqs.length uc) W1 (hr.later hb1))
 have CI:=hid (isReplica_any g m s f W1 (h.later hb1))
 have HB1:=hid hb1
 have HH1:=hid (h.later hb1)
 have HK1:=hid k1
 have HG:=hid hs
 have c0:=cell_at HK1.out 0
 have c1:=cell_at HK1.out 1
 have c2:=cell_at HK1.out 2
 have c3:=cell_at HK1.out 3
 have c4:=cell_at HK1.out 4
 have c5:=cell_at HK1.out 5
 simp at c0 c1 c2 c3 c4 c5
 have n0:=HH1.out.c0
 unfold batVal at CM ⊢
 clear hb1 k1 h hr hs
 unfold badF at hbad
 cases h1:(decide (0<=f) && decide (f<s.n))
 ·rw[h1] at CI
  clear hbad
  go_enter Try.func13,Try.ntmps13
  go_upto_region 1 with fail
  rw[<-hW1]
  clear hW1
  go_wp2_with (first
   | (go_at_call 25;refine CI.out.mono ?_;rintro e wz ⟨rfl,rfl⟩)
   | (go_at_call 26;refine(CB.out _).mono ?_;rintro e wz ⟨rfl,rfl⟩)
   | (go_at_call 27;refine(CS.out _).mono ?_;rintro e wz ⟨rfl,rfl⟩)
   | (go_at_call 28;refine CM.out.mono ?_;rintro e w2 ⟨rfl,hb2⟩;have HB2:=hid (step HB1.out hb2);have HH2:=hid (HH1.out.later hb2);clear hb2))
  go_ret
  exact⟨rfl,HH1.out,gr_belowL (World.grownBy.refl _ _) HB1.out⟩
 rw[h1] at CI hbad
 cases h3:highF b 0
 ·rw[h3] at CB
  clear hbad
  go_enter Try.func13,Try.ntmps13
  go_upto_region 1 with fail
  rw[<-hW1]
  clear hW1
  go_wp2_with (first
   | (go_at_call 25;refine CI.out.mono ?_;rintro e wz ⟨rfl,rfl⟩)
   | (go_at_call 26;refine(CB.out _).mono ?_;rintro e wz ⟨rfl,rfl⟩)
   | (go_at_call 27;refine(CS.out _).mono ?_;rintro e wz ⟨rfl,rfl⟩)
   | (go_at_call 28;refine CM.out.mono ?_;rintro e w2 ⟨rfl,hb2⟩;have HB2:=hid (step HB1.out hb2);have HH2:=hid (HH1.out.later hb2);clear hb2))
  go_ret
  exact⟨rfl,HH1.out,gr_belowL (World.grownBy.refl _ _) HB1.out⟩
 rw[h3] at CB hbad
 cases h4:highF t 1
 ·rw[h4] at CS
  clear hbad
  go_enter Try.func13,Try.ntmps13
  go_upto_region 1 with fail
  rw[<-hW1]
  clear hW1
  go_wp2_with (first
   | (go_at_call 25;refine CI.out.mono ?_;rintro e wz ⟨rfl,rfl⟩)
   | (go_at_call 26;refine(CB.out _).mono ?_;rintro e wz ⟨rfl,rfl⟩)
   | (go_at_call 27;refine(CS.out _).mono ?_;rintro e wz ⟨rfl,rfl⟩)
   | (go_at_call 28;refine CM.out.mono ?_;rintro e w2 ⟨rfl,hb2⟩;have HB2:=hid (step HB1.out hb2);have HH2:=hid (HH1.out.later hb2);clear hb2))
  go_ret
  exact⟨rfl,HH1.out,gr_belowL (World.grownBy.refl _ _) HB1.out⟩
 rw[h4] at CS hbad
 cases h5:mayB x
 ·rw[h5] at CM
  clear hbad
  go_enter Try.func13,Try.ntmps13
  go_upto_region 1 with fail
  rw[<-hW1]
  clear hW1
  go_wp2_with (first
   | (go_at_call 25;refine CI.out.mono ?_;rintro e wz ⟨rfl,rfl⟩)
   | (go_at_call 26;refine(CB.out _).mono ?_;rintro e wz ⟨rfl,rfl⟩)
   | (go_at_call 27;refine(CS.out _).mono ?_;rintro e wz ⟨rfl,rfl⟩)
   | (go_at_call 28;refine CM.out.mono ?_;rintro e w2 ⟨rfl,hb2⟩;have HB2:=hid (step HB1.out hb2);have HH2:=hid (HH1.out.later hb2);clear hb2))
  go_ret
  exact⟨rfl,HH2.out,gr_belowL (World.grownBy.refl _ _) HB2.out⟩
 rw[h5] at hbad
 cases hbad
set_option maxHeartbeats 4000000 in
theorem Hear_no (g m:Nat) (s:LrnV) (f b t:Int) (x:BatV) (u:Value) (w:World) (h:HasD w g m s) (hs:GoodN s) (hr:RdR w u x.reqs) (hgood:badF s f b t x=false) (c:Int)
  (hc:t<=s.done/\c=11\/s.done<t/\chosenB s t=true/\c=11\/s.done+9<t/\c=5):
  Calls Try.prog 13 #[.pointer (some ⟨g,0,none⟩),.int .i64 f,.int .i64 b,.int .i64 t,batVal x u] w (DidD g m (s,c) w):=by
 unfold badF at hgood
 simp only[Bool.not_eq_false',Bool.and_eq_true,decide_eq_true_eq] at hgood
 obtain⟨⟨⟨⟨f0,f1⟩,hb⟩,ht⟩,hm⟩:=hgood
 obtain⟨ua,uc,rfl⟩:=hr.form
 have CB:=hid (fun w=>isBallot_any b w)
 have CS:=hid (fun w=>isSlot_any t w)
 have hb1:=newAlloc w (.cells #[.bool x.fill,.int .i64 x.view,.int .i64 x.tv,.int .i64 x.ts,.int .i64 x.time,.slice ua x.reqs.length uc] 38)
 have k1:=alloc_atB w (.cells #[.bool x.fill,.int .i64 x.view,.int .i64 x.tv,.int .i64 x.ts,.int .i64 x.time,.slice ua x.reqs.length uc] 38) _ rfl
 obtain⟨W1,hW1⟩: ∃W1,W1=w.alloc (.cells #[.bool x.fill,.int .i64 x.view,.int .i64 x.tv,.int .i64 x.ts,.int .i64 x.time,.slice ua x.reqs.length uc] 38):=⟨_,rfl⟩
 rw[<-hW1] at hb1 k1
 have CM:=hid (MayB_any x (.slice ua x.reqs.length uc) W1 (hr.later hb1))
 have CI:=hid (isReplica_any g m s f W1 (h.later hb1))
 have HB1:=hid hb1
 have HH1:=hid (h.later hb1)
 have HK1:=hid k1
 have HG:=hid hs
 have c0:=cell_at HK1.out 0
 have c1:=cell_at HK1.out 1
 have c2:=cell_at HK1.out 2
 have c3:=cell_at HK1.out 3
 have c4:=cell_at HK1.out 4
 have c5:=cell_at HK1.out 5
 simp at c0 c1 c2 c3 c4 c5
 have n0:=HH1.out.c0
 unfold batVal at CM ⊢
 rw[decide_eq_true f0,decide_eq_true f1] at CI
 rw[hb] at CB
 have HT0:Hid (-9223372036854775808<=t):=hid (by simp [highF] at ht;omega)
 have HT1:Hid (0<=t):=hid (by simp [highF] at ht;omega)
 rw[ht] at CS
 rw[hm] at CM
 have hd0:=hs.d0
 have hd1:=hs.d1
 have e9:IntKind.i64.wrap (s.done+9)=s.done+9:=by rw[IntKind.wrap_i64];omega
 have HM:=hid hm
 clear hb1 k1 h hr hs hb ht hm
 rcases hc with ⟨h1,rfl⟩ | ⟨h1,h2,rfl⟩ | ⟨h1,rfl⟩
 ·have d1:decide (t<=s.done)=true:=decide_eq_true h1
  have HCH:Hid (chosenB s t=chosenB s t):=hid rfl
  clear h1 hd0 hd1 f0 f1
  go_enter Try.func13,Try.ntmps13
  go_upto_region 1 with fail
  rw[<-hW1]
  clear hW1
  go_wp2_with (first
   | (go_at_call 25;refine CI.out.mono ?_;rintro e wz ⟨rfl,rfl⟩)
   | (go_at_call 26;refine(CB.out _).mono ?_;rintro e wz ⟨rfl,rfl⟩)
   | (go_at_call 27;refine(CS.out _).mono ?_;rintro e wz ⟨rfl,rfl⟩)
   | (go_at_call 28;refine CM.out.mono ?_;rintro e w2 ⟨rfl,hb2⟩;have HB2:=hid (step HB1.out hb2);have HH2:=hid (HH1.out.later hb2);have HK2:=hid (cells_later HK1.out hb2);have a1:=HH2.out.c1;have CC:=hid (IsChosen_any g m s t w2 HH2.out HG.out HT0.out);clear hb2)
   | (go_at_call 29;refine CC.out.mono ?_;rintro e w3 ⟨rfl,hb3⟩;have HB3:=hid (step HB2.out hb3);have HH3:=hid (HH2.out.later hb3);have HK3:=hid (cells_later HK2.out hb3);have e1:=HH3.out.c1;clear hb3))
  go_ret
  exact⟨rfl,HH2.out,gr_belowL (World.grownBy.refl _ _) HB2.out⟩
 ·have d1:decide (t<=s.done)=false:=decide_eq_false (by omega)
  have HCH:=hid h2
  clear h1 h2 hd0 hd1 f0 f1
  go_enter Try.func13,Try.ntmps13
  go_upto_region 1 with fail
  rw[<-hW1]
  clear hW1
  go_wp2_with (first
   | (go_at_call 25;refine CI.out.mono ?_;rintro e wz ⟨rfl,rfl⟩)
   | (go_at_call 26;refine(CB.out _).mono ?_;rintro e wz ⟨rfl,rfl⟩)
   | (go_at_call 27;refine(CS.out _).mono ?_;rintro e wz ⟨rfl,rfl⟩)
   | (go_at_call 28;refine CM.out.mono ?_;rintro e w2 ⟨rfl,hb2⟩;have HB2:=hid (step HB1.out hb2);have HH2:=hid (HH1.out.later hb2);have HK2:=hid (cells_later HK1.out hb2);have a1:=HH2.out.c1;have CC:=hid (IsChosen_any g m s t w2 HH2.out HG.out HT0.out);rw[HCH.out] at CC;clear hb2)
   | (go_at_call 29;refine CC.out.mono ?_;rintro e w3 ⟨rfl,hb3⟩;have HB3:=hid (step HB2.out hb3);have HH3:=hid (HH2.out.later hb3);have HK3:=hid (cells_later HK2.out hb3);have e1:=HH3.out.c1;clear hb3))
  go_ret
  exact⟨rfl,HH3.out,gr_belowL (World.grownBy.refl _ _) HB3.out⟩
 ·have d1:decide (t<=s.done)=false:=decide_eq_false (by omega)
  have d2:decide (s.done+9<t)=true:=decide_eq_true h1
  have HCH:Hid (chosenB s t=false):=hid (by unfold chosenB;rw[at_far HG.out.win (.inr h1)])
  clear h1 hd0 hd1 f0 f1
  go_enter Try.func13,Try.ntmps13
  go_upto_region 1 with fail
  rw[<-hW1]
  clear hW1
  go_wp2_with (first
   | (go_at_call 25;refine CI.out.mono ?_;rintro e wz ⟨rfl,rfl⟩)
   | (go_at_call 26;refine(CB.out _).mono ?_;rintro e wz ⟨rfl,rfl⟩)
   | (go_at_call 27;refine(CS.out _).mono ?_;rintro e wz ⟨rfl,rfl⟩)
   | (go_at_call 28;refine CM.out.mono ?_;rintro e w2 ⟨rfl,hb2⟩;have HB2:=hid (step HB1.out hb2);have HH2:=hid (HH1.out.later hb2);have HK2:=hid (cells_later HK1.out hb2);have a1:=HH2.out.c1;have CC:=hid (IsChosen_any g m s t w2 HH2.out HG.out HT0.out);rw[HCH.out] at CC;clear hb2)
   | (go_at_call 29;refine CC.out.mono ?_;rintro e w3 ⟨rfl,hb3⟩;have HB3:=hid (step HB2.out hb3);have HH3:=hid (HH2.out.later hb3);have HK3:=hid (cells_later HK2.out hb3);have e1:=HH3.out.c1;clear hb3))
  go_ret
  exact⟨rfl,HH3.out,gr_belowL (World.grownBy.refl _ _) HB3.out⟩
set_option maxHeartbeats 4000000 in
theorem Hear_less (g m:Nat) (s:LrnV) (f b t:Int) (x:BatV) (u:Value) (w:World) (h:HasD w g m s) (hs:GoodN s) (hr:RdR w u x.reqs) (hgood:badF s f b t x=false) (h1:s.done<t) (h9:t<=s.done+9) (hch:chosenB s t=false) (y:SlotV) (hy:at_ s.l t=some y) (hless:b<y.ballot):
  Calls Try.prog 13 #[.pointer (some ⟨g,0,none⟩),.int .i64 f,.int .i64 b,.int .i64 t,batVal x u] w (DidD g m (s,11) w):=by
 unfold badF at hgood
 simp only[Bool.not_eq_false',Bool.and_eq_true,decide_eq_true_eq] at hgood
 obtain⟨⟨⟨⟨f0,f1⟩,hb⟩,ht⟩,hm⟩:=hgood
 obtain⟨ua,uc,rfl⟩:=hr.form
 have CB:=hid (fun w=>isBallot_any b w)
 have CS:=hid (fun w=>isSlot_any t w)
 have hb1:=newAlloc w (.cells #[.bool x.fill,.int .i64 x.view,.int .i64 x.tv,.int .i64 x.ts,.int .i64 x.time,.slice ua x.reqs.length uc] 38)
 have k1:=alloc_atB w (.cells #[.bool x.fill,.int .i64 x.view,.int .i64 x.tv,.int .i64 x.ts,.int .i64 x.time,.slice ua x.reqs.length uc] 38) _ rfl
 obtain⟨W1,hW1⟩: ∃W1,W1=w.alloc (.cells #[.bool x.fill,.int .i64 x.view,.int .i64 x.tv,.int .i64 x.ts,.int .i64 x.time,.slice ua x.reqs.length uc] 38):=⟨_,rfl⟩
 rw[<-hW1] at hb1 k1
 have CM:=hid (MayB_any x (.slice ua x.reqs.length uc) W1 (hr.later hb1))
 have CI:=hid (isReplica_any g m s f W1 (h.later hb1))
 have HB1:=hid hb1
 have HH1:=hid (h.later hb1)
 have HK1:=hid k1
 have HG:=hid hs
 have c0:=cell_at HK1.out 0
 have c1:=cell_at HK1.out 1
 have c2:=cell_at HK1.out 2
 have c3:=cell_at HK1.out 3
 have c4:=cell_at HK1.out 4
 have c5:=cell_at HK1.out 5
 simp at c0 c1 c2 c3 c4 c5
 have n0:=HH1.out.c0
 unfold batVal at CM ⊢
 rw[decide_eq_true f0,decide_eq_true f1] at CI
 rw[hb] at CB
 have HT0:Hid (-9223372036854775808<=t):=hid (by simp [highF] at ht;omega)
 have HT1:Hid (0<=t):=hid (by simp [highF] at ht;omega)
 rw[ht] at CS
 rw[hm] at CM
 have hd0:=hs.d0
 have hd1:=hs.d1
 have e9:IntKind.i64.wrap (s.done+9)=s.done+9:=by rw[IntKind.wrap_i64];omega
 obtain⟨p,hp⟩: ∃p:Nat,t % 9=(p:Int):=⟨(t % 9).toNat,by omega⟩
 have hp9:p<9:=by omega
 have ht9:t.tmod 9=(p:Int):=by rw[Int.tmod_eq_emod_of_nonneg HT1.out];exact hp
 have q0:(0:Int)<=(p:Int):=by omega
 have q9:(p:Int)<9:=by omega
 have HP:=hid hp
 have HW1:=hid h1
 have HW2:=hid h9
 have d1:decide (t<=s.done)=false:=decide_eq_false (by omega)
 have d2:decide (s.done+9<t)=false:=decide_eq_false (by omega)
 have HPL:Hid (plcP s.l p=findP s t):=hid (findP_in hs h1 h9 p hp).symm
 have HCH:=hid hch
 have d3:decide (b<y.ballot)=true:=decide_eq_true hless
 have HFP:Hid (findP s t=plOf y):=hid (by unfold findP;rw[hy])
 clear hb1 k1 h hr hs hb ht hm f0 f1 hd0 hd1 h1 h9 hp hch hy hless
 go_enter Try.func13,Try.ntmps13
 go_upto_region 1 with fail
 rw[<-hW1]
 clear hW1
 go_upto_region 10 with (first
   | (go_at_call 25;refine CI.out.mono ?_;rintro e wz ⟨rfl,rfl⟩)
   | (go_at_call 26;refine(CB.out _).mono ?_;rintro e wz ⟨rfl,rfl⟩)
   | (go_at_call 27;refine(CS.out _).mono ?_;rintro e wz ⟨rfl,rfl⟩)
   | (go_at_call 28;refine CM.out.mono ?_;rintro e w2 ⟨rfl,hb2⟩;have HB2:=hid (step HB1.out hb2);have HH2:=hid (HH1.out.later hb2);have HK2:=hid (cells_later HK1.out hb2);have a1:=HH2.out.c1;have CC:=hid (IsChosen_any g m s t w2 HH2.out HG.out HT0.out);rw[HCH.out] at CC;clear hb2)
   | (go_at_call 29;refine CC.out.mono ?_;rintro e w3 ⟨rfl,hb3⟩;have HB3:=hid (step HB2.out hb3);have HH3:=hid (HH2.out.later hb3);have HK3:=hid (cells_later HK2.out hb3);have e1:=HH3.out.c1;clear hb3))
 obtain⟨z,hz, -,hzc⟩:=HH3.out.plc p hp9
 rw[HPL.out,HFP.out] at hz
 have m0:w3.cell? ⟨g,2+p*15,none⟩=some (.int .i64 z.slot):=hzc w3 (Below.refl _ _) 0 (by omega)
 have m1:w3.cell? ⟨g,2+p*15+1,none⟩=some (.int .i64 z.ballot):=hzc w3 (Below.refl _ _) 1 (by omega)
 rw[show z.ballot=y.ballot from congrArg PlV.ballot hz] at m1
 clear hz hzc m0
 go_wp2
 go_ret
 exact⟨rfl,HH3.out,gr_belowL (World.grownBy.refl _ _) HB3.out⟩
set_option maxHeartbeats 8000000 in
theorem Hear_none (g m:Nat) (s:LrnV) (f b t:Int) (x:BatV) (u:Value) (w:World) (h:HasD w g m s) (hs:GoodN s) (hr:RdR w u x.reqs) (hgood:badF s f b t x=false) (h1:s.done<t) (h9:t<=s.done+9) (hch:chosenB s t=false) (hy:at_ s.l t=none):
  Calls Try.prog 13 #[.pointer (some ⟨g,0,none⟩),.int .i64 f,.int .i64 b,.int .i64 t,batVal x u] w (fun e w'=>e= .returned (.int .i64 0)/\MidD w' g m s.n s.done ((placesL s.l).set (t % 9).toNat ⟨t,b,addW f [],x⟩)/\w.grownBy w' (some g)):=by
 unfold badF at hgood
 simp only[Bool.not_eq_false',Bool.and_eq_true,decide_eq_true_eq] at hgood
 obtain⟨⟨⟨⟨f0,f1⟩,hb⟩,ht⟩,hm⟩:=hgood
 obtain⟨ua,uc,rfl⟩:=hr.form
 have CB:=hid (fun w=>isBallot_any b w)
 have CS:=hid (fun w=>isSlot_any t w)
 have hb1:=newAlloc w (.cells #[.bool x.fill,.int .i64 x.view,.int .i64 x.tv,.int .i64 x.ts,.int .i64 x.time,.slice ua x.reqs.length uc] 38)
 have k1:=alloc_atB w (.cells #[.bool x.fill,.int .i64 x.view,.int .i64 x.tv,.int .i64 x.ts,.int .i64 x.time,.slice ua x.reqs.length uc] 38) _ rfl
 obtain⟨W1,hW1⟩: ∃W1,W1=w.alloc (.cells #[.bool x.fill,.int .i64 x.view,.int .i64 x.tv,.int .i64 x.ts,.int .i64 x.time,.slice ua x.reqs.length uc] 38):=⟨_,rfl⟩
 rw[<-hW1] at hb1 k1
 have CM:=hid (MayB_any x (.slice ua x.reqs.length uc) W1 (hr.later hb1))
 have CI:=hid (isReplica_any g m s f W1 (h.later hb1))
 have HB1:=hid hb1
 have HH1:=hid (h.later hb1)
 have HK1:=hid k1
 have HG:=hid hs
 have c0:=cell_at HK1.out 0
 have c1:=cell_at HK1.out 1
 have c2:=cell_at HK1.out 2
 have c3:=cell_at HK1.out 3
 have c4:=cell_at HK1.out 4
 have c5:=cell_at HK1.out 5
 simp at c0 c1 c2 c3 c4 c5
 have n0:=HH1.out.c0
 unfold batVal at CM ⊢
 rw[decide_eq_true f0,decide_eq_true f1] at CI
 rw[hb] at CB
 have HT0:Hid (-9223372036854775808<=t):=hid (by simp [highF] at ht;omega)
 have HT1:Hid (0<=t):=hid (by simp [highF] at ht;omega)
 rw[ht] at CS
 rw[hm] at CM
 have hd0:=hs.d0
 have hd1:=hs.d1
 have e9:IntKind.i64.wrap (s.done+9)=s.done+9:=by rw[IntKind.wrap_i64];omega
 obtain⟨p,hp⟩: ∃p:Nat,t % 9=(p:Int):=⟨(t % 9).toNat,by omega⟩
 have hp9:p<9:=by omega
 have ht9:t.tmod 9=(p:Int):=by rw[Int.tmod_eq_emod_of_nonneg HT1.out];exact hp
 have q0:(0:Int)<=(p:Int):=by omega
 have q9:(p:Int)<9:=by omega
 have HP:=hid hp
 have HW1:=hid h1
 have HW2:=hid h9
 have d1:decide (t<=s.done)=false:=decide_eq_false (by omega)
 have d2:decide (s.done+9<t)=false:=decide_eq_false (by omega)
 have HPL:Hid (plcP s.l p=findP s t):=hid (findP_in hs h1 h9 p hp).symm
 have HCH:=hid hch
 obtain⟨F,hF⟩: ∃F:Nat,f=(F:Int):=⟨f.toNat,by omega⟩
 subst hF
 have hF7:F<7:=by have:=hs.n7;omega
 have i0:(0:Int)<=(F:Int):=by omega
 have i7:(F:Int)<7:=by omega
 have HL3:Hid (x.reqs.length<=1000):=hid (by have:=mayB_lenL hm;omega)
 have HFP:Hid (findP s t=zeroPl):=hid (by unfold findP;rw[hy])
 have d3:decide (b<0)=false:=decide_eq_false (by simp [highF] at hb;omega)
 have d4:((0:Int)==0)=true:=by decide
 rw[show(t % 9).toNat =p by omega]
 have HR1:=hid (hr.later hb1)
 clear hb1 k1 h hr hs hb ht hm f0 f1 hd0 hd1 h1 h9 hp hch hy
 go_enter Try.func13,Try.ntmps13
 go_upto_region 1 with fail
 rw[<-hW1]
 clear hW1
 go_upto_region 10 with (first
   | (go_at_call 25;refine CI.out.mono ?_;rintro e wz ⟨rfl,rfl⟩)
   | (go_at_call 26;refine(CB.out _).mono ?_;rintro e wz ⟨rfl,rfl⟩)
   | (go_at_call 27;refine(CS.out _).mono ?_;rintro e wz ⟨rfl,rfl⟩)
   | (go_at_call 28;refine CM.out.mono ?_;rintro e w2 ⟨rfl,hb2⟩;have HB2:=hid (step HB1.out hb2);have HH2:=hid (HH1.out.later hb2);have HK2:=hid (cells_later HK1.out hb2);have a1:=HH2.out.c1;have CC:=hid (IsChosen_any g m s t w2 HH2.out HG.out HT0.out);rw[HCH.out] at CC;have HR2:=hid (HR1.out.later hb2);clear hb2)
   | (go_at_call 29;refine CC.out.mono ?_;rintro e w3 ⟨rfl,hb3⟩;have HB3:=hid (step HB2.out hb3);have HH3:=hid (HH2.out.later hb3);have HK3:=hid (cells_later HK2.out hb3);have HR3:=hid (HR2.out.later hb3);have e1:=HH3.out.c1;clear hb3))
 obtain⟨z,hz, -,hzc⟩:=HH3.out.plc p hp9
 rw[HPL.out,HFP.out] at hz
 have m0:w3.cell? ⟨g,2+p*15,none⟩=some (.int .i64 z.slot):=hzc w3 (Below.refl _ _) 0 (by omega)
 have m1:w3.cell? ⟨g,2+p*15+1,none⟩=some (.int .i64 z.ballot):=hzc w3 (Below.refl _ _) 1 (by omega)
 rw[show z.ballot=0 from congrArg PlV.ballot hz] at m1
 rw[show z.slot=0 from congrArg PlV.slot hz] at m0
 clear hz hzc a1 e1 n0 d1 d2 CB CS CM CI CC
 clear c0 c1 c2 c3 c4 c5
 have c0:=cell_at HK3.out 0
 have c1:=cell_at HK3.out 1
 have c2:=cell_at HK3.out 2
 have c3:=cell_at HK3.out 3
 have c4:=cell_at HK3.out 4
 have c5:=cell_at HK3.out 5
 simp at c0 c1 c2 c3 c4 c5
 have CP:=hid (CopyL_any x (.slice ua x.reqs.length uc) w3 (HR3.out) HL3.out)
 unfold batVal at CP
 go_upto_region 14 with ((go_at_call 30;refine CP.out.mono ?_;rintro e w4 ⟨ya,yc,rfl,hoy,hb4⟩;have HB4:=hid (step HB3.out hb4);have HM4:=hid (HH3.out.later hb4).mid;have HOY:Hid (OwnP m w4 ⟨t,b,[],x,ya,yc⟩):=hid (own_lowerX hoy (HH3.out.mw));clear hb4 hoy m0 m1 c0 c1 c2 c3 c4 c5;have cf:=HM4.out.open_;have hx:=fun j (hj:j<15)=>HM4.out.cells (placesL_length _) p hp9 j hj;obtain⟨o0,m0⟩: ∃u,w4.cell? ⟨g,2+p*15,none⟩=some u:=hx 0 (by omega);obtain⟨o1,m1⟩:=hx 1 (by omega);obtain⟨o2,m2⟩:=hx 2 (by omega);obtain⟨o3,m3⟩:=hx 3 (by omega);obtain⟨o4,m4⟩:=hx 4 (by omega);obtain⟨o5,m5⟩:=hx 5 (by omega);obtain⟨o6,m6⟩:=hx 6 (by omega);obtain⟨o7,m7⟩:=hx 7 (by omega);obtain⟨o8,m8⟩:=hx 8 (by omega);obtain⟨o9,m9⟩:=hx 9 (by omega);obtain⟨o10,m10⟩:=hx 10 (by omega);obtain⟨o11,m11⟩:=hx 11 (by omega);obtain⟨o12,m12⟩:=hx 12 (by omega);obtain⟨o13,m13⟩:=hx 13 (by omega);obtain⟨o14,m14⟩:=hx 14 (by omega);clear hx;unfold batVal;dsimp only))
 have HM5:=hid (HM4.out.put (placesL_length _) p hp9 ⟨t,b,[],x,ya,yc⟩ HOY.out)
 have HG5:=hid ((gr_belowL (World.grownBy.refl _ _) HB4.out).trans (set15_grown w4 g (2+p*15) ⟨t,b,[],x,ya,yc⟩))
 unfold set15 VotC.u at HM5 HG5
 dsimp only at HM5 HG5
 rw[inW_nil,inW_nil,inW_nil,inW_nil,inW_nil,inW_nil,inW_nil] at HM5 HG5
 clear m0 m1 m2 m3 m4 m5 m6 m7 m8 m9 m10 m11 m12 m13 m14 cf HM4 HOY CP
 generalize (((((((((((((((w4.setCell ⟨g,2+p*15,none⟩ (.int .i64 t)).setCell ⟨g,2+p*15+1,none⟩ (.int .i64 b)).setCell ⟨g,2+p*15+2,none⟩ (.bool x.fill)).setCell ⟨g,2+p*15+3,none⟩ (.int .i64 x.view)).setCell ⟨g,2+p*15+4,none⟩ (.int .i64 x.tv)).setCell ⟨g,2+p*15+5,none⟩ (.int .i64 x.ts)).setCell ⟨g,2+p*15+6,none⟩ (.int .i64 x.time)).setCell ⟨g,2+p*15+7,none⟩ (.slice ya x.reqs.length yc)).setCell ⟨g,2+p*15+8,none⟩ (.bool false)).setCell ⟨g,2+p*15+9,none⟩ (.bool false)).setCell ⟨g,2+p*15+10,none⟩ (.bool false)).setCell ⟨g,2+p*15+11,none⟩ (.bool false)).setCell ⟨g,2+p*15+12,none⟩ (.bool false)).setCell ⟨g,2+p*15+13,none⟩ (.bool false)).setCell ⟨g,2+p*15+14,none⟩ (.bool false))=W5 at HM5 HG5 ⊢
 obtain⟨o5,m5⟩:=HM5.out.cells (by simp [placesL_length]) p hp9 (8+F) (by omega)
 rw[<-Nat.add_assoc] at m5
 have cf:=HM5.out.open_
 have HM6:=hid (HM5.out.vote (by simp [placesL_length]) p hp9 F hF7 (⟨t,b,[],x⟩:PlV) (by rw[List.getElem_set_self];rfl))
 have HG6:=hid (HG5.out.trans (grown_setL W5 g (2+p*15+8+F) (.bool true)))
 clear HM5 HG5
 go_wp2
 go_ret
 have HF:=HM6.out
 exact⟨rfl,by rw[List.set_set] at HF;exact HF,HG6.out⟩
set_option maxHeartbeats 8000000 in
theorem Hear_greater (g m:Nat) (s:LrnV) (f b t:Int) (x:BatV) (u:Value) (w:World) (h:HasD w g m s) (hs:GoodN s) (hr:RdR w u x.reqs) (hgood:badF s f b t x=false) (h1:s.done<t) (h9:t<=s.done+9) (hch:chosenB s t=false) (y:SlotV) (hy:at_ s.l t=some y) (hgr:y.ballot<b):
  Calls Try.prog 13 #[.pointer (some ⟨g,0,none⟩),.int .i64 f,.int .i64 b,.int .i64 t,batVal x u] w (fun e w'=>e= .returned (.int .i64 0)/\MidD w' g m s.n s.done ((placesL s.l).set (t % 9).toNat ⟨t,b,addW f [],x⟩)/\w.grownBy w' (some g)):=by
 unfold badF at hgood
 simp only[Bool.not_eq_false',Bool.and_eq_true,decide_eq_true_eq] at hgood
 obtain⟨⟨⟨⟨f0,f1⟩,hb⟩,ht⟩,hm⟩:=hgood
 obtain⟨ua,uc,rfl⟩:=hr.form
 have CB:=hid (fun w=>isBallot_any b w)
 have CS:=hid (fun w=>isSlot_any t w)
 have hb1:=newAlloc w (.cells #[.bool x.fill,.int .i64 x.view,.int .i64 x.tv,.int .i64 x.ts,.int .i64 x.time,.slice ua x.reqs.length uc] 38)
 have k1:=alloc_atB w (.cells #[.bool x.fill,.int .i64 x.view,.int .i64 x.tv,.int .i64 x.ts,.int .i64 x.time,.slice ua x.reqs.length uc] 38) _ rfl
 obtain⟨W1,hW1⟩: ∃W1,W1=w.alloc (.cells #[.bool x.fill,.int .i64 x.view,.int .i64 x.tv,.int .i64 x.ts,.int .i64 x.time,.slice ua x.reqs.length uc] 38):=⟨_,rfl⟩
 rw[<-hW1] at hb1 k1
 have CM:=hid (MayB_any x (.slice ua x.reqs.length uc) W1 (hr.later hb1))
 have CI:=hid (isReplica_any g m s f W1 (h.later hb1))
 have HB1:=hid hb1
 have HH1:=hid (h.later hb1)
 have HK1:=hid k1
 have HG:=hid hs
 have c0:=cell_at HK1.out 0
 have c1:=cell_at HK1.out 1
 have c2:=cell_at HK1.out 2
 have c3:=cell_at HK1.out 3
 have c4:=cell_at HK1.out 4
 have c5:=cell_at HK1.out 5
 simp at c0 c1 c2 c3 c4 c5
 have n0:=HH1.out.c0
 unfold batVal at CM ⊢
 rw[decide_eq_true f0,decide_eq_true f1] at CI
 rw[hb] at CB
 have HT0:Hid (-9223372036854775808<=t):=hid (by simp [highF] at ht;omega)
 have HT1:Hid (0<=t):=hid (by simp [highF] at ht;omega)
 rw[ht] at CS
 rw[hm] at CM
 have hd0:=hs.d0
 have hd1:=hs.d1
 have e9:IntKind.i64.wrap (s.done+9)=s.done+9:=by rw[IntKind.wrap_i64];omega
 obtain⟨p,hp⟩: ∃p:Nat,t % 9=(p:Int):=⟨(t % 9).toNat,by omega⟩
 have hp9:p<9:=by omega
 have ht9:t.tmod 9=(p:Int):=by rw[Int.tmod_eq_emod_of_nonneg HT1.out];exact hp
 have q0:(0:Int)<=(p:Int):=by omega
 have q9:(p:Int)<9:=by omega
 have HP:=hid hp
 have HW1:=hid h1
 have HW2:=hid h9
 have d1:decide (t<=s.done)=false:=decide_eq_false (by omega)
 have d2:decide (s.done+9<t)=false:=decide_eq_false (by omega)
 have HPL:Hid (plcP s.l p=findP s t):=hid (findP_in hs h1 h9 p hp).symm
 have HCH:=hid hch
 obtain⟨F,hF⟩: ∃F:Nat,f=(F:Int):=⟨f.toNat,by omega⟩
 subst hF
 have hF7:F<7:=by have:=hs.n7;omega
 have i0:(0:Int)<=(F:Int):=by omega
 have i7:(F:Int)<7:=by omega
 have HL3:Hid (x.reqs.length<=1000):=hid (by have:=mayB_lenL hm;omega)
 have HFP:Hid (findP s t=plOf y):=hid (by unfold findP;rw[hy])
 have d3:decide (b<y.ballot)=false:=decide_eq_false (by omega)
 have d5:decide (y.ballot<b)=true:=decide_eq_true hgr
 have d4:(y.slot==0)=false:=by
  have:=(hs.all y (at_mem hy).1).lo
  have:y.slot≠0:=by omega
  simpa using this
 rw[show(t % 9).toNat =p by omega]
 have HR1:=hid (hr.later hb1)
 clear hb1 k1 h hr hs hb ht hm f0 f1 hd0 hd1 h1 h9 hp hch hy hgr
 go_enter Try.func13,Try.ntmps13
 go_upto_region 1 with fail
 rw[<-hW1]
 clear hW1
 go_upto_region 10 with (first
   | (go_at_call 25;refine CI.out.mono ?_;rintro e wz ⟨rfl,rfl⟩)
   | (go_at_call 26;refine(CB.out _).mono ?_;rintro e wz ⟨rfl,rfl⟩)
   | (go_at_call 27;refine(CS.out _).mono ?_;rintro e wz ⟨rfl,rfl⟩)
   | (go_at_call 28;refine CM.out.mono ?_;rintro e w2 ⟨rfl,hb2⟩;have HB2:=hid (step HB1.out hb2);have HH2:=hid (HH1.out.later hb2);have HK2:=hid (cells_later HK1.out hb2);have a1:=HH2.out.c1;have CC:=hid (IsChosen_any g m s t w2 HH2.out HG.out HT0.out);rw[HCH.out] at CC;have HR2:=hid (HR1.out.later hb2);clear hb2)
   | (go_at_call 29;refine CC.out.mono ?_;rintro e w3 ⟨rfl,hb3⟩;have HB3:=hid (step HB2.out hb3);have HH3:=hid (HH2.out.later hb3);have HK3:=hid (cells_later HK2.out hb3);have HR3:=hid (HR2.out.later hb3);have e1:=HH3.out.c1;clear hb3))
 obtain⟨z,hz, -,hzc⟩:=HH3.out.plc p hp9
 rw[HPL.out,HFP.out] at hz
 have m0:w3.cell? ⟨g,2+p*15,none⟩=some (.int .i64 z.slot):=hzc w3 (Below.refl _ _) 0 (by omega)
 have m1:w3.cell? ⟨g,2+p*15+1,none⟩=some (.int .i64 z.ballot):=hzc w3 (Below.refl _ _) 1 (by omega)
 rw[show z.ballot=y.ballot from congrArg PlV.ballot hz] at m1
 rw[show z.slot=y.slot from congrArg PlV.slot hz] at m0
 clear hz hzc a1 e1 n0 d1 d2 CB CS CM CI CC
 clear c0 c1 c2 c3 c4 c5
 have c0:=cell_at HK3.out 0
 have c1:=cell_at HK3.out 1
 have c2:=cell_at HK3.out 2
 have c3:=cell_at HK3.out 3
 have c4:=cell_at HK3.out 4
 have c5:=cell_at HK3.out 5
 simp at c0 c1 c2 c3 c4 c5
 have CP:=hid (CopyL_any x (.slice ua x.reqs.length uc) w3 (HR3.out) HL3.out)
 unfold batVal at CP
 go_upto_region 14 with ((go_at_call 30;refine CP.out.mono ?_;rintro e w4 ⟨ya,yc,rfl,hoy,hb4⟩;have HB4:=hid (step HB3.out hb4);have HM4:=hid (HH3.out.later hb4).mid;have HOY:Hid (OwnP m w4 ⟨t,b,[],x,ya,yc⟩):=hid (own_lowerX hoy (HH3.out.mw));clear hb4 hoy m0 m1 c0 c1 c2 c3 c4 c5;have cf:=HM4.out.open_;have hx:=fun j (hj:j<15)=>HM4.out.cells (placesL_length _) p hp9 j hj;obtain⟨o0,m0⟩: ∃u,w4.cell? ⟨g,2+p*15,none⟩=some u:=hx 0 (by omega);obtain⟨o1,m1⟩:=hx 1 (by omega);obtain⟨o2,m2⟩:=hx 2 (by omega);obtain⟨o3,m3⟩:=hx 3 (by omega);obtain⟨o4,m4⟩:=hx 4 (by omega);obtain⟨o5,m5⟩:=hx 5 (by omega);obtain⟨o6,m6⟩:=hx 6 (by omega);obtain⟨o7,m7⟩:=hx 7 (by omega);obtain⟨o8,m8⟩:=hx 8 (by omega);obtain⟨o9,m9⟩:=hx 9 (by omega);obtain⟨o10,m10⟩:=hx 10 (by omega);obtain⟨o11,m11⟩:=hx 11 (by omega);obtain⟨o12,m12⟩:=hx 12 (by omega);obtain⟨o13,m13⟩:=hx 13 (by omega);obtain⟨o14,m14⟩:=hx 14 (by omega);clear hx;unfold batVal;dsimp only))
 have HM5:=hid (HM4.out.put (placesL_length _) p hp9 ⟨t,b,[],x,ya,yc⟩ HOY.out)
 have HG5:=hid ((gr_belowL (World.grownBy.refl _ _) HB4.out).trans (set15_grown w4 g (2+p*15) ⟨t,b,[],x,ya,yc⟩))
 unfold set15 VotC.u at HM5 HG5
 dsimp only at HM5 HG5
 rw[inW_nil,inW_nil,inW_nil,inW_nil,inW_nil,inW_nil,inW_nil] at HM5 HG5
 clear m0 m1 m2 m3 m4 m5 m6 m7 m8 m9 m10 m11 m12 m13 m14 cf HM4 HOY CP
 generalize (((((((((((((((w4.setCell ⟨g,2+p*15,none⟩ (.int .i64 t)).setCell ⟨g,2+p*15+1,none⟩ (.int .i64 b)).setCell ⟨g,2+p*15+2,none⟩ (.bool x.fill)).setCell ⟨g,2+p*15+3,none⟩ (.int .i64 x.view)).setCell ⟨g,2+p*15+4,none⟩ (.int .i64 x.tv)).setCell ⟨g,2+p*15+5,none⟩ (.int .i64 x.ts)).setCell ⟨g,2+p*15+6,none⟩ (.int .i64 x.time)).setCell ⟨g,2+p*15+7,none⟩ (.slice ya x.reqs.length yc)).setCell ⟨g,2+p*15+8,none⟩ (.bool false)).setCell ⟨g,2+p*15+9,none⟩ (.bool false)).setCell ⟨g,2+p*15+10,none⟩ (.bool false)).setCell ⟨g,2+p*15+11,none⟩ (.bool false)).setCell ⟨g,2+p*15+12,none⟩ (.bool false)).setCell ⟨g,2+p*15+13,none⟩ (.bool false)).setCell ⟨g,2+p*15+14,none⟩ (.bool false))=W5 at HM5 HG5 ⊢
 obtain⟨o5,m5⟩:=HM5.out.cells (by simp [placesL_length]) p hp9 (8+F) (by omega)
 rw[<-Nat.add_assoc] at m5
 have cf:=HM5.out.open_
 have HM6:=hid (HM5.out.vote (by simp [placesL_length]) p hp9 F hF7 (⟨t,b,[],x⟩:PlV) (by rw[List.getElem_set_self];rfl))
 have HG6:=hid (HG5.out.trans (grown_setL W5 g (2+p*15+8+F) (.bool true)))
 clear HM5 HG5
 go_wp2
 go_ret
 have HF:=HM6.out
 exact⟨rfl,by rw[List.set_set] at HF;exact HF,HG6.out⟩
set_option maxHeartbeats 8000000 in
theorem Hear_more (g m:Nat) (s:LrnV) (f b t:Int) (x:BatV) (u:Value) (w:World) (h:HasD w g m s) (hs:GoodN s) (hr:RdR w u x.reqs) (hgood:badF s f b t x=false) (h1:s.done<t) (h9:t<=s.done+9) (hch:chosenB s t=false) (y:SlotV) (hy:at_ s.l t=some y) (heq:y.ballot=b):
  Calls Try.prog 13 #[.pointer (some ⟨g,0,none⟩),.int .i64 f,.int .i64 b,.int .i64 t,batVal x u] w (fun e w'=>e= .returned (.int .i64 0)/\MidD w' g m s.n s.done ((placesL s.l).set (t % 9).toNat ⟨y.slot,y.ballot,addW f y.who,y.bat⟩)/\w.grownBy w' (some g)):=by
 unfold badF at hgood
 simp only[Bool.not_eq_false',Bool.and_eq_true,decide_eq_true_eq] at hgood
 obtain⟨⟨⟨⟨f0,f1⟩,hb⟩,ht⟩,hm⟩:=hgood
 obtain⟨ua,uc,rfl⟩:=hr.form
 have CB:=hid (fun w=>isBallot_any b w)
 have CS:=hid (fun w=>isSlot_any t w)
 have hb1:=newAlloc w (.cells #[.bool x.fill,.int .i64 x.view,.int .i64 x.tv,.int .i64 x.ts,.int .i64 x.time,.slice ua x.reqs.length uc] 38)
 have k1:=alloc_atB w (.cells #[.bool x.fill,.int .i64 x.view,.int .i64 x.tv,.int .i64 x.ts,.int .i64 x.time,.slice ua x.reqs.length uc] 38) _ rfl
 obtain⟨W1,hW1⟩: ∃W1,W1=w.alloc (.cells #[.bool x.fill,.int .i64 x.view,.int .i64 x.tv,.int .i64 x.ts,.int .i64 x.time,.slice ua x.reqs.length uc] 38):=⟨_,rfl⟩
 rw[<-hW1] at hb1 k1
 have CM:=hid (MayB_any x (.slice ua x.reqs.length uc) W1 (hr.later hb1))
 have CI:=hid (isReplica_any g m s f W1 (h.later hb1))
 have HB1:=hid hb1
 have HH1:=hid (h.later hb1)
 have HK1:=hid k1
 have HG:=hid hs
 have c0:=cell_at HK1.out 0
 have c1:=cell_at HK1.out 1
 have c2:=cell_at HK1.out 2
 have c3:=cell_at HK1.out 3
 have c4:=cell_at HK1.out 4
 have c5:=cell_at HK1.out 5
 simp at c0 c1 c2 c3 c4 c5
 have n0:=HH1.out.c0
 unfold batVal at CM ⊢
 rw[decide_eq_true f0,decide_eq_true f1] at CI
 rw[hb] at CB
 have HT0:Hid (-9223372036854775808<=t):=hid (by simp [highF] at ht;omega)
 have HT1:Hid (0<=t):=hid (by simp [highF] at ht;omega)
 rw[ht] at CS
 rw[hm] at CM
 have hd0:=hs.d0
 have hd1:=hs.d1
 have e9:IntKind.i64.wrap (s.done+9)=s.done+9:=by rw[IntKind.wrap_i64];omega
 obtain⟨p,hp⟩: ∃p:Nat,t % 9=(p:Int):=⟨(t % 9).toNat,by omega⟩
 have hp9:p<9:=by omega
 have ht9:t.tmod 9=(p:Int):=by rw[Int.tmod_eq_emod_of_nonneg HT1.out];exact hp
 have q0:(0:Int)<=(p:Int):=by omega
 have q9:(p:Int)<9:=by omega
 have HP:=hid hp
 have HW1:=hid h1
 have HW2:=hid h9
 have d1:decide (t<=s.done)=false:=decide_eq_false (by omega)
 have d2:decide (s.done+9<t)=false:=decide_eq_false (by omega)
 have HPL:Hid (plcP s.l p=findP s t):=hid (findP_in hs h1 h9 p hp).symm
 have HCH:=hid hch
 obtain⟨F,hF⟩: ∃F:Nat,f=(F:Int):=⟨f.toNat,by omega⟩
 subst hF
 have hF7:F<7:=by have:=hs.n7;omega
 have i0:(0:Int)<=(F:Int):=by omega
 have i7:(F:Int)<7:=by omega
 have HL3:Hid (x.reqs.length<=1000):=hid (by have:=mayB_lenL hm;omega)
 have HFP:Hid (findP s t=plOf y):=hid (by unfold findP;rw[hy])
 have d3:decide (b<y.ballot)=false:=decide_eq_false (by omega)
 have d5:decide (y.ballot<b)=false:=decide_eq_false (by omega)
 have d4:(y.slot==0)=false:=by
  have:=(hs.all y (at_mem hy).1).lo
  have:y.slot≠0:=by omega
  simpa using this
 rw[show(t % 9).toNat =p by omega]
 clear hb1 k1 h hr hs hb ht hm f0 f1 hd0 hd1 h1 h9 hp hch hy heq
 go_enter Try.func13,Try.ntmps13
 go_upto_region 1 with fail
 rw[<-hW1]
 clear hW1
 go_upto_region 10 with (first
   | (go_at_call 25;refine CI.out.mono ?_;rintro e wz ⟨rfl,rfl⟩)
   | (go_at_call 26;refine(CB.out _).mono ?_;rintro e wz ⟨rfl,rfl⟩)
   | (go_at_call 27;refine(CS.out _).mono ?_;rintro e wz ⟨rfl,rfl⟩)
   | (go_at_call 28;refine CM.out.mono ?_;rintro e w2 ⟨rfl,hb2⟩;have HB2:=hid (step HB1.out hb2);have HH2:=hid (HH1.out.later hb2);have HK2:=hid (cells_later HK1.out hb2);have a1:=HH2.out.c1;have CC:=hid (IsChosen_any g m s t w2 HH2.out HG.out HT0.out);rw[HCH.out] at CC;clear hb2)
   | (go_at_call 29;refine CC.out.mono ?_;rintro e w3 ⟨rfl,hb3⟩;have HB3:=hid (step HB2.out hb3);have HH3:=hid (HH2.out.later hb3);have HK3:=hid (cells_later HK2.out hb3);have e1:=HH3.out.c1;clear hb3))
 obtain⟨z,hz, -,hzc⟩:=HH3.out.plc p hp9
 rw[HPL.out,HFP.out] at hz
 have m0:w3.cell? ⟨g,2+p*15,none⟩=some (.int .i64 z.slot):=hzc w3 (Below.refl _ _) 0 (by omega)
 have m1:w3.cell? ⟨g,2+p*15+1,none⟩=some (.int .i64 z.ballot):=hzc w3 (Below.refl _ _) 1 (by omega)
 rw[show z.ballot=y.ballot from congrArg PlV.ballot hz] at m1
 rw[show z.slot=y.slot from congrArg PlV.slot hz] at m0
 clear hz hzc a1 e1 n0 d1 d2 CB CS CM CI CC
 clear c0 c1 c2 c3 c4 c5
 go_upto_region 14 with fail
 clear m0 m1
 have HM5:=hid HH3.out.mid
 have HG5:=hid (gr_belowL (World.grownBy.refl _ (some g)) HB3.out)
 generalize w3=W5 at HM5 HG5 ⊢
 obtain⟨o5,m5⟩:=HM5.out.cells (placesL_length _) p hp9 (8+F) (by omega)
 rw[<-Nat.add_assoc] at m5
 have cf:=HM5.out.open_
 have HM6:=hid (HM5.out.vote (placesL_length _) p hp9 F hF7 (plOf y:PlV) (by rw[placesL_get,HPL.out,HFP.out]))
 have HG6:=hid (HG5.out.trans (grown_setL W5 g (2+p*15+8+F) (.bool true)))
 clear HM5 HG5
 go_wp2
 go_ret
 have HF:=HM6.out
 exact⟨rfl,HF,HG6.out⟩
theorem hearF_bad {s:LrnV} {f b t:Int} {x:BatV} (h:badF s f b t x=true):hearF s f b t x=(s,1):=by
 unfold badF at h
 unfold hearF
 rw[if_pos ((Bool.not_eq_true' _).mp h)]
theorem hearF_good {s:LrnV} {f b t:Int} {x:BatV} (h:badF s f b t x=false):hearF s f b t x=match at_ s.l t with
  | some y=>if t<=s.done\/y.chosen=true then (s,11) else if s.done+9<t then (s,5) else if b<y.ballot then (s,11) else (⟨s.n,s.done,putS (nextS s.n y f b x) s.l⟩,0)
  | none=>if t<=s.done then (s,11) else if s.done+9<t then (s,5) else (⟨s.n,s.done,putS (nextS s.n ⟨t,b,[],x,false⟩ f b x) s.l⟩,0):=by
 unfold badF at h
 unfold hearF
 rw[if_neg (fun q=>by rw[(Bool.not_eq_false' _).mp h] at q;cases q)]
 rfl
theorem Hear_any (g m:Nat) (s:LrnV) (f b t:Int) (x:BatV) (u:Value) (w:World) (h:HasD w g m s) (hs:GoodN s) (hr:RdR w u x.reqs):
  Calls Try.prog 13 #[.pointer (some ⟨g,0,none⟩),.int .i64 f,.int .i64 b,.int .i64 t,batVal x u] w (DidD g m (hearF s f b t x) w):=by
 cases hbad:badF s f b t x
 case true=>
  rw[hearF_bad hbad]
  exact Hear_arg g m s f b t x u w h hs hr hbad
 rw[hearF_good hbad]
 by_cases h1:t<=s.done
 ·have e:(match at_ s.l t with
   | some y=>if t<=s.done\/y.chosen=true then (s,11) else if s.done+9<t then (s,5) else if b<y.ballot then (s,11) else (⟨s.n,s.done,putS (nextS s.n y f b x) s.l⟩,0)
   | none=>if t<=s.done then (s,11) else if s.done+9<t then (s,5) else (⟨s.n,s.done,putS (nextS s.n ⟨t,b,[],x,false⟩ f b x) s.l⟩,0))=(s,(11:Int)):=by
   split
   ·rw[if_pos (.inl h1)]
   ·rw[if_pos h1]
  rw[e]
  exact Hear_no g m s f b t x u w h hs hr hbad 11 (.inl ⟨h1,rfl⟩)
 by_cases h9:s.done+9<t
 ·rw[at_far hs.win (.inr h9)]
  dsimp only
  rw[if_neg h1,if_pos h9]
  exact Hear_no g m s f b t x u w h hs hr hbad 5 (.inr (.inr ⟨h9,rfl⟩))
 obtain⟨p,hp⟩: ∃p:Nat,t % 9=(p:Int):=⟨(t % 9).toNat,by omega⟩
 have hp':(t % 9).toNat =p:=by omega
 cases hy:at_ s.l t with
 | none=>
  dsimp only
  rw[if_neg h1,if_neg h9]
  refine(Hear_none g m s f b t x u w h hs hr hbad (by omega) (by omega) (by unfold chosenB;rw[hy]) hy).mono ?_
  rintro e w' ⟨h2,h3,h4⟩
  refine⟨h2,MidD.has hs _ ?_ ?_ p ?_ (by rw[hp'] at h3;rw[show plOf (nextS s.n ⟨t,b,[],x,false⟩ f b x)=⟨t,b,addW f [],x⟩ by unfold nextS plOf;dsimp only;rw[if_neg (Int.lt_irrefl _)]];exact h3),h4⟩
  ·show s.done<t;omega
  ·show t<=s.done+9;omega
  ·exact hp
 | some y=>
  dsimp only
  have hys:=(at_mem hy).2
  by_cases hc:y.chosen=true
  ·rw[if_pos (.inr hc)]
   exact Hear_no g m s f b t x u w h hs hr hbad 11 (.inr (.inl ⟨by omega,by unfold chosenB;rw[hy];exact hc,rfl⟩))
  ·rw[if_neg (fun q=>q.elim h1 hc),if_neg h9]
   have hch:chosenB s t=false:=by unfold chosenB;rw[hy];simpa using hc
   by_cases hl:b<y.ballot
   ·rw[if_pos hl]
    exact Hear_less g m s f b t x u w h hs hr hbad (by omega) (by omega) hch y hy hl
   ·rw[if_neg hl]
    by_cases hgr:y.ballot<b
    ·refine(Hear_greater g m s f b t x u w h hs hr hbad (by omega) (by omega) hch y hy hgr).mono ?_
     rintro e w' ⟨h2,h3,h4⟩
     refine⟨h2,MidD.has hs _ ?_ ?_ p ?_ (by rw[hp'] at h3;rw[show plOf (nextS s.n y f b x)=⟨t,b,addW f [],x⟩ by unfold nextS plOf;dsimp only;rw[if_pos hgr,hys]];exact h3),h4⟩
     ·show s.done<y.slot;omega
     ·show y.slot<=s.done+9;omega
     ·rw[show(nextS s.n y f b x).slot =y.slot from rfl,hys];exact hp
    ·refine(Hear_more g m s f b t x u w h hs hr hbad (by omega) (by omega) hch y hy (by omega)).mono ?_
     rintro e w' ⟨h2,h3,h4⟩
     refine⟨h2,MidD.has hs _ ?_ ?_ p ?_ (by rw[hp'] at h3;rw[show plOf (nextS s.n y f b x)=⟨y.slot,y.ballot,addW f y.who,y.bat⟩ by unfold nextS plOf;dsimp only;rw[if_neg hgr]];exact h3),h4⟩
     ·show s.done<y.slot;omega
     ·show y.slot<=s.done+9;omega
     ·rw[show(nextS s.n y f b x).slot =y.slot from rfl,hys];exact hp
theorem Hear_nil (f b t:Int) (x:BatV) (u:Value) (w:World) (hr:RdR w u x.reqs):Calls Try.prog 13 #[.pointer none,.int .i64 f,.int .i64 b,.int .i64 t,batVal x u] w (fun e w'=>e= .returned (.int .i64 6)/\Below w.heap.size w w'):=by
 obtain⟨ua,uc,rfl⟩:=hr.form
 have hb1:=newAlloc w (.cells #[.bool x.fill,.int .i64 x.view,.int .i64 x.tv,.int .i64 x.ts,.int .i64 x.time,.slice ua x.reqs.length uc] 38)
 unfold batVal
 go_enter Try.func13,Try.ntmps13
 go_wp2
 go_ret
 exact⟨rfl,hb1⟩
end Ln
end Go.Proofs.Ytbcnednhfmchpaa
