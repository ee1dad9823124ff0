/- Texts laid together by program. -/
import Derived.Test.YtbcnednhfmchpaaQ12
import Derived.Lib.QuietBelow
/- Boxes of batches; contract of layer 15's awake. -/
set_option linter.unusedVariables false
set_option maxRecDepth 8000
set_option linter.unusedSimpArgs false
namespace Go.Proofs.Ytbcnednhfmchpaa
open Lib (hid)
open Go.RowKit
namespace Ln
open Cm

theorem step_grL {B:Nat} {a w w':World} {g:Nat} (h:Below B a w) (hg:w.grownBy w' (some g)) (hB:B<=g) (hs:B<=w.heap.size):Below B a w':=
 h.grown hg hs (fun k hk=>by cases hk;exact hB)
theorem New_yes (n:Int) (w:World) (h:someN n=true):Calls Try.prog 9 #[.int .i64 n] w (fun e w'=>e= .returned (.pointer (some ⟨w.heap.size,0,none⟩))/\w'=w.alloc (.cells (lrnCells n 0 (List.replicate 9 zeroPC)) 63)):=by
 refine(New_any n w).mono ?_
 intro e w' q
 rw[if_pos h] at q
 exact q
theorem New_no (n:Int) (w:World) (h:someN n=false):Calls Try.prog 9 #[.int .i64 n] w (fun e w'=>e= .returned (.pointer none)/\w'=w):=by
 refine(New_any n w).mono ?_
 intro e w' q
 rw[h,if_neg Bool.false_ne_true] at q
 exact q
structure BoxB (w:World) (b:Nat) (x:BatV) (u:Value):Prop where
 ex:w.heap[b]?=some (.cells #[.bool x.fill,.int .i64 x.view,.int .i64 x.tv,.int .i64 x.ts,.int .i64 x.time,u] 38)
section
variable {w w' : World} {b g : Nat} {x : BatV} {u : Value}
theorem BoxB.lt (h:BoxB w b x u):b<w.heap.size:=get_ltB h.ex
theorem BoxB.later (h:BoxB w b x u) (hb:Below w.heap.size w w'):BoxB w' b x u:=⟨cells_later h.ex hb⟩
theorem BoxB.gr (h:BoxB w b x u) (hg:w.grownBy w' (some g)) (hne:b≠g):BoxB w' b x u:=⟨(hg.block _ h.lt (fun q=>hne (by cases q;rfl))).trans h.ex⟩
theorem BoxB.c0 (h:BoxB w b x u):w.cell? ⟨b,0,none⟩=some (.bool x.fill):=cell_at h.ex 0
theorem BoxB.c1 (h:BoxB w b x u):w.cell? ⟨b,1,none⟩=some (.int .i64 x.view):=cell_at h.ex 1
theorem BoxB.c2 (h:BoxB w b x u):w.cell? ⟨b,2,none⟩=some (.int .i64 x.tv):=cell_at h.ex 2
theorem BoxB.c3 (h:BoxB w b x u):w.cell? ⟨b,3,none⟩=some (.int .i64 x.ts):=cell_at h.ex 3
theorem BoxB.c4 (h:BoxB w b x u):w.cell? ⟨b,4,none⟩=some (.int .i64 x.time):=cell_at h.ex 4
theorem BoxB.c5 (h:BoxB w b x u):w.cell? ⟨b,5,none⟩=some u:=cell_at h.ex 5
theorem BoxB.new (w:World) (x:BatV) (u:Value) (b:Nat) (hb:w.heap.size=b):BoxB (w.alloc (.cells #[.bool x.fill,.int .i64 x.view,.int .i64 x.tv,.int .i64 x.ts,.int .i64 x.time,u] 38)) b x u:=⟨alloc_atB w _ _ hb⟩
end

theorem rdi_lit2 (w:World) (a b:Int):RdI (w.alloc (.cells #[.int .i64 a,.int .i64 b] 3)) (.slice (some ⟨w.heap.size,0,none⟩) 2 2) [a,b]:=by
 have h:=World.ownsRow_lit (base:=w.heap.size) (e:=3) (size:=1) w #[.int .i64 a,.int .i64 b] 2 (Nat.le_refl _) (by unfold maxLen;omega) (by simp)
 exact RdX.own (l:= [a,b]) cellsI_length h
def b4:BatV:=⟨false,0,0,0,4,[]⟩
def st1:LrnV:=⟨3,0,[⟨1,5,[0],b4,false⟩]⟩
def st2:LrnV:=⟨3,0,[⟨1,5,[0,2],b4,true⟩]⟩
theorem hear1:hearF (newL 3) 0 5 1 b4=(st1,0):=by rfl
theorem hear2:hearF st1 2 5 1 b4=(st2,0):=by rfl
theorem chos1:chosenF st1 1=(zeroB,false):=by rfl
theorem chos2:chosenF st2 1=(b4,true):=by rfl
theorem heard2:heardF st2 1=(5,[0,2]):=by rfl
theorem lo64:(-9223372036854775808:Int)<=1:=by decide
set_option maxHeartbeats 8000000 in
theorem awake15_ok (w:World):Calls Try.prog 8 #[] w (SaysB true w):=by
 have CN:=hid (New_yes 3 w (by rfl))
 obtain⟨g,hgw⟩: ∃g,w.heap.size=g:=⟨_,rfl⟩
 rw[hgw] at CN
 have HGW:=hid hgw
 clear hgw
 have hg0:GoodN (newL 3):=newL_good 3 (by decide) (by decide)
 have hg1:GoodN st1:=by have:=hg0.hear 0 5 1 b4;rw[hear1] at this;exact this
 have hg2:GoodN st2:=by have:=hg1.hear 2 5 1 b4;rw[hear2] at this;exact this
 have CA:=hid (fun(w':World) h=>Hear_any g (g+1) (newL 3) 0 5 1 b4 (.slice none 0 0) w' h hg0 (RdX.nil _))
 rw[hear1] at CA
 have CB:=hid (fun(w':World) h=>Hear_any g (g+1) st1 2 5 1 b4 (.slice none 0 0) w' h hg1 (RdX.nil _))
 rw[hear2] at CB
 have CC1:=hid (fun(w':World) h=>Chosen_any g (g+1) st1 1 w' h hg1 lo64)
 rw[chos1] at CC1
 have CC2:=hid (fun(w':World) h=>Chosen_any g (g+1) st2 1 w' h hg2 lo64)
 rw[chos2] at CC2
 have CH:=hid (fun(w':World) h=>Heard_any g (g+1) st2 1 w' h hg2 lo64)
 rw[heard2] at CH
 have CS:=hid (fun W u h=>RefSameB_any b4 b4 u (.slice none 0 0) W h (RdX.nil _))
 rw[show sameB b4 b4=true by rfl] at CS
 have CI:=hid (fun W u v h h2=>SameInts_any u v [0,2] [0,2] W h h2)
 rw[show sameI [0,2] [0,2]=true by rfl] at CI
 have CN0:=hid (fun W=>New_no 0 W (by rfl))
 unfold batVal at CA CB CS
 clear hg0 hg1 hg2
 go_enter Try.func8,Try.ntmps8
 go_upto_region 5 with (go_at_call 9;refine CN.out.mono ?_;rintro e w1 hnw;obtain⟨rfl,hw⟩:=hnw;have HA1:Hid (HasD w1 g (g+1) (newL 3)):=hid (HasD.new (by rw[hw];exact Cm.alloc_atB _ _ _ HGW.out) (by omega) (by rw[hw];simp [HGW.out]));have HB1:Hid (Below w.heap.size w w1):=hid (by rw[hw];exact newAlloc _ _);have hs1:Hid (w1.heap.size=g+1):=hid (by rw[hw];simp [HGW.out]);clear hw)
 have hb:=newAlloc w1 (.cells #[.bool false,.int .i64 0,.int .i64 0,.int .i64 0,.int .i64 4,.slice none 0 0] 38)
 have HK12:Hid (BoxB (w1.alloc (.cells #[.bool false,.int .i64 0,.int .i64 0,.int .i64 0,.int .i64 4,.slice none 0 0] 38)) (g+1) b4 (.slice none 0 0)):=hid (BoxB.new w1 b4 (.slice none 0 0) _ hs1.out)
 have HA2:=hid (HA1.out.later hb)
 have HB2:=hid (step HB1.out hb)
 rw[hs1.out]
 generalize w1.alloc (.cells #[.bool false,.int .i64 0,.int .i64 0,.int .i64 0,.int .i64 4,.slice none 0 0] 38)=w2 at HK12 HA2 HB2 ⊢
 clear hb
 have c0:=HK12.out.c0
 have c1:=HK12.out.c1
 have c2:=HK12.out.c2
 have c3:=HK12.out.c3
 have c4:=HK12.out.c4
 have c5:=HK12.out.c5
 go_upto_region 6 with (go_at_call 13;refine(CA.out _ HA2.out).mono ?_;rintro e w3 ⟨rfl,ha,hg⟩;have HA3:=hid ha;have HB3:=hid (step_grL HB2.out hg (by rw[HGW.out];exact Nat.le_refl _) HB2.out.size);have HK13:=hid (HK12.out.gr hg (by omega));clear ha hg;dsimp only)
 clear c0 c1 c2 c3 c4 c5
 go_upto_region 7 with (go_at_call 16;refine(CC1.out _ HA3.out).mono ?_;rintro e w4 ⟨u4,rfl,hr,hb⟩;obtain⟨u4a,u4c,hv⟩:=hr.form;subst hv;have HA4:=hid (HA3.out.later hb);have HB4:=hid (step HB3.out hb);have HRu4:=hid hr;have HK14:=hid (HK13.out.later hb);clear hr hb;unfold Cm.batVal;dsimp only)
 have hb:=newAlloc w4 (.cells #[.bool zeroB.fill,.int .i64 zeroB.view,.int .i64 zeroB.tv,.int .i64 zeroB.ts,.int .i64 zeroB.time,.slice u4a zeroB.reqs.length u4c] 38)
 have HA5:=hid (HA4.out.later hb)
 have HB5:=hid (step HB4.out hb)
 have HK15:=hid (HK14.out.later hb)
 generalize w4.alloc (.cells #[.bool zeroB.fill,.int .i64 zeroB.view,.int .i64 zeroB.tv,.int .i64 zeroB.ts,.int .i64 zeroB.time,.slice u4a zeroB.reqs.length u4c] 38)=w5 at HA5 HB5 HK15 ⊢
 clear hb
 have c0:=HK15.out.c0
 have c1:=HK15.out.c1
 have c2:=HK15.out.c2
 have c3:=HK15.out.c3
 have c4:=HK15.out.c4
 have c5:=HK15.out.c5
 go_upto_region 8 with (go_at_call 13;refine(CB.out _ HA5.out).mono ?_;rintro e w6 ⟨rfl,ha,hg⟩;have HA6:=hid ha;have HB6:=hid (step_grL HB5.out hg (by rw[HGW.out];exact Nat.le_refl _) HB5.out.size);have HK16:=hid (HK15.out.gr hg (by omega));clear ha hg;dsimp only)
 clear c0 c1 c2 c3 c4 c5
 go_upto_region 9 with (go_at_call 16;refine(CC2.out _ HA6.out).mono ?_;rintro e w7 ⟨u7,rfl,hr,hb⟩;obtain⟨u7a,u7c,hv⟩:=hr.form;subst hv;have HA7:=hid (HA6.out.later hb);have HB7:=hid (step HB6.out hb);have HRu7:=hid hr;have HK17:=hid (HK16.out.later hb);clear hr hb;unfold Cm.batVal;dsimp only)
 have hb:=newAlloc w7 (.cells #[.bool b4.fill,.int .i64 b4.view,.int .i64 b4.tv,.int .i64 b4.ts,.int .i64 b4.time,.slice u7a b4.reqs.length u7c] 38)
 obtain⟨x7,hx7⟩: ∃x,w7.heap.size=x:=⟨_,rfl⟩
 have HK28:=hid (BoxB.new w7 b4 (.slice u7a b4.reqs.length u7c) x7 hx7)
 rw[hx7]
 have HA8:=hid (HA7.out.later hb)
 have HB8:=hid (step HB7.out hb)
 have HK18:=hid (HK17.out.later hb)
 have HR8:=hid (HRu7.out.later hb)
 generalize w7.alloc (.cells #[.bool b4.fill,.int .i64 b4.view,.int .i64 b4.tv,.int .i64 b4.ts,.int .i64 b4.time,.slice u7a b4.reqs.length u7c] 38)=w8 at HA8 HB8 HK18 HK28 HR8 ⊢
 clear hb
 go_upto_region 10 with (go_at_call 18;refine(CH.out _ HA8.out).mono ?_;rintro e w9 ⟨u9,rfl,hr,hb⟩;obtain⟨u9a,u9c,hv⟩:=hr.form;subst hv;have HA9:=hid (HA8.out.later hb);have HB9:=hid (step HB8.out hb);have HRu9:=hid hr;have HK19:=hid (HK18.out.later hb);have HK29:=hid (HK28.out.later hb);have HR9:=hid (HR8.out.later hb);clear hr hb;dsimp only)
 have c0:=HK19.out.c0
 have c1:=HK19.out.c1
 have c2:=HK19.out.c2
 have c3:=HK19.out.c3
 have c4:=HK19.out.c4
 have c5:=HK19.out.c5
 have d0:=HK29.out.c0
 have d1:=HK29.out.c1
 have d2:=HK29.out.c2
 have d3:=HK29.out.c3
 have d4:=HK29.out.c4
 have d5:=HK29.out.c5
 have CS9:=hid (CS.out w9 _ HR9.out)
 unfold batVal at CS9
 go_wp2_with (first
  | (go_at_call 20;refine CS9.out.mono ?_;rintro e w10 ⟨rfl,hb⟩;have HB10:=hid (step HB9.out hb);have HR10:=hid (HRu9.out.later hb);clear hb)
  | (go_at_call 21;refine(CI.out _ _ _ (HR10.out.later (newAlloc _ _)) (rdi_lit2 _ _ _)).mono ?_;rintro e w11 ⟨rfl,hb⟩;have HB11:=hid (step (stepAlloc HB10.out _) hb);clear hb)
  | (go_at_call 9;refine(CN0.out _).mono ?_;rintro e wz ⟨rfl,hwz⟩;rw[hwz];clear hwz wz))
 go_ret
 exact⟨rfl,HB11.out⟩
end Ln
end Go.Proofs.Ytbcnednhfmchpaa

/- What the statements of layer 15 ask of plain learners. No program is named here. -/
set_option linter.unusedVariables false
set_option maxRecDepth 8000
set_option linter.unusedSimpArgs false
namespace Go.Proofs.Ytbcnednhfmchpaa
open Lib (hid)
open Go.RowKit
namespace Ln
open Cm

theorem hear_same (s:LrnV) (f b t:Int) (q:BatV):(hearF s f b t q).1.done =s.done/\(hearF s f b t q).1.n =s.n:=by
 unfold hearF
 split
 ·exact⟨rfl,rfl⟩
 ·split
  ·split
   ·exact⟨rfl,rfl⟩
   ·split
    ·exact⟨rfl,rfl⟩
    ·split<;>exact⟨rfl,rfl⟩
  ·split
   ·exact⟨rfl,rfl⟩
   ·split<;>exact⟨rfl,rfl⟩
theorem trim_same {s:LrnV} {d:Int} (h:d<=s.done):trimL s d=s:=by
 unfold trimL
 rw[if_pos (.inl h)]
theorem trim_new (n:Int) (P:Nat) (hP:P<65536):trimL (newL n) (P:Int)=⟨n,(P:Int),[]⟩:=by
 unfold trimL newL
 dsimp only
 by_cases h:(P:Int)<=0
 ·rw[if_pos (.inl h)]
  congr 1
  omega
 ·rw[if_neg (by omega)]
  rfl
theorem may_fill:mayB fillB=true:=by decide+kernel
theorem hear_ok {s:LrnV} {f b t:Int} {q:BatV} (h0:0<=f) (h1:f<s.n) (hb:highF b 0=true) (ht:highF t 1=true) (hq:mayB q=true):hearF s f b t q=match at_ s.l t with
  | some y=>if t<=s.done\/y.chosen=true then (s,11) else if s.done+9<t then (s,5) else if b<y.ballot then (s,11) else (⟨s.n,s.done,putS (nextS s.n y f b q) s.l⟩,0)
  | none=>if t<=s.done then (s,11) else if s.done+9<t then (s,5) else (⟨s.n,s.done,putS (nextS s.n ⟨t,b,[],q,false⟩ f b q) s.l⟩,0):=by
 unfold hearF
 rw[if_neg (by rw[hb,ht,hq,decide_eq_true h0,decide_eq_true h1];decide)]
 rfl
theorem hear_who {s:LrnV} {f b t:Int} {q:BatV} (h:f<0\/s.n<=f):hearF s f b t q=(s,1):=by
 unfold hearF
 rw[if_pos]
 rcases h with h | h
 ·rw[decide_eq_false (by omega)];rfl
 ·rw[decide_eq_false (show ¬f<s.n by omega),Bool.and_false];rfl
theorem room_ok (P Q:Nat) (hP:P<65536) (hQ:Q<65536) (f:Int): ∃st1 c1 st2 c2,hearF ⟨3,(P:Int),[]⟩ 0 1 (1+(Q:Int)) fillB=(st1,c1)/\hearF st1 f 1 ((P:Int)+1) fillB=(st2,c2)/\st2.done=(P:Int)/\trimL st2 ((P:Int) - 1)=st2/\GoodN ⟨3,(P:Int),[]⟩/\GoodN st1/\GoodN st2/\
  (decide (1+(Q:Int)<=(P:Int))=true/\c1=11\/decide (1+(Q:Int)<=(P:Int))=false/\decide ((P:Int)+9<1+(Q:Int))=true/\c1=5\/decide (1+(Q:Int)<=(P:Int))=false/\decide ((P:Int)+9<1+(Q:Int))=false/\c1=0)/\
  (decide (0<=f)=false/\c2=1\/decide (0<=f)=true/\decide (f<3)=false/\c2=1\/decide (0<=f)=true/\decide (f<3)=true/\c2=0):=by
 have hg0:GoodN ⟨3,(P:Int),[]⟩:=by
  have:=(newL_good 3 (by decide) (by decide)).trim (P:Int)
  rw[trim_new 3 P hP] at this
  exact this
 have e1:=hear_ok (s:=⟨3,(P:Int),[]⟩) (f:=0) (b:=1) (t:=1+(Q:Int)) (q:=fillB) (Int.le_refl _) (show(0:Int)<3 by decide) (by decide) (by simp [highF];omega) may_fill
 rw[show at_ (LrnV.l ⟨3,(P:Int),[]⟩) (1+(Q:Int))=none from rfl] at e1
 dsimp only at e1
 have hg1:=hg0.hear 0 1 (1+(Q:Int)) fillB
 obtain⟨st1,c1,hst⟩: ∃st1 c1,hearF ⟨3,(P:Int),[]⟩ 0 1 (1+(Q:Int)) fillB=(st1,c1):=⟨_,_,rfl⟩
 have hs1:=hear_same ⟨3,(P:Int),[]⟩ 0 1 (1+(Q:Int)) fillB
 rw[hst] at hg1 hs1
 dsimp only at hg1 hs1
 obtain⟨hd1,hn1⟩:=hs1
 have hg2:=hg1.hear f 1 ((P:Int)+1) fillB
 obtain⟨st2,c2,hst2⟩: ∃st2 c2,hearF st1 f 1 ((P:Int)+1) fillB=(st2,c2):=⟨_,_,rfl⟩
 have hs2:=hear_same st1 f 1 ((P:Int)+1) fillB
 rw[hst2] at hg2 hs2
 dsimp only at hg2 hs2
 obtain⟨hd2,hn2⟩:=hs2
 have hall: ∀x∈st1.l,x.ballot=1/\x.chosen=false:=by
  rw[hst] at e1
  split at e1
  ·have:st1=⟨3,(P:Int),[]⟩:=congrArg Prod.fst e1
   rw[this]
   intro x hx
   cases hx
  ·split at e1
   ·have:st1=⟨3,(P:Int),[]⟩:=congrArg Prod.fst e1
    rw[this]
    intro x hx
    cases hx
   ·have:st1=⟨3,(P:Int),putS (nextS 3 ⟨1+(Q:Int),1,[],fillB,false⟩ 0 1 fillB) []⟩:=congrArg Prod.fst e1
    rw[this]
    intro x hx
    rcases mem_putS _ _ _ hx with q | q
    ·rw[q]
     exact⟨rfl,rfl⟩
    ·cases q
 refine⟨st1,c1,st2,c2,hst,hst2,by omega,trim_same (by omega),hg0,hg1,hg2,?_,?_⟩
 ·rw[hst] at e1
  by_cases h1:1+(Q:Int)<=(P:Int)
  ·rw[if_pos h1] at e1
   exact .inl ⟨decide_eq_true h1,congrArg Prod.snd e1⟩
  ·rw[if_neg h1] at e1
   by_cases h2:(P:Int)+9<1+(Q:Int)
   ·rw[if_pos h2] at e1
    exact .inr (.inl ⟨decide_eq_false h1,decide_eq_true h2,congrArg Prod.snd e1⟩)
   ·rw[if_neg h2] at e1
    exact .inr (.inr ⟨decide_eq_false h1,decide_eq_false h2,congrArg Prod.snd e1⟩)
 ·by_cases h0:0<=f
  ·by_cases h3:f<3
   ·refine .inr (.inr ⟨decide_eq_true h0,decide_eq_true h3,?_⟩)
    have e2:=hear_ok (s:=st1) (f:=f) (b:=1) (t:=(P:Int)+1) (q:=fillB) h0 (by omega) (by decide) (by simp [highF];omega) may_fill
    rw[hst2] at e2
    have h4: ¬(P:Int)+1<=st1.done:=by omega
    have h5: ¬st1.done+9<(P:Int)+1:=by omega
    split at e2
    ·rename_i y hy
     obtain⟨q1,q2⟩:=hall y (at_mem hy).1
     rw[if_neg (fun q=>q.elim h4 (fun r=>by rw[q2] at r;cases r)),if_neg h5,if_neg (by omega)] at e2
     exact congrArg Prod.snd e2
    ·rw[if_neg h4,if_neg h5] at e2
     exact congrArg Prod.snd e2
   ·refine .inr (.inl ⟨decide_eq_true h0,decide_eq_false h3,?_⟩)
    have e2:=hear_who (s:=st1) (f:=f) (b:=1) (t:=(P:Int)+1) (q:=fillB) (.inr (by omega))
    rw[hst2] at e2
    exact congrArg Prod.snd e2
  ·refine .inl ⟨decide_eq_false h0,?_⟩
   have e2:=hear_who (s:=st1) (f:=f) (b:=1) (t:=(P:Int)+1) (q:=fillB) (.inl (by omega))
   rw[hst2] at e2
   exact congrArg Prod.snd e2
end Ln
end Go.Proofs.Ytbcnednhfmchpaa

/- What LearnBallots asks of plain learners: five replicas, slot 3. No program is named here. -/
set_option linter.unusedVariables false
set_option maxRecDepth 8000
set_option linter.unusedSimpArgs false
namespace Go.Proofs.Ytbcnednhfmchpaa
open Lib (hid)
open Go.RowKit
namespace Ln
open Cm

structure Lst (st:LrnV) (b:Int) (k:Nat):Prop where
 good:GoodN st
 n5:st.n=5
 d0:st.done=0
 of:k=0/\at_ st.l 3=none\/ ∃y,at_ st.l 3=some y/\y.ballot=b/\1<=y.who.length/\y.who.length<=k
theorem Lst.new (b:Int):Lst (newL 5) b 0:=⟨newL_good 5 (by decide) (by decide),rfl,rfl,.inl ⟨rfl,rfl⟩⟩
theorem addW_len (f:Int): ∀l:List Int,(addW f l).length <=l.length+1/\1<=(addW f l).length
 | []=>by simp [addW]
 | x::l=>by
  have:=addW_len f l
  rw[addW]
  split
  ·simp
  ·split<;>simp<;>omega
theorem Lst.unch {st:LrnV} {b:Int} {k:Nat} (h:Lst st b k) (hk:k<=2) {y:SlotV} (hy:at_ st.l 3=some y):y.chosen=false:=by
 rw[(h.good.all y (at_mem hy).1).ch]
 apply decide_eq_false
 rcases h.of with ⟨_,q⟩ | ⟨z,q,_,_,q4⟩
 ·rw[hy] at q;cases q
 ·rw[hy] at q
  cases q
  have:quoF st.n=3:=by rw[h.n5];rfl
  omega
theorem Lst.chosen {st:LrnV} {b:Int} {k:Nat} (h:Lst st b k) (hk:k<=2):chosenF st 3=(zeroB,false):=by
 unfold chosenF
 cases q:at_ st.l 3 with
 | none=>rfl
 | some y=>
  dsimp only
  rw[h.unch hk q]
  rfl
theorem Lst.heard {st:LrnV} {b:Int} {k:Nat} (h:Lst st b k) (hk:k≠0): ∃who,heardF st 3=(b,who)/\1<=who.length/\who.length<=k:=by
 rcases h.of with ⟨q,_⟩ | ⟨z,q,q2,q3,q4⟩
 ·exact absurd q hk
 ·refine⟨z.who,?_,q3,q4⟩
  unfold heardF
  rw[q]
  dsimp only
  rw[q2]
section
variable {st : LrnV} {b c : Int} {k : Nat} {f : Int} {q : BatV}
theorem Lst.more (h:Lst st b k) (hk:k<=2) (f0:0<=f) (f5:f<5) (hb:highF b 0=true) (hq:mayB q=true):(hearF st f b 3 q).2=0/\Lst (hearF st f b 3 q).1 b (k+1):=by
 have hg:=h.good.hear f b 3 q
 have hs:=hear_same st f b 3 q
 have e:=hear_ok (s:=st) (f:=f) (b:=b) (t:=3) (q:=q) f0 (by rw[h.n5];exact f5) hb (by decide) hq
 have h1: ¬(3:Int)<=st.done:=by rw[h.d0];decide
 have h2: ¬st.done+9<3:=by rw[h.d0];decide
 rcases h.of with ⟨k0,hn⟩ | ⟨y,hy,yb,y1,y2⟩
 ·rw[hn] at e
  dsimp only at e
  rw[if_neg h1,if_neg h2] at e
  rw[e] at hg hs ⊢
  refine⟨rfl,hg,hs.2.trans h.n5,hs.1.trans h.d0,.inr ⟨nextS st.n ⟨3,b,[],q,false⟩ f b q,?_,?_,?_,?_⟩⟩
  ·show at_ (putS _ st.l) 3= _
   rw[at_putS,if_pos (by rfl)]
  ·unfold nextS
   dsimp only
   rw[if_neg (Int.lt_irrefl _)]
  ·exact(addW_len _ _).2
  ·unfold nextS
   dsimp only
   rw[if_neg (Int.lt_irrefl _)]
   have:=(addW_len f []).1
   simp at this ⊢
   omega
 ·have hc:=h.unch hk hy
  rw[hy] at e
  dsimp only at e
  rw[if_neg (fun r=>r.elim h1 (fun r=>by rw[hc] at r;cases r)),if_neg h2,if_neg (by omega)] at e
  rw[e] at hg hs ⊢
  refine⟨rfl,hg,hs.2.trans h.n5,hs.1.trans h.d0,.inr ⟨nextS st.n y f b q,?_,?_,?_,?_⟩⟩
  ·show at_ (putS _ st.l) 3= _
   rw[at_putS,if_pos (by rw[nextS_slot];exact(at_mem hy).2)]
  ·unfold nextS
   dsimp only
   rw[if_neg (by omega)]
   exact yb
  ·exact(addW_len _ _).2
  ·unfold nextS
   dsimp only
   rw[if_neg (by omega)]
   have:=(addW_len f y.who).1
   omega
theorem Lst.over (h:Lst st b k) (hk:k<=2) (f0:0<=f) (f5:f<5) (hc:highF c 0=true) (hq:mayB q=true) (hbc:b<c):(hearF st f c 3 q).2=0/\Lst (hearF st f c 3 q).1 c 1:=by
 have hg:=h.good.hear f c 3 q
 have hs:=hear_same st f c 3 q
 have e:=hear_ok (s:=st) (f:=f) (b:=c) (t:=3) (q:=q) f0 (by rw[h.n5];exact f5) hc (by decide) hq
 have h1: ¬(3:Int)<=st.done:=by rw[h.d0];decide
 have h2: ¬st.done+9<3:=by rw[h.d0];decide
 rcases h.of with ⟨k0,hn⟩ | ⟨y,hy,yb,y1,y2⟩
 ·rw[hn] at e
  dsimp only at e
  rw[if_neg h1,if_neg h2] at e
  rw[e] at hg hs ⊢
  refine⟨rfl,hg,hs.2.trans h.n5,hs.1.trans h.d0,.inr ⟨nextS st.n ⟨3,c,[],q,false⟩ f c q,?_,?_,?_,?_⟩⟩
  ·show at_ (putS _ st.l) 3= _
   rw[at_putS,if_pos (by rfl)]
  ·unfold nextS
   dsimp only
   rw[if_neg (Int.lt_irrefl _)]
  ·exact(addW_len _ _).2
  ·unfold nextS
   dsimp only
   rw[if_neg (Int.lt_irrefl _)]
   exact(addW_len f []).1
 ·have hch:=h.unch hk hy
  rw[hy] at e
  dsimp only at e
  rw[if_neg (fun r=>r.elim h1 (fun r=>by rw[hch] at r;cases r)),if_neg h2,if_neg (by omega)] at e
  rw[e] at hg hs ⊢
  refine⟨rfl,hg,hs.2.trans h.n5,hs.1.trans h.d0,.inr ⟨nextS st.n y f c q,?_,?_,?_,?_⟩⟩
  ·show at_ (putS _ st.l) 3= _
   rw[at_putS,if_pos (by rw[nextS_slot];exact(at_mem hy).2)]
  ·unfold nextS
   dsimp only
   rw[if_pos (by omega)]
  ·exact(addW_len _ _).2
  ·unfold nextS
   dsimp only
   rw[if_pos (by omega)]
   exact(addW_len f []).1
theorem Lst.less (h:Lst st b k) (hk:k<=2) (hk0:k≠0) (f0:0<=f) (f5:f<5) (hc:highF c 0=true) (hq:mayB q=true) (hbc:c<b):hearF st f c 3 q=(st,11):=by
 have e:=hear_ok (s:=st) (f:=f) (b:=c) (t:=3) (q:=q) f0 (by rw[h.n5];exact f5) hc (by decide) hq
 have h1: ¬(3:Int)<=st.done:=by rw[h.d0];decide
 have h2: ¬st.done+9<3:=by rw[h.d0];decide
 rcases h.of with ⟨k0,hn⟩ | ⟨y,hy,yb,y1,y2⟩
 ·exact absurd k0 hk0
 ·have hch:=h.unch hk hy
  rw[hy] at e
  dsimp only at e
  rw[if_neg (fun r=>r.elim h1 (fun r=>by rw[hch] at r;cases r)),if_neg h2,if_pos (by omega)] at e
  exact e
end
def bT (t:Int):BatV:=⟨false,0,0,0,t,[]⟩
theorem may_b1:mayB (bT 1)=true:=by decide+kernel
theorem may_b2:mayB (bT 2)=true:=by decide+kernel
end Ln
end Go.Proofs.Ytbcnednhfmchpaa

/- What LearnOrder asks of plain learners: votes of one ballot for one batch in slot 1. No program is named here. -/
set_option linter.unusedVariables false
set_option maxRecDepth 8000
set_option linter.unusedSimpArgs false
namespace Go.Proofs.Ytbcnednhfmchpaa
open Lib (hid)
open Go.RowKit
namespace Ln
open Cm

structure Odd (K:Int):Prop where
 lo:1<=K
 hi:K<=7
 odd:K % 2=1
structure Ord (st:LrnV) (K b:Int) (B:BatV) (who:List Int):Prop where
 good:GoodN st
 n:st.n=K
 d0:st.done=0
 rise:WhoOk K who
 of:who= []/\at_ st.l 1=none\/ ∃y,at_ st.l 1=some y/\y.ballot=b/\y.bat=B/\y.who=who
theorem Ord.new (K b:Int) (B:BatV) (hK:Odd K):Ord (newL K) K b B []:=⟨newL_good K hK.lo hK.hi,rfl,rfl,WhoOk.nil _,.inl ⟨rfl,rfl⟩⟩
theorem addW_in (f:Int): ∀l:List Int,l.Pairwise (· < ·)->f∈l->addW f l=l
 | [],_,h=>by cases h
 | x::l,hp,h=>by
  obtain⟨h1,h2⟩:=List.pairwise_cons.1 hp
  rw[addW]
  split
  ·rename_i q
   rcases List.mem_cons.1 h with e | e
   ·omega
   ·have:=h1 f e
    omega
  ·split
   ·rename_i q1 q2
    rw[q2]
   ·rename_i q1 q2
    rcases List.mem_cons.1 h with e | e
    ·exact absurd e q2
    ·rw[addW_in f l h2 e]
theorem addW_out (f:Int): ∀l:List Int,f ∉ l->(addW f l).length =l.length+1
 | [],_=>rfl
 | x::l,h=>by
  rw[addW]
  split
  ·rfl
  ·split
   ·rename_i q1 q2
    exact absurd (by rw[q2];exact List.mem_cons_self) h
   ·rw[List.length_cons,addW_out f l (fun q=>h (List.mem_cons_of_mem _ q))]
    rfl
section
variable {st : LrnV} {K b : Int} {B : BatV} {who : List Int} {p : Int}
theorem Ord.ch (h:Ord st K b B who) (hK:Odd K) {y:SlotV} (hy:at_ st.l 1=some y):y.who=who/\y.chosen=decide (K<2*(who.length:Int)):=by
 rcases h.of with ⟨_,q⟩ | ⟨z,q,_,_,q4⟩
 ·rw[hy] at q;cases q
 ·rw[hy] at q
  cases q
  refine⟨q4,?_⟩
  rw[(h.good.all y (at_mem hy).1).ch,q4,h.n]
  have:=hK.odd
  have:=hK.lo
  unfold quoF
  by_cases c:K<2*(who.length:Int)
  ·rw[decide_eq_true c,decide_eq_true (by omega)]
  ·rw[decide_eq_false c,decide_eq_false (by omega)]
theorem Ord.len (h:Ord st K b B who) (hK:Odd K):(who.length:Int)<=K:=h.rise.len (by have:=hK.lo;omega)
theorem Ord.chosen (h:Ord st K b B who) (hK:Odd K):chosenF st 1=if K<2*(who.length:Int) then (B,true) else (zeroB,false):=by
 unfold chosenF
 rcases h.of with ⟨q1,q⟩ | ⟨z,q,_,q3,q4⟩
 ·rw[q,if_neg (by rw[q1];have:=hK.lo;simp;omega)]
 ·rw[q]
  dsimp only
  rw[(h.ch hK q).2,q3]
  by_cases c:K<2*(who.length:Int)
  ·rw[if_pos c,decide_eq_true c,if_pos rfl]
  ·rw[if_neg c,decide_eq_false c,if_neg Bool.false_ne_true]
theorem Ord.over (h:Ord st K b B who) (hK:Odd K) (p0:0<=p) (p1:p<K) (hb:highF b 0=true) (hq:mayB B=true) (hc:K<2*(who.length:Int)):hearF st p b 1 B=(st,11):=by
 have e:=hear_ok (s:=st) (f:=p) (b:=b) (t:=1) (q:=B) p0 (by rw[h.n];exact p1) hb (by decide) hq
 rcases h.of with ⟨q1,_⟩ | ⟨z,q,_,_,_⟩
 ·rw[q1] at hc
  have:=hK.lo
  simp at hc
  omega
 ·rw[q] at e
  dsimp only at e
  rw[if_pos (.inr (by rw[(h.ch hK q).2];exact decide_eq_true hc))] at e
  exact e
theorem Ord.step (h:Ord st K b B who) (hK:Odd K) (p0:0<=p) (p1:p<K) (hb:highF b 0=true) (hq:mayB B=true) (hc: ¬K<2*(who.length:Int)):(hearF st p b 1 B).2=0/\Ord (hearF st p b 1 B).1 K b B (addW p who):=by
 have hg:=h.good.hear p b 1 B
 have hs:=hear_same st p b 1 B
 have e:=hear_ok (s:=st) (f:=p) (b:=b) (t:=1) (q:=B) p0 (by rw[h.n];exact p1) hb (by decide) hq
 have h1: ¬(1:Int)<=st.done:=by rw[h.d0];decide
 have h2: ¬st.done+9<1:=by rw[h.d0];decide
 have hr:=h.rise.add p p0 p1
 rcases h.of with ⟨w0,hn⟩ | ⟨y,hy,yb,yB,yw⟩
 ·rw[hn] at e
  dsimp only at e
  rw[if_neg h1,if_neg h2] at e
  rw[e] at hg hs ⊢
  refine⟨rfl,hg,hs.2.trans h.n,hs.1.trans h.d0,hr,.inr ⟨nextS st.n ⟨1,b,[],B,false⟩ p b B,?_,?_,?_,?_⟩⟩
  ·show at_ (putS _ st.l) 1= _
   rw[at_putS,if_pos (by rfl)]
  ·unfold nextS
   dsimp only
   rw[if_neg (Int.lt_irrefl _)]
  ·unfold nextS
   dsimp only
   rw[if_neg (Int.lt_irrefl _)]
  ·unfold nextS
   dsimp only
   rw[if_neg (Int.lt_irrefl _),w0]
 ·have hch:=(h.ch hK hy).2
  rw[decide_eq_false hc] at hch
  rw[hy] at e
  dsimp only at e
  rw[if_neg (fun r=>r.elim h1 (fun r=>by rw[hch] at r;cases r)),if_neg h2,if_neg (by omega)] at e
  rw[e] at hg hs ⊢
  refine⟨rfl,hg,hs.2.trans h.n,hs.1.trans h.d0,hr,.inr ⟨nextS st.n y p b B,?_,?_,?_,?_⟩⟩
  ·show at_ (putS _ st.l) 1= _
   rw[at_putS,if_pos (by rw[nextS_slot];exact(at_mem hy).2)]
  ·unfold nextS
   dsimp only
   rw[if_neg (by omega)]
   exact yb
  ·unfold nextS
   dsimp only
   rw[if_neg (by omega)]
   exact yB
  ·unfold nextS
   dsimp only
   rw[if_neg (by omega),yw]
end
def marks (w:List Int):Array Value:=#[.bool (inW w 0),.bool (inW w 1),.bool (inW w 2),.bool (inW w 3),.bool (inW w 4),.bool (inW w 5),.bool (inW w 6)]
theorem marks_get (w:List Int) (p:Nat) (hp:p<7):(marks w)[p]?=some (.bool (inW w p)):=by
 match p,hp with
 | 0,_=>rfl
 | 1,_=>rfl
 | 2,_=>rfl
 | 3,_=>rfl
 | 4,_=>rfl
 | 5,_=>rfl
 | 6,_=>rfl
theorem marks_put (w:List Int) (p:Nat) (hp:p<7):(marks w).setIfInBounds p (.bool true)=marks (addW (p:Int) w):=by
 unfold marks
 simp only[inW_add]
 match p,hp with
 | 0,_=>rfl
 | 1,_=>rfl
 | 2,_=>rfl
 | 3,_=>rfl
 | 4,_=>rfl
 | 5,_=>rfl
 | 6,_=>rfl
theorem marks_nil:marks []=#[.bool false,.bool false,.bool false,.bool false,.bool false,.bool false,.bool false]:=by
 unfold marks
 simp only[inW_nil]
end Ln
end Go.Proofs.Ytbcnednhfmchpaa
