/- Texts laid together by program. -/
import Derived.Test.YtbcnednhfmchpaaQT3
import Derived.Deep.RegionLaw
/- Contract: the document's learner's Hear, where it says no. -/
set_option linter.unusedVariables false
set_option maxRecDepth 8000
set_option linter.unusedSimpArgs false
namespace Go.Proofs.Ytbcnednhfmchpaa
open Lib (hid)
open Go.RowKit
namespace Ln
open Cm

def SaysNo (c:Int) (g m:Nat) (s:LrnV) (w:World) (e:Ending) (w':World):Prop:=e= .returned (.int .i64 c)/\HasL w' g m s/\Below w.heap.size w w'
set_option maxHeartbeats 4000000 in
theorem RefHear_arg (g m:Nat) (s:LrnV) (f b t:Int) (x:BatV) (u:Value) (w:World) (h:HasL w g m s) (hr:RdR w u x.reqs) (hbad:badF s f b t x=true):
  Calls Try.prog 15 #[.pointer (some ⟨g,0,none⟩),.int .i64 f,.int .i64 b,.int .i64 t,batVal x u] w (SaysNo 1 g m s w):=by
 obtain⟨ua,uc,rfl⟩:=hr.form
 have CB:=hid (fun w=>high12_any b 0 w)
 have CS:=hid (fun w=>high12_any t 1 w)
 have hb1:=newAlloc w (.cells #[.bool x.fill,.int .i64 x.view,.int .i64 x.tv,.int .i64 x.ts,.int .i64 x.time,.slice ua x.reqs.length uc] 38)
 have k1:=alloc_atB w (.cells #[.bool x.fill,.int .i64 x.view,.int .i64 x.tv,.int .i64 x.ts,.int .i64 x.time,.slice ua x.reqs.length uc] 38) _ rfl
 obtain⟨W1,hW1⟩: ∃W1,W1=w.alloc (.cells #[.bool x.fill,.int .i64 x.view,.int .i64 x.tv,.int .i64 x.ts,.int .i64 x.time,.slice ua x.reqs.length uc] 38):=⟨_,rfl⟩
 rw[<-hW1] at hb1 k1
 have CM:=hid (RefMayB_any x (.slice ua x.reqs.length uc) W1 (hr.later hb1))
 have HB1:=hid hb1
 have HL1:=hid (h.later hb1)
 have c0:=cell_at k1 0
 have c1:=cell_at k1 1
 have c2:=cell_at k1 2
 have c3:=cell_at k1 3
 have c4:=cell_at k1 4
 have c5:=cell_at k1 5
 simp at c0 c1 c2 c3 c4 c5
 have n0:=HL1.out.c0
 clear hb1 k1 h hr
 unfold batVal at CM ⊢
 unfold badF at hbad
 by_cases h1:f<0
 ·have d1:decide (f<0)=true:=decide_eq_true h1
  clear h1 hbad
  go_enter Try.func15,Try.ntmps15
  go_upto_region 1 with fail
  rw[<-hW1]
  clear hW1
  go_wp2
  go_ret
  exact⟨rfl,HL1.out,HB1.out⟩
 have d1:decide (f<0)=false:=decide_eq_false h1
 by_cases h2:s.n<=f
 ·have d2:decide (s.n<=f)=true:=decide_eq_true h2
  clear h1 h2 hbad
  go_enter Try.func15,Try.ntmps15
  go_upto_region 1 with fail
  rw[<-hW1]
  clear hW1
  go_wp2
  go_ret
  exact⟨rfl,HL1.out,HB1.out⟩
 have d2:decide (s.n<=f)=false:=decide_eq_false h2
 rw[decide_eq_true (show 0<=f by omega),decide_eq_true (show f<s.n by omega)] at hbad
 clear h1 h2
 cases h3:highF b 0
 ·rw[h3] at CB
  clear hbad
  go_enter Try.func15,Try.ntmps15
  go_upto_region 1 with fail
  rw[<-hW1]
  clear hW1
  go_wp2_with fail
  refine(CB.out _).mono ?_
  rintro e w1 ⟨rfl,rfl⟩
  go_wp2
  go_ret
  exact⟨rfl,HL1.out,HB1.out⟩
 rw[h3] at CB
 rw[h3] at hbad
 cases h4:highF t 1
 ·rw[h4] at CS
  clear hbad
  go_enter Try.func15,Try.ntmps15
  go_upto_region 1 with fail
  rw[<-hW1]
  clear hW1
  go_wp2_with fail
  refine(CB.out _).mono ?_
  rintro e w1 ⟨rfl,rfl⟩
  go_wp2_with fail
  refine(CS.out _).mono ?_
  rintro e w1 ⟨rfl,rfl⟩
  go_wp2
  go_ret
  exact⟨rfl,HL1.out,HB1.out⟩
 rw[h4] at CS
 rw[h4] at hbad
 cases h5:mayB x
 ·rw[h5] at CM
  clear hbad
  go_enter Try.func15,Try.ntmps15
  go_upto_region 1 with fail
  rw[<-hW1]
  clear hW1
  go_wp2_with fail
  refine(CB.out _).mono ?_
  rintro e w1 ⟨rfl,rfl⟩
  go_wp2_with fail
  refine(CS.out _).mono ?_
  rintro e w1 ⟨rfl,rfl⟩
  go_wp2_with fail
  refine CM.out.mono ?_
  rintro e W2 ⟨rfl,hb2⟩
  have HB2:=hid hb2
  have HL2:=hid (HL1.out.later hb2)
  clear hb2
  go_wp2
  go_ret
  exact⟨rfl,HL2.out,step HB1.out HB2.out⟩
 rw[h5] at hbad
 cases hbad
set_option maxHeartbeats 4000000 in
theorem RefHear_old (g m:Nat) (s:LrnV) (f b t:Int) (x:BatV) (u:Value) (w:World) (c:Int) (h:HasL w g m s) (hs:GoodN s) (hn9:s.l.length<=1000) (hr:RdR w u x.reqs) (hgood:badF s f b t x=false)
  (hc:t<=s.done/\c=11\/s.done<t/\(∃y,at_ s.l t=some y/\y.chosen=true)/\c=11\/s.done+9<t/\(∀y,at_ s.l t=some y->y.chosen=false)/\c=5):
  Calls Try.prog 15 #[.pointer (some ⟨g,0,none⟩),.int .i64 f,.int .i64 b,.int .i64 t,batVal x u] w (SaysNo c g m s w):=by
 obtain⟨ua,uc,rfl⟩:=hr.form
 unfold badF at hgood
 simp only[Bool.not_eq_false',Bool.and_eq_true,decide_eq_true_eq] at hgood
 obtain⟨⟨⟨⟨f0,f1⟩,hb⟩,ht⟩,hm⟩:=hgood
 have d1:decide (f<0)=false:=decide_eq_false (by omega)
 have d2:decide (s.n<=f)=false:=decide_eq_false (by omega)
 have CB:=hid (fun w=>high12_any b 0 w)
 have CS:=hid (fun w=>high12_any t 1 w)
 rw[hb] at CB
 have htop:t<=2305843009213693952:=by simp [highF] at ht;omega
 have hlow:1<=t:=by simp [highF] at ht;omega
 rw[ht] at CS
 have hb1:=newAlloc w (.cells #[.bool x.fill,.int .i64 x.view,.int .i64 x.tv,.int .i64 x.ts,.int .i64 x.time,.slice ua x.reqs.length uc] 38)
 have k1:=alloc_atB w (.cells #[.bool x.fill,.int .i64 x.view,.int .i64 x.tv,.int .i64 x.ts,.int .i64 x.time,.slice ua x.reqs.length uc] 38) _ rfl
 obtain⟨W1,hW1⟩: ∃W1,W1=w.alloc (.cells #[.bool x.fill,.int .i64 x.view,.int .i64 x.tv,.int .i64 x.ts,.int .i64 x.time,.slice ua x.reqs.length uc] 38):=⟨_,rfl⟩
 rw[<-hW1] at hb1 k1
 have CM:=hid (RefMayB_any x (.slice ua x.reqs.length uc) W1 (hr.later hb1))
 rw[hm] at CM
 have HB1:=hid hb1
 have HL1:=hid (h.later hb1)
 have HN9:=hid hn9
 have hd0:=hs.d0
 have hd1:=hs.d1
 have e9:IntKind.i64.wrap (t - s.done)=t - s.done:=by rw[IntKind.wrap_i64];omega
 have c0:=cell_at k1 0
 have c1:=cell_at k1 1
 have c2:=cell_at k1 2
 have c3:=cell_at k1 3
 have c4:=cell_at k1 4
 have c5:=cell_at k1 5
 simp at c0 c1 c2 c3 c4 c5
 have n0:=HL1.out.c0
 clear hb1 k1 h hr hb ht hm f0 f1 hs
 unfold batVal at CM ⊢
 rcases hc with ⟨h1,rfl⟩ | ⟨h0,⟨y,hy,hyc⟩,rfl⟩ | ⟨h1,hy,rfl⟩
 ·have d5:decide (t<=s.done)=true:=decide_eq_true h1
  clear h1 hd0 hd1 hlow htop
  go_enter Try.func15,Try.ntmps15
  go_upto_region 1 with fail
  rw[<-hW1]
  clear hW1
  go_wp2_with fail
  refine(CB.out _).mono ?_
  rintro e w1 ⟨rfl,rfl⟩
  go_wp2_with fail
  refine(CS.out _).mono ?_
  rintro e w1 ⟨rfl,rfl⟩
  go_wp2_with fail
  refine CM.out.mono ?_
  rintro e W2 ⟨rfl,hb2⟩
  have HB2:=hid hb2
  have HL2:=hid (HL1.out.later hb2)
  clear hb2
  have CA:=hid (At_any g m s t W2 HL2.out HN9.out)
  have a1:=HL2.out.c1
  have af:=HL2.out.open_ 0
  go_wp2_with fail
  refine CA.out.mono ?_
  rintro e wz ⟨rfl,hwz⟩
  rw[hwz]
  clear hwz wz
  go_wp2
  go_ret
  exact⟨rfl,HL2.out,step HB1.out HB2.out⟩
 ·have d5:decide (t<=s.done)=false:=decide_eq_false (by omega)
  clear h0 hd0 hd1 hlow htop
  rcases idx_at s.l t with ⟨i1,i2⟩ | ⟨k,hk,i1,i2⟩
  ·rw[i2] at hy
   cases hy
  rw[i2] at hy
  cases hy
  clear i2
  go_enter Try.func15,Try.ntmps15
  go_upto_region 1 with fail
  rw[<-hW1]
  clear hW1
  go_wp2_with fail
  refine(CB.out _).mono ?_
  rintro e w1 ⟨rfl,rfl⟩
  go_wp2_with fail
  refine(CS.out _).mono ?_
  rintro e w1 ⟨rfl,rfl⟩
  go_wp2_with fail
  refine CM.out.mono ?_
  rintro e W2 ⟨rfl,hb2⟩
  have HB2:=hid hb2
  have HL2:=hid (HL1.out.later hb2)
  clear hb2
  have CA:=hid (At_any g m s t W2 HL2.out HN9.out)
  have a1:=HL2.out.c1
  have af:=HL2.out.open_ 0
  rw[i1] at CA
  go_wp2_with fail
  refine CA.out.mono ?_
  rintro e wz ⟨rfl,hwz⟩
  rw[hwz]
  clear hwz wz
  obtain⟨bb,oo,lc,z,hz, -,hcz⟩:=HL2.out.slot k hk
  obtain⟨l2,hcz⟩:=hcz W2 (Below.refl _ _)
  have q9:W2.cell? ⟨bb,oo+k*10+9,none⟩=some (.bool true):=by
   have:=hcz 9 (by omega)
   rw[this,<-hyc,<-hz]
   rfl
  have n1:(k:Int)<(s.l.length:Int):=by omega
  have n2:(0:Int)<=(k:Int):=by omega
  clear hcz hz hyc
  generalize s.l.length=n at*
  go_wp2
  go_ret
  exact⟨rfl,HL2.out,step HB1.out HB2.out⟩
 ·have d5:decide (t<=s.done)=false:=decide_eq_false (by omega)
  have d6:decide (9<t - s.done)=true:=decide_eq_true (by omega)
  clear h1 hd0 hd1 hlow htop
  rcases idx_at s.l t with ⟨i1,i2⟩ | ⟨k,hk,i1,i2⟩
  ·clear i2 hy
   go_enter Try.func15,Try.ntmps15
   go_upto_region 1 with fail
   rw[<-hW1]
   clear hW1
   go_wp2_with fail
   refine(CB.out _).mono ?_
   rintro e w1 ⟨rfl,rfl⟩
   go_wp2_with fail
   refine(CS.out _).mono ?_
   rintro e w1 ⟨rfl,rfl⟩
   go_wp2_with fail
   refine CM.out.mono ?_
   rintro e W2 ⟨rfl,hb2⟩
   have HB2:=hid hb2
   have HL2:=hid (HL1.out.later hb2)
   clear hb2
   have CA:=hid (At_any g m s t W2 HL2.out HN9.out)
   have a1:=HL2.out.c1
   have af:=HL2.out.open_ 0
   rw[i1] at CA
   go_wp2_with fail
   refine CA.out.mono ?_
   rintro e wz ⟨rfl,hwz⟩
   rw[hwz]
   clear hwz wz
   go_wp2
   go_ret
   exact⟨rfl,HL2.out,step HB1.out HB2.out⟩
  ·have hyc:=hy _ i2
   clear i2 hy
   go_enter Try.func15,Try.ntmps15
   go_upto_region 1 with fail
   rw[<-hW1]
   clear hW1
   go_wp2_with fail
   refine(CB.out _).mono ?_
   rintro e w1 ⟨rfl,rfl⟩
   go_wp2_with fail
   refine(CS.out _).mono ?_
   rintro e w1 ⟨rfl,rfl⟩
   go_wp2_with fail
   refine CM.out.mono ?_
   rintro e W2 ⟨rfl,hb2⟩
   have HB2:=hid hb2
   have HL2:=hid (HL1.out.later hb2)
   clear hb2
   have CA:=hid (At_any g m s t W2 HL2.out HN9.out)
   have a1:=HL2.out.c1
   have af:=HL2.out.open_ 0
   rw[i1] at CA
   go_wp2_with fail
   refine CA.out.mono ?_
   rintro e wz ⟨rfl,hwz⟩
   rw[hwz]
   clear hwz wz
   obtain⟨bb,oo,lc,z,hz, -,hcz⟩:=HL2.out.slot k hk
   obtain⟨l2,hcz⟩:=hcz W2 (Below.refl _ _)
   have q9:W2.cell? ⟨bb,oo+k*10+9,none⟩=some (.bool false):=by
    have:=hcz 9 (by omega)
    rw[this,<-hyc,<-hz]
    rfl
   have n1:(k:Int)<(s.l.length:Int):=by omega
   have n2:(0:Int)<=(k:Int):=by omega
   clear hcz hz hyc
   generalize s.l.length=n at*
   go_wp2
   go_ret
   exact⟨rfl,HL2.out,step HB1.out HB2.out⟩
end Ln
end Go.Proofs.Ytbcnednhfmchpaa

/- A slot of the document's learner written over in its row. -/
set_option linter.unusedVariables false
set_option maxRecDepth 8000
set_option linter.unusedSimpArgs false
namespace Go.Proofs.Ytbcnednhfmchpaa
open Lib (hid)
open Go.RowKit
namespace Ln
open Cm

theorem own_setAt {w:World} {base g n cap sz:Nat} {e:TypeId} {xs:List Value} (h:w.ownsRow base e sz (.slice (some ⟨g,0,none⟩) n cap) n xs) (i:Nat) (hi:i<n*sz) (u:Value):(w.setCell ⟨g,i,none⟩ u).ownsRow base e sz (.slice (some ⟨g,0,none⟩) n cap) n (xs.set i u):=by
 obtain⟨h1,h2⟩:=h
 refine⟨by rw[List.length_set];exact h1,?_⟩
 rcases h2 with ⟨q,_⟩ | ⟨g',cap',cur,q,hb,hg,hc,hm,hs,ht⟩
 ·cases q
 ·cases q
  refine .inr ⟨g,cap,cur.setIfInBounds i u,rfl,hb,set_atB hg i u,hc,hm,by simpa using hs,?_⟩
  rw[Array.toList_setIfInBounds,List.take_set,ht]
theorem flat10 (M:List SlotC) (p:Nat) (hp:p<M.length) (y:SlotC) (a b c d e f g h i j:Value) (hy:cellsS y= [a,b,c,d,e,f,g,h,i,j]):
  ((((((((((flatX cellsS M).set (p*10) a).set (p*10+1) b).set (p*10+2) c).set (p*10+3) d).set (p*10+4) e).set (p*10+5) f).set (p*10+6) g).set (p*10+7) h).set (p*10+8) i).set (p*10+9) j=flatX cellsS (M.set p y):=by
 have e1:flatX cellsS M=flatX cellsS (M.take p)++(cellsS M[p]++flatX cellsS (M.drop (p+1))):=by
  rw[<-flatX_cons,<-flatX_append,<-List.drop_eq_getElem_cons hp,List.take_append_drop]
 have e2:flatX cellsS (M.set p y)=flatX cellsS (M.take p)++(cellsS y++flatX cellsS (M.drop (p+1))):=by
  rw[<-flatX_cons,<-flatX_append,List.set_eq_take_append_cons_drop,if_pos hp]
 have hl:(flatX cellsS (M.take p)).length =p*10:=by rw[flatX_length cellsS_length,List.length_take];congr 1;omega
 rw[e1,e2,hy]
 generalize flatX cellsS (M.take p)=A at hl
 generalize flatX cellsS (M.drop (p+1))=C
 have key: ∀(B:List Value) (k:Nat) (u:Value),k<B.length->(A++B).set (p*10+k) u=A++B.set k u:=fun B k u hk=>by rw[<-hl];exact set_at A B k u hk
 have key0: ∀(B:List Value) (u:Value),0<B.length->(A++B).set (p*10) u=A++B.set 0 u:=fun B u hk=>key B 0 u hk
 unfold cellsS
 rw[key0 _ _ (by simp),key _ _ _ (by simp),key _ _ _ (by simp),key _ _ _ (by simp),key _ _ _ (by simp),key _ _ _ (by simp),key _ _ _ (by simp),key _ _ _ (by simp),key _ _ _ (by simp),key _ _ _ (by simp)]
 rfl
def set10 (w:World) (g o:Nat) (y:SlotC):World:=(((((((((w.setCell ⟨g,o,none⟩ (.int .i64 y.slot)).setCell ⟨g,o+1,none⟩ (.int .i64 y.ballot)).setCell ⟨g,o+2,none⟩ y.wv).setCell ⟨g,o+3,none⟩ (.bool y.bat.fill)).setCell ⟨g,o+4,none⟩ (.int .i64 y.bat.view)).setCell ⟨g,o+5,none⟩ (.int .i64 y.bat.tv)).setCell ⟨g,o+6,none⟩ (.int .i64 y.bat.ts)).setCell ⟨g,o+7,none⟩ (.int .i64 y.bat.time)).setCell ⟨g,o+8,none⟩ y.uv).setCell ⟨g,o+9,none⟩ (.bool y.chosen)
theorem set10_own {w:World} {base g cap:Nat} {M:List SlotC} (h:w.ownsRow base 66 10 (.slice (some ⟨g,0,none⟩) M.length cap) M.length (flatX cellsS M)) (p:Nat) (hp:p<M.length) (y:SlotC):
  (set10 w g (p*10) y).ownsRow base 66 10 (.slice (some ⟨g,0,none⟩) M.length cap) M.length (flatX cellsS (M.set p y)):=by
 rw[<-flat10 M p hp y _ _ _ _ _ _ _ _ _ _ rfl]
 unfold set10
 exact own_setAt (own_setAt (own_setAt (own_setAt (own_setAt (own_setAt (own_setAt (own_setAt (own_setAt (own_setAt h _ (by omega) _) _ (by omega) _) _ (by omega) _) _ (by omega) _) _ (by omega) _) _ (by omega) _) _ (by omega) _) _ (by omega) _) _ (by omega) _) _ (by omega) _
theorem set10_grown (w:World) (g o:Nat) (y:SlotC):w.grownBy (set10 w g o y) (some g):=
 (((((((((grown_setL w g _ _).trans (grown_setL _ g _ _)).trans (grown_setL _ g _ _)).trans (grown_setL _ g _ _)).trans (grown_setL _ g _ _)).trans (grown_setL _ g _ _)).trans (grown_setL _ g _ _)).trans (grown_setL _ g _ _)).trans (grown_setL _ g _ _)).trans (grown_setL _ g _ _)
theorem OwnX.row {base m n:Nat} {w w':World} {v:Value} {xs:List Value} {x:SlotC} (h:OwnX m w x) (ho:w.ownsRow base 66 10 v n xs) (hg:w.grownBy w' v.ownBlock):OwnX m w' x:=
 ⟨Rw.own_other h.1 hg (own_typesD ho h.1 (by decide)),Rw.own_other h.2 hg (own_typesD ho h.2 (by decide))⟩
end Ln
end Go.Proofs.Ytbcnednhfmchpaa

/- What the document's learner's Hear leaves as it was; a slot of it in a box. -/
set_option linter.unusedVariables false
set_option maxRecDepth 8000
set_option linter.unusedSimpArgs false
namespace Go.Proofs.Ytbcnednhfmchpaa
open Lib (hid)
open Go.RowKit
namespace Ln
open Cm

structure Turns (g m:Nat) (w w':World):Prop where
 os:w'.os=w.os
 tape:w'.tape=w.tape
 output:w'.output=w.output
 size:w.heap.size<=w'.heap.size
 block: ∀k,k<w.heap.size->k≠g->(k<m\/ ∀cs,w.heap[k]?≠some (.cells cs 66))->w'.heap[k]?=w.heap[k]?
section
variable {g m : Nat} {w w' w'' : World}
theorem Turns.refl (g m:Nat) (w:World):Turns g m w w:=⟨rfl,rfl,rfl,Nat.le_refl _,fun _ _ _ _=>rfl⟩
theorem Turns.below (h:Turns g m w w') (hb:Below w'.heap.size w' w''):Turns g m w w'':=
 ⟨hb.os.trans h.os,hb.tape.trans h.tape,hb.output.trans h.output,Nat.le_trans h.size hb.size,fun k hk h1 h2=>(hb.block k (Nat.lt_of_lt_of_le hk h.size)).trans (h.block k hk h1 h2)⟩
theorem Turns.grow (h:Turns g m w w') {r:Nat} (hg:w'.grownBy w'' (some r)) (hr:r=g\/w.heap.size<=r\/m<=r/\ ∃cs,w'.heap[r]?=some (.cells cs 66)):Turns g m w w'':=by
 refine⟨hg.os.trans h.os,hg.tape.trans h.tape,hg.output.trans h.output,Nat.le_trans h.size hg.size,fun k hk h1 h2=>?_⟩
 rw[hg.block k (Nat.lt_of_lt_of_le hk h.size) (fun q=>?_),h.block k hk h1 h2]
 cases q
 rcases hr with e | e | ⟨e,cs,hc⟩
 ·exact h1 e
 ·omega
 ·rcases h2 with q | q
  ·omega
  ·have:=h.block r hk h1 (.inr q)
   rw[hc] at this
   exact q cs this.symm
theorem Turns.row (h:Turns g m w w') {v:Value} {n:Nat} {xs:List Value} (ho:w'.ownsRow m 66 10 v n xs) (hg:w'.grownBy w'' v.ownBlock):Turns g m w w'':=by
 rcases ho.2 with ⟨rfl,_⟩ | ⟨lb,cap,cur,rfl,hb,hc,_⟩
 ·refine h.below ?_
  exact⟨hg.os,hg.tape,hg.output,hg.size,fun k hk=>hg.block k hk (fun q=>by cases q)⟩
 ·exact h.grow (r:=lb) hg (.inr (.inr ⟨hb,cur,hc⟩))
end
theorem own_blk {w:World} {base sz n:Nat} {e:TypeId} {v:Value} {xs:List Value} (h:w.ownsRow base e sz v n xs) (hn:0<n): ∃lb lc,v= .slice (some ⟨lb,0,none⟩) n lc/\base<=lb/\lb<w.heap.size/\ ∃cs,w.heap[lb]?=some (.cells cs e):=by
 rcases h.2 with ⟨_,q⟩ | ⟨lb,cap,cur,rfl,hb,hc,_⟩
 ·omega
 ·exact⟨lb,cap,rfl,hb,get_ltB hc,cur,hc⟩
theorem rowset_own {w w':World} {base g n:Nat} {e:TypeId} {sz:Nat} {v:Value} {xs:List Value} (h:w.ownsRow base e sz v n xs) (hg:w.grownBy w' (some g)) (hne:v.ownBlock≠some g):w'.ownsRow base e sz v n xs:=
 Rw.own_keep h fun k hk=>hg.block k (Rw.own_lt h k hk).2 (fun q=>hne (by rw[hk];exact q))
theorem OwnX.far {m g:Nat} {w w':World} {x:SlotC} (h:OwnX m w x) (hg:w.grownBy w' (some g)) (h1:w.heap[g]?.map (fun o=>match o with | .cells _ t=>decide (t=66) | _=>false)=some true):OwnX m w' x:=by
 have key: ∀ {e:TypeId} {sz n:Nat} {v:Value} {xs:List Value},w.ownsRow m e sz v n xs->e≠66->v.ownBlock≠some g:=fun {e sz n v xs} ho hne q=>by
  rcases ho.2 with ⟨rfl,_⟩ | ⟨lb,cap,cur,rfl,hb,hc,_⟩
  ·cases q
  ·cases q
   rw[hc] at h1
   simp at h1
   exact hne h1
 exact⟨rowset_own h.1 hg (key h.1 (by decide)),rowset_own h.2 hg (key h.2 (by decide))⟩
end Ln
end Go.Proofs.Ytbcnednhfmchpaa
