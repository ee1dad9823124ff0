/- Texts laid together by program. -/
import Derived.Test.YtmodbbmdkealdaaV8
/- Contract of package accept: Accept. -/
set_option linter.unusedVariables false
set_option maxRecDepth 8000
set_option linter.unusedSimpArgs false
namespace Go.Proofs.Ytmodbbmdkealdaa
open Lib (hid)
open List (getElem_toArray getElem_cons_succ getElem_cons_zero setIfInBounds_toArray set_cons_zero set_cons_succ)
open Go.RowKit
namespace Ac
open Cm

theorem _root_.Go.Proofs.Ytmodbbmdkealdaa.RdX.but {α:Type} {sz:Nat} {f:α->List Value} {w w':World} {v:Value} {l:List α} {row:Option Nat} (h:RdX sz f w v l) (hg:w.grownBy w' row) (hne: ∀b,v.ownBlock=some b->l≠ []->row≠some b):RdX sz f w' v l:=by
 obtain⟨a,cap,hv,h1,h2,h3,h4⟩:=h.ex
 refine⟨a,cap,hv,h1,h2,h3,fun x hx hp=>?_⟩
 obtain⟨hs,hc⟩:=h4 x hx hp
 refine⟨hs,fun i hi k u hu=>?_⟩
 have c:=hc i hi k u hu
 exact hg.cell c (fun q=>hne x.block (by rw[hv,hx];rfl) hp q.symm)
theorem gr_below {a w w':World} {row:Option Nat} (h:a.grownBy w row) (hb:Below w.heap.size w w'):a.grownBy w' row:=
 h.trans ⟨hb.os,hb.tape,hb.output,hb.size,fun i hi _=>hb.block i hi⟩
theorem gr_new {w w':World} (row:Option Nat) (hb:Below w.heap.size w w'):w.grownBy w' row:=gr_below (World.grownBy.refl _ _) hb
theorem flat8 (M:List VoteC) (p:Nat) (hp:p<M.length) (y:VoteC) (a b c d e f g h:Value) (hy:cellsV y= [a,b,c,d,e,f,g,h]):
  ((((((((flatX cellsV M).set (p*8+0) a).set (p*8+1) b).set (p*8+2) c).set (p*8+3) d).set (p*8+4) e).set (p*8+5) f).set (p*8+6) g).set (p*8+7) h=flatX cellsV (M.set p y):=by
 have e1:flatX cellsV M=flatX cellsV (M.take p)++(cellsV M[p]++flatX cellsV (M.drop (p+1))):=by
  rw[<-flatX_cons,<-flatX_append,<-List.drop_eq_getElem_cons hp,List.take_append_drop]
 have e2:flatX cellsV (M.set p y)=flatX cellsV (M.take p)++(cellsV y++flatX cellsV (M.drop (p+1))):=by
  rw[<-flatX_cons,<-flatX_append,List.set_eq_take_append_cons_drop,if_pos hp]
 have hl:(flatX cellsV (M.take p)).length =p*8:=by rw[flatX_length cellsV_length,List.length_take];congr 1;omega
 rw[e1,e2,hy]
 generalize flatX cellsV (M.take p)=A at hl
 generalize flatX cellsV (M.drop (p+1))=C
 have key: ∀(B:List Value) (k:Nat) (u:Value),k<B.length->(A++B).set (p*8+k) u=A++B.set k u:=fun B k u hk=>by rw[<-hl];exact set_at A B k u hk
 unfold cellsV
 rw[key _ _ _ (by simp),key _ _ _ (by simp),key _ _ _ (by simp),key _ _ _ (by simp),key _ _ _ (by simp),key _ _ _ (by simp),key _ _ _ (by simp),key _ _ _ (by simp)]
 rfl
theorem accCells_put (b d:Int) (M:List VoteC) (p:Nat) (hp:p<M.length) (y:VoteC) (v0 v1 v2 v3 v4 v5 v6 v7:Value) (hy:cellsV y= [v0,v1,v2,v3,v4,v5,v6,v7]):
  ((((((((accCells b d M).setIfInBounds (2+p*8) v0).setIfInBounds (2+p*8+1) v1).setIfInBounds (2+p*8+2) v2).setIfInBounds (2+p*8+3) v3).setIfInBounds (2+p*8+4) v4).setIfInBounds (2+p*8+5) v5).setIfInBounds (2+p*8+6) v6).setIfInBounds (2+p*8+7) v7=accCells b d (M.set p y):=by
 unfold accCells
 rw[<-flat8 M p hp y v0 v1 v2 v3 v4 v5 v6 v7 hy]
 simp only[setIfInBounds_toArray]
 congr 1
 have key: ∀(l:List Value) (k:Nat) (u:Value),(Value.int .i64 b::Value.int .i64 d::l).set (2+p*8+k) u=Value.int .i64 b::Value.int .i64 d::l.set (p*8+k) u:=fun l k u=>by
  rw[show 2+p*8+k=(p*8+k)+1+1 by omega,set_cons_succ,set_cons_succ]
 have key0: ∀(l:List Value) (u:Value),(Value.int .i64 b::Value.int .i64 d::l).set (2+p*8) u=Value.int .i64 b::Value.int .i64 d::l.set (p*8+0) u:=fun l u=>key l 0 u
 rw[key0,key,key,key,key,key,key,key]
def set8 (w:World) (g o:Nat) (y:VoteC):World:=(((((((w.setCell ⟨g,o,none⟩ (.int .i64 y.slot)).setCell ⟨g,o+1,none⟩ (.int .i64 y.ballot)).setCell ⟨g,o+2,none⟩ (.bool y.bat.fill)).setCell ⟨g,o+3,none⟩ (.int .i64 y.bat.view)).setCell ⟨g,o+4,none⟩ (.int .i64 y.bat.tv)).setCell ⟨g,o+5,none⟩ (.int .i64 y.bat.ts)).setCell ⟨g,o+6,none⟩ (.int .i64 y.bat.time)).setCell ⟨g,o+7,none⟩ y.u
theorem set8_at {w:World} {g:Nat} {b d:Int} {M:List VoteC} {t:TypeId} (h:w.heap[g]?=some (.cells (accCells b d M) t)) (p:Nat) (hp:p<M.length) (y:VoteC):(set8 w g (2+p*8) y).heap[g]?=some (.cells (accCells b d (M.set p y)) t):=by
 unfold set8
 rw[set_atB (set_atB (set_atB (set_atB (set_atB (set_atB (set_atB (set_atB h _ _) _ _) _ _) _ _) _ _) _ _) _ _) _ _,accCells_put b d M p hp y _ _ _ _ _ _ _ _ rfl]
theorem set8_grown (w:World) (g o:Nat) (y:VoteC):w.grownBy (set8 w g o y) (some g):=
 (((((((grown_setA w g _ _).trans (grown_setA _ g _ _)).trans (grown_setA _ g _ _)).trans (grown_setA _ g _ _)).trans (grown_setA _ g _ _)).trans (grown_setA _ g _ _)).trans (grown_setA _ g _ _)).trans (grown_setA _ g _ _)
theorem HasA.put {w:World} {g m:Nat} {s:AccV} (h:HasA w g m s) (hs:GoodL s.done s.votes) (y:VoteC) (hy:OwnR m w y) (h1:s.done<y.slot) (h2:y.slot<=s.done+9) (p:Nat) (hp:y.slot % 9=(p:Int)):HasA (set8 w g (2+p*8) y) g m ⟨s.ballot,s.done,putV y.val s.votes⟩:=by
 obtain⟨M,h3,h4,h5⟩:=h.ex
 have hl:M.length=9:=by rw[<-valsV_length,h4,places_length]
 refine⟨⟨M.set p y,set8_at h3 p (by omega) y,?_,fun x hx=>?_⟩,h.gm,Nat.le_trans h.mw (set8_grown w g _ y).size⟩
 ·rw[valsV_set,h4]
  exact(places_put hs y.val h1 h2 p hp).symm
 ·rcases List.mem_or_eq_of_mem_set hx with q | q
  ·exact(h5 x q).keep (set8_grown w g _ y) h.gm
  ·rw[q];exact hy.keep (set8_grown w g _ y) h.gm
theorem mayB_len {x:BatV} (h:mayB x=true):x.reqs.length<=3:=by
 unfold mayB at h
 split at h
 ·simp only[Bool.and_eq_true,decide_eq_true_eq] at h
  omega
 ·unfold reqsF at h
  simp only[Bool.and_eq_true,decide_eq_true_eq] at h
  omega
set_option maxHeartbeats 4000000 in
theorem Accept_gen (g m:Nat) (s:AccV) (b t:Int) (x:BatV) (u:Value) (w:World) (h:HasA w g m s) (hs:Good s) (hr:RdR w u x.reqs) (hu:x.reqs≠ []->u.ownBlock≠some g):
  Calls Try.prog 14 #[.pointer (some ⟨g,0,none⟩),.int .i64 b,.int .i64 t,batVal x u] w (DidA g m (accF s b t x) w):=by
 obtain⟨ua,uc,rfl⟩:=hr.form
 have CB:=hid (fun w=>isBallot_any b w)
 have CS:=hid (fun w=>isSlot_any t w)
 have hb1:=newAlloc w (.cells #[.bool x.fill,.int .i64 x.view,.int .i64 x.tv,.int .i64 x.ts,.int .i64 x.time,.slice ua x.reqs.length uc] 27)
 have k1:=alloc_atB w (.cells #[.bool x.fill,.int .i64 x.view,.int .i64 x.tv,.int .i64 x.ts,.int .i64 x.time,.slice ua x.reqs.length uc] 27) _ rfl
 obtain⟨W1,hW1⟩: ∃W1,W1=w.alloc (.cells #[.bool x.fill,.int .i64 x.view,.int .i64 x.tv,.int .i64 x.ts,.int .i64 x.time,.slice ua x.reqs.length uc] 27):=⟨_,rfl⟩
 rw[<-hW1] at hb1 k1
 have CM:=hid (MayB_any x (.slice ua x.reqs.length uc) W1 (hr.later hb1))
 have HB1:=hid hb1
 have HK1:=hid k1
 have HA1:=hid (h.later hb1)
 have HR1:=hid (hr.later hb1)
 have HU:=hid hu
 have HG:=hid hs
 have hgl:=h.lt
 clear hb1 k1 h hr hu hs
 have c0:=cell_at HK1.out 0
 have c1:=cell_at HK1.out 1
 have c2:=cell_at HK1.out 2
 have c3:=cell_at HK1.out 3
 have c4:=cell_at HK1.out 4
 have c5:=cell_at HK1.out 5
 simp at c0 c1 c2 c3 c4 c5
 unfold batVal at CM ⊢
 rcases hE:accF s b t x with ⟨s',cd⟩
 unfold accF at hE
 by_cases h1:highF b 0=false
 ·rw[if_pos (by rw[h1];rfl)] at hE
  rw[h1] at CB
  cases hE
  clear h1
  go_enter Try.func14,Try.ntmps14
  go_upto_region 1 with fail
  rw[<-hW1]
  clear hW1
  go_wp2_with (go_at_call 24;refine(CB.out _).mono ?_;rintro e w1 ⟨rfl,rfl⟩)
  go_ret
  exact⟨rfl,HA1.out,gr_new _ HB1.out⟩
 rw[Bool.not_eq_false] at h1
 rw[h1] at CB
 by_cases h2:highF t 1=false
 ·rw[if_pos (by rw[h1,h2];rfl)] at hE
  rw[h2] at CS
  cases hE
  clear h1 h2
  go_enter Try.func14,Try.ntmps14
  go_upto_region 1 with fail
  rw[<-hW1]
  clear hW1
  go_wp2_with (first
   | (go_at_call 24;refine(CB.out _).mono ?_;rintro e w1 ⟨rfl,rfl⟩)
   | (go_at_call 26;refine(CS.out _).mono ?_;rintro e w1 ⟨rfl,rfl⟩))
  go_ret
  exact⟨rfl,HA1.out,gr_new _ HB1.out⟩
 rw[Bool.not_eq_false] at h2
 rw[h2] at CS
 by_cases h3:mayB x=false
 ·rw[if_pos (by rw[h1,h2,h3];rfl)] at hE
  rw[h3] at CM
  cases hE
  clear h1 h2 h3
  go_enter Try.func14,Try.ntmps14
  go_upto_region 1 with fail
  rw[<-hW1]
  clear hW1
  go_wp2_with (first
   | (go_at_call 24;refine(CB.out _).mono ?_;rintro e w1 ⟨rfl,rfl⟩)
   | (go_at_call 26;refine(CS.out _).mono ?_;rintro e w1 ⟨rfl,rfl⟩)
   | (go_at_call 27;refine CM.out.mono ?_;rintro e w2 ⟨rfl,hb2⟩;have HB2:=hid hb2))
  go_ret
  exact⟨rfl,HA1.out.later HB2.out,gr_new _ (step HB1.out HB2.out)⟩
 rw[Bool.not_eq_false] at h3
 rw[h3] at CM
 rw[if_neg (by rw[h1,h2,h3];decide)] at hE
 have HM:=hid h3
 have HT:=hid h2
 clear h1 h2 h3
 clear c0 c1 c2 c3 c4 c5
 by_cases h4:b<s.ballot
 ·rw[if_pos (.inl h4)] at hE
  cases hE
  have d4:decide (b<s.ballot)=true:=decide_eq_true h4
  clear h4
  have c0:=cell_at HK1.out 0
  have c1:=cell_at HK1.out 1
  have c2:=cell_at HK1.out 2
  have c3:=cell_at HK1.out 3
  have c4:=cell_at HK1.out 4
  have c5:=cell_at HK1.out 5
  simp at c0 c1 c2 c3 c4 c5
  go_enter Try.func14,Try.ntmps14
  go_upto_region 1 with fail
  rw[<-hW1]
  clear hW1
  go_wp2_with (first
   | (go_at_call 24;refine(CB.out _).mono ?_;rintro e w1 ⟨rfl,rfl⟩)
   | (go_at_call 26;refine(CS.out _).mono ?_;rintro e w1 ⟨rfl,rfl⟩)
   | (go_at_call 27;refine CM.out.mono ?_;rintro e w2 ⟨rfl,hb2⟩;have HB2:=hid hb2;have a0:=(HA1.out.later HB2.out).c0;have a1:=(HA1.out.later HB2.out).c1;have af:=(HA1.out.later HB2.out).open_ 0;clear hb2))
  go_ret
  exact⟨rfl,HA1.out.later HB2.out,gr_new _ (step HB1.out HB2.out)⟩
 have d4:decide (b<s.ballot)=false:=decide_eq_false h4
 by_cases h5:t<=s.done
 ·rw[if_pos (.inr h5)] at hE
  cases hE
  have d5:decide (t<=s.done)=true:=decide_eq_true h5
  clear h4 h5
  have c0:=cell_at HK1.out 0
  have c1:=cell_at HK1.out 1
  have c2:=cell_at HK1.out 2
  have c3:=cell_at HK1.out 3
  have c4:=cell_at HK1.out 4
  have c5:=cell_at HK1.out 5
  simp at c0 c1 c2 c3 c4 c5
  go_enter Try.func14,Try.ntmps14
  go_upto_region 1 with fail
  rw[<-hW1]
  clear hW1
  go_wp2_with (first
   | (go_at_call 24;refine(CB.out _).mono ?_;rintro e w1 ⟨rfl,rfl⟩)
   | (go_at_call 26;refine(CS.out _).mono ?_;rintro e w1 ⟨rfl,rfl⟩)
   | (go_at_call 27;refine CM.out.mono ?_;rintro e w2 ⟨rfl,hb2⟩;have HB2:=hid hb2;have a0:=(HA1.out.later HB2.out).c0;have a1:=(HA1.out.later HB2.out).c1;have af:=(HA1.out.later HB2.out).open_ 0;clear hb2))
  go_ret
  exact⟨rfl,HA1.out.later HB2.out,gr_new _ (step HB1.out HB2.out)⟩
 have d5:decide (t<=s.done)=false:=decide_eq_false h5
 rw[if_neg (by omega)] at hE
 have e9:IntKind.i64.wrap (s.done+9)=s.done+9:=by
  have:=HG.out.d0
  have:=HG.out.d1
  rw[IntKind.wrap_i64]
  omega
 by_cases h6:s.done+9<t
 ·rw[if_pos h6] at hE
  cases hE
  have d6:decide (s.done+9<t)=true:=decide_eq_true h6
  clear h4 h5 h6
  have c0:=cell_at HK1.out 0
  have c1:=cell_at HK1.out 1
  have c2:=cell_at HK1.out 2
  have c3:=cell_at HK1.out 3
  have c4:=cell_at HK1.out 4
  have c5:=cell_at HK1.out 5
  simp at c0 c1 c2 c3 c4 c5
  go_enter Try.func14,Try.ntmps14
  go_upto_region 1 with fail
  rw[<-hW1]
  clear hW1
  go_wp2_with (first
   | (go_at_call 24;refine(CB.out _).mono ?_;rintro e w1 ⟨rfl,rfl⟩)
   | (go_at_call 26;refine(CS.out _).mono ?_;rintro e w1 ⟨rfl,rfl⟩)
   | (go_at_call 27;refine CM.out.mono ?_;rintro e w2 ⟨rfl,hb2⟩;have HB2:=hid hb2;have a0:=(HA1.out.later HB2.out).c0;have a1:=(HA1.out.later HB2.out).c1;have af:=(HA1.out.later HB2.out).open_ 0;clear hb2))
  go_ret
  exact⟨rfl,HA1.out.later HB2.out,gr_new _ (step HB1.out HB2.out)⟩
 rw[if_neg h6] at hE
 have d6:decide (s.done+9<t)=false:=decide_eq_false h6
 cases hE
 have HT1:=hid (show s.done<t by omega)
 have HT2:=hid (show t<=s.done+9 by omega)
 have hp0:=HG.out.d0
 obtain⟨p,hp⟩: ∃p:Nat,t % 9=(p:Int):=⟨(t % 9).toNat,by omega⟩
 have hp9:p<9:=by omega
 have ht9:t.tmod 9=(p:Int):=by rw[Int.tmod_eq_emod_of_nonneg (by omega)];exact hp
 have q0:(0:Int)<=(p:Int):=by omega
 have q9:(p:Int)<9:=by omega
 have HP:=hid hp
 clear h4 h5 h6 hp0 hp
 have c0:=cell_at HK1.out 0
 have c1:=cell_at HK1.out 1
 have c2:=cell_at HK1.out 2
 have c3:=cell_at HK1.out 3
 have c4:=cell_at HK1.out 4
 have c5:=cell_at HK1.out 5
 simp at c0 c1 c2 c3 c4 c5
 go_enter Try.func14,Try.ntmps14
 go_upto_region 1 with fail
 rw[<-hW1]
 clear hW1
 go_upto_region 10 with (first
   | (go_at_call 24;refine(CB.out _).mono ?_;rintro e w1 ⟨rfl,rfl⟩)
   | (go_at_call 26;refine(CS.out _).mono ?_;rintro e w1 ⟨rfl,rfl⟩)
   | (go_at_call 27;refine CM.out.mono ?_;rintro e w2 ⟨rfl,hb2⟩;have HB2:=hid hb2;have a0:=(HA1.out.later HB2.out).c0;have a1:=(HA1.out.later HB2.out).c1;have af:=(HA1.out.later HB2.out).open_ 0;clear hb2))
 clear c0 c1 c2 c3 c4 c5 a0 a1 af d4 d5 d6
 have hA2:=HA1.out.later HB2.out
 have HA3:=hid (hA2.putB b)
 have hg2:=hA2.lt
 have HGR:Hid (w.grownBy (w2.setCell ⟨g,0,none⟩ (.int .i64 b)) (some g)):=hid ((gr_new _ (step HB1.out HB2.out)).trans (grown_setA w2 g 0 _))
 have HR3:Hid (RdR (w2.setCell ⟨g,0,none⟩ (.int .i64 b)) (.slice ua x.reqs.length uc) x.reqs):=hid ((HR1.out.later HB2.out).but (grown_setA w2 g 0 _) (fun k hk hl q=>HU.out hl (by rw[hk];exact q.symm)))
 have hk3:(w2.setCell ⟨g,0,none⟩ (.int .i64 b)).heap[w.heap.size]?= _:=(Below.heap_setCell w2 ⟨g,0,none⟩ (.int .i64 b) w.heap.size (by show w.heap.size≠g;omega)).trans ((HB2.out.block _ (get_ltB HK1.out)).trans HK1.out)
 generalize w2.setCell ⟨g,0,none⟩ (.int .i64 b)=W3 at HA3 HGR HR3 hk3 ⊢
 clear hA2 hg2 HA1 HB1 HB2 HK1 HR1
 have HK3:=hid hk3
 clear hk3
 have HKP:Hid (∀W,Below W3.heap.size W3 W->W.cell? ⟨w.heap.size,0,none⟩=some (.bool x.fill)/\W.cell? ⟨w.heap.size,1,none⟩=some (.int .i64 x.view)/\W.cell? ⟨w.heap.size,2,none⟩=some (.int .i64 x.tv)/\W.cell? ⟨w.heap.size,3,none⟩=some (.int .i64 x.ts)/\W.cell? ⟨w.heap.size,4,none⟩=some (.int .i64 x.time)/\W.cell? ⟨w.heap.size,5,none⟩=some (.slice ua x.reqs.length uc)):=hid fun W hb=>by
  have h:=cells_later HK3.out hb
  exact⟨cell_at h 0,cell_at h 1,cell_at h 2,cell_at h 3,cell_at h 4,cell_at h 5⟩
 have HL:Hid (x.reqs.length<=1000):=hid (by have:=mayB_len HM.out;omega)
 refine wp_region_held_drew (S:=fun W=>W.cell? ⟨w.heap.size,0,none⟩=some (.bool x.fill)/\W.cell? ⟨w.heap.size,1,none⟩=some (.int .i64 x.view)/\W.cell? ⟨w.heap.size,2,none⟩=some (.int .i64 x.tv)/\W.cell? ⟨w.heap.size,3,none⟩=some (.int .i64 x.ts)/\W.cell? ⟨w.heap.size,4,none⟩=some (.int .i64 x.time)/\W.cell? ⟨w.heap.size,5,none⟩=some (.slice ua x.reqs.length uc)) (by kernel_rfl) (HKP.out _ (Below.refl _ _).drew) (fun hHeld=>?_)
 obtain⟨V,hV⟩: ∃V,V=W3.drew:=⟨_,rfl⟩
 have HBV:Hid (Below W3.heap.size W3 V):=hid (by rw[hV];exact(Below.refl _ _).drew)
 rw[<-hV] at hHeld ⊢
 clear hV
 refine wpAnyH_take (i:=0) (v:=?_) rfl (by kernel_rfl) (by kernel_rfl) (by kernel_rfl) (fun _ _ _ h=>h) (Or.inl ⟨by rfl,?_⟩) (by assumption) ?_
 rotate_left
 ·intro w hSw;(try dsimp only at hSw);go_simp<;>with_reducible rfl
 try simp only[Act.put,getElem_toArray,getElem_cons_zero,setIfInBounds_toArray,set_cons_zero,set_cons_succ]
 refine wpAnyH_take (i:=1) (v:=?_) rfl (by kernel_rfl) (by kernel_rfl) (by kernel_rfl) (fun _ _ _ h=>h) (Or.inl ⟨by rfl,?_⟩) (by assumption) ?_
 rotate_left
 ·intro w hSw;(try dsimp only at hSw);go_simp<;>with_reducible rfl
 try simp only[Act.put,getElem_toArray,getElem_cons_succ,getElem_cons_zero,setIfInBounds_toArray,set_cons_zero,set_cons_succ]
 refine wpAnyH_take (i:=2) (v:=?_) rfl (by kernel_rfl) (by kernel_rfl) (by kernel_rfl) (fun _ _ _ h=>h) (Or.inl ⟨by rfl,?_⟩) (by assumption) ?_
 rotate_left
 ·intro w hSw;(try dsimp only at hSw);go_simp<;>with_reducible rfl
 try simp only[Act.put,getElem_toArray,getElem_cons_succ,getElem_cons_zero,setIfInBounds_toArray,set_cons_zero,set_cons_succ]
 refine wpAnyH_take (i:=3) (v:=?_) rfl (by kernel_rfl) (by kernel_rfl) (by kernel_rfl) (fun _ _ _ h=>h) (Or.inl ⟨by rfl,?_⟩) (by assumption) ?_
 rotate_left
 ·intro w hSw;(try dsimp only at hSw);go_simp<;>with_reducible rfl
 try simp only[Act.put,getElem_toArray,getElem_cons_succ,getElem_cons_zero,setIfInBounds_toArray,set_cons_zero,set_cons_succ]
 refine wpAnyH_take (i:=4) (v:=?_) rfl (by kernel_rfl) (by kernel_rfl) (by kernel_rfl) (fun _ _ _ h=>h) (Or.inl ⟨by rfl,?_⟩) (by assumption) ?_
 rotate_left
 ·intro w hSw;(try dsimp only at hSw);go_simp<;>with_reducible rfl
 try simp only[Act.put,getElem_toArray,getElem_cons_succ,getElem_cons_zero,setIfInBounds_toArray,set_cons_zero,set_cons_succ]
 refine wpAnyH_take (i:=5) (v:=?_) rfl (by kernel_rfl) (by kernel_rfl) (by kernel_rfl) (fun _ _ _ h=>h) (Or.inl ⟨by rfl,?_⟩) (by assumption) ?_
 rotate_left
 ·intro w hSw;(try dsimp only at hSw);go_simp<;>with_reducible rfl
 try simp only[Act.put,getElem_toArray,getElem_cons_succ,getElem_cons_zero,setIfInBounds_toArray,set_cons_zero,set_cons_succ]
 refine wpAnyH_take (i:=6) (v:=?_) rfl (by kernel_rfl) (by kernel_rfl) (by kernel_rfl) (fun _ _ _ h=>h) (Or.inl ⟨by rfl,?_⟩) (by assumption) ?_
 rotate_left
 ·intro w hSw;(try dsimp only at hSw);go_simp<;>with_reducible rfl
 try simp only[Act.put,getElem_toArray,getElem_cons_succ,getElem_cons_zero,setIfInBounds_toArray,set_cons_zero,set_cons_succ]
 refine wpAnyH_take (i:=8) (v:=?_) rfl (by kernel_rfl) (by kernel_rfl) (by kernel_rfl) (fun _ _ _ h=>h) (Or.inl ⟨by rfl,?_⟩) (by assumption) ?_
 rotate_left
 ·intro w hSw;(try dsimp only at hSw);go_simp<;>with_reducible rfl
 try simp only[Act.put,getElem_toArray,getElem_cons_succ,getElem_cons_zero,setIfInBounds_toArray,set_cons_zero,set_cons_succ]
 refine wpAnyH_take (i:=9) (v:=?_) rfl (by kernel_rfl) (by kernel_rfl) (by kernel_rfl) (fun _ _ _ h=>h) (Or.inl ⟨by rfl,?_⟩) (by assumption) ?_
 rotate_left
 ·intro w hSw;(try dsimp only at hSw);go_simp<;>with_reducible rfl
 try simp only[Act.put,getElem_toArray,getElem_cons_succ,getElem_cons_zero,setIfInBounds_toArray,set_cons_zero,set_cons_succ]
 refine wpAnyH_ready (rs:= [7]) (by kernel_rfl) (by simp) ?_
 refine AllReadyH.cons rfl (fun K hK=>?_) AllReadyH.nil
 go_simp
 go_at_call 28
 refine(copyOf_any ⟨t,b,x,ua,uc⟩ V (HR3.out.later HBV.out) HL.out).mono ?_
 rintro e V2 ⟨y,rfl,hy,hoy,hb⟩
 have HBV2:=hid (step HBV.out hb)
 have HOY:=hid (own_lowerX (base':=m) hoy (by have:=HA3.out.mw;have:=HBV.out.size;omega))
 clear hb hoy
 have HY:=hid hy
 clear hy
 refine hK.out _ _ (HKP.out _ HBV2.out) (fun hHeld=>?_)
 clear hK K
 try simp only[Act.put,getElem_toArray,getElem_cons_succ,getElem_cons_zero,setIfInBounds_toArray,set_cons_zero,set_cons_succ]
 have hA4:=HA3.out.later HBV2.out
 have cf:=hA4.open_
 obtain⟨M,hM,hM2, -⟩:=hA4.ex
 have hl:M.length=9:=by rw[<-valsV_length,hM2,places_length]
 have HM0: ∀k,k<8->V2.cell? ⟨g,2+p*8+k,none⟩=(cellsV M[p])[k]?:=fun k hk=>by rw[cell_at hM];exact accCells_get _ _ M p (by omega) k hk
 have HX: ∀k,k<8-> ∃u,V2.cell? ⟨g,2+p*8+k,none⟩=some u:=fun k hk=>by
  rw[HM0 k hk]
  exact⟨_,List.getElem?_eq_getElem (by rw[cellsV_length];exact hk)⟩
 obtain⟨o0,m0⟩: ∃u,V2.cell? ⟨g,2+p*8,none⟩=some u:=HX 0 (by omega)
 obtain⟨o1,m1⟩:=HX 1 (by omega)
 obtain⟨o2,m2⟩:=HX 2 (by omega)
 obtain⟨o3,m3⟩:=HX 3 (by omega)
 obtain⟨o4,m4⟩:=HX 4 (by omega)
 obtain⟨o5,m5⟩:=HX 5 (by omega)
 obtain⟨o6,m6⟩:=HX 6 (by omega)
 obtain⟨o7,m7⟩:=HX 7 (by omega)
 clear HX
 clear HM0 hM hM2 hA4 hl M
 refine wpAnyH_take (i:=10) (v:=?_) rfl (by kernel_rfl) (by kernel_rfl) (by kernel_rfl) (fun _ _ _ h=>h) (Or.inl ⟨by rfl,?_⟩) (by assumption) ?_
 rotate_left
 ·intro w hSw;(try dsimp only at hSw);go_simp<;>with_reducible rfl
 try simp only[Act.put,getElem_toArray,getElem_cons_succ,getElem_cons_zero,setIfInBounds_toArray,set_cons_zero,set_cons_succ]
 refine wpAnyH_ready (rs:= [11]) (by kernel_rfl) (by simp) ?_
 refine AllReadyH.cons rfl (fun K hK=>?_) AllReadyH.nil
 have HF:Hid (HasA (set8 V2 g (2+p*8) y) g m ⟨b,s.done,putV y.val s.votes⟩):=hid ((HA3.out.later HBV2.out).put HG.out.list y HOY.out (by rw[show y.slot=t from congrArg VoteV.slot HY.out];exact HT1.out) (by rw[show y.slot=t from congrArg VoteV.slot HY.out];exact HT2.out) p (by rw[show y.slot=t from congrArg VoteV.slot HY.out];exact HP.out))
 rw[HY.out] at HF
 have HGF:Hid (w.grownBy (set8 V2 g (2+p*8) y) (some g)):=hid ((gr_below HGR.out HBV2.out).trans (set8_grown _ _ _ _))
 have hsF:(set8 V2 g (2+p*8) y).heap[w.heap.size]?= _:=((set8_grown V2 g (2+p*8) y).block _ (get_ltB (cells_later HK3.out HBV2.out)) (fun q=>by injection q with q;omega)).trans (cells_later HK3.out HBV2.out)
 have HSF:Hid ((set8 V2 g (2+p*8) y).cell? ⟨w.heap.size,0,none⟩=some (.bool x.fill)/\(set8 V2 g (2+p*8) y).cell? ⟨w.heap.size,1,none⟩=some (.int .i64 x.view)/\(set8 V2 g (2+p*8) y).cell? ⟨w.heap.size,2,none⟩=some (.int .i64 x.tv)/\(set8 V2 g (2+p*8) y).cell? ⟨w.heap.size,3,none⟩=some (.int .i64 x.ts)/\(set8 V2 g (2+p*8) y).cell? ⟨w.heap.size,4,none⟩=some (.int .i64 x.time)/\(set8 V2 g (2+p*8) y).cell? ⟨w.heap.size,5,none⟩=some (.slice ua x.reqs.length uc)):=hid ⟨cell_at hsF 0,cell_at hsF 1,cell_at hsF 2,cell_at hsF 3,cell_at hsF 4,cell_at hsF 5⟩
 clear hsF
 unfold set8 at HF HGF HSF
 clear HY HOY
 unfold voteVal
 obtain⟨y1,y2,⟨y3,y4,y5,y6,y7,y8⟩,ya,yc⟩:=y
 unfold VoteC.u at HF HGF HSF ⊢
 dsimp only at HF HGF HSF ⊢
 go_simp
 refine hK.out _ _ HSF.out (fun hHeld=>?_)
 clear hK K
 try simp only[Act.put,getElem_toArray,getElem_cons_succ,getElem_cons_zero,setIfInBounds_toArray,set_cons_zero,set_cons_succ]
 refine wpAnyH_done (by kernel_rfl) ?_ _
 clear hHeld m0 m1 m2 m3 m4 m5 m6 m7
 go_wp2_with fail
 go_ret
 exact⟨rfl,HF.out,HGF.out⟩
theorem Accept_any (g m:Nat) (s:AccV) (b t:Int) (x:BatV) (u:Value) (w:World) (h:HasA w g m s) (hs:Good s) (hr:RdR w u x.reqs) (hu:u.ownBlock≠some g):
  Calls Try.prog 14 #[.pointer (some ⟨g,0,none⟩),.int .i64 b,.int .i64 t,batVal x u] w (DidA g m (accF s b t x) w):=Accept_gen g m s b t x u w h hs hr (fun _=>hu)
end Ac
end Go.Proofs.Ytmodbbmdkealdaa
