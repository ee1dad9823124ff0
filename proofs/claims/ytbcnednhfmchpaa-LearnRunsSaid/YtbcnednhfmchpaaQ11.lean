/- Texts laid together by program. -/
import Derived.Test.YtbcnednhfmchpaaQ10
/- Places of the developers' learner written over; contract of its Trim. -/
set_option linter.unusedVariables false
set_option maxRecDepth 8000
set_option linter.unusedSimpArgs false
namespace Go.Proofs.Ytbcnednhfmchpaa
open Lib (hid)
open Go.RowKit
namespace Ln
open Cm

theorem flat15 (M:List VotC) (p:Nat) (hp:p<M.length) (y:VotC) (v0 v1 v2 v3 v4 v5 v6 v7 v8 v9 v10 v11 v12 v13 v14:Value) (hy:cellsP y= [v0,v1,v2,v3,v4,v5,v6,v7,v8,v9,v10,v11,v12,v13,v14]):
  ((((((((((((((((flatX cellsP M).set (p*15+0) v0).set (p*15+1) v1).set (p*15+2) v2).set (p*15+3) v3).set (p*15+4) v4).set (p*15+5) v5).set (p*15+6) v6).set (p*15+7) v7).set (p*15+8) v8).set (p*15+9) v9).set (p*15+10) v10).set (p*15+11) v11).set (p*15+12) v12).set (p*15+13) v13).set (p*15+14) v14)=flatX cellsP (M.set p y):=by
 have e1:flatX cellsP M=flatX cellsP (M.take p)++(cellsP M[p]++flatX cellsP (M.drop (p+1))):=by
  rw[<-flatX_cons,<-flatX_append,<-List.drop_eq_getElem_cons hp,List.take_append_drop]
 have e2:flatX cellsP (M.set p y)=flatX cellsP (M.take p)++(cellsP y++flatX cellsP (M.drop (p+1))):=by
  rw[<-flatX_cons,<-flatX_append,List.set_eq_take_append_cons_drop,if_pos hp]
 have hl:(flatX cellsP (M.take p)).length =p*15:=by rw[flatX_length cellsP_length,List.length_take];congr 1;omega
 rw[e1,e2,hy]
 generalize flatX cellsP (M.take p)=A at hl
 generalize flatX cellsP (M.drop (p+1))=C
 have key: ∀(B:List Value) (k:Nat) (u:Value),k<B.length->(A++B).set (p*15+k) u=A++B.set k u:=fun B k u hk=>by rw[<-hl];exact set_at A B k u hk
 unfold cellsP
 rw[key _ _ _ (by simp),key _ _ _ (by simp),key _ _ _ (by simp),key _ _ _ (by simp),key _ _ _ (by simp),key _ _ _ (by simp),key _ _ _ (by simp),key _ _ _ (by simp),key _ _ _ (by simp),key _ _ _ (by simp),key _ _ _ (by simp),key _ _ _ (by simp),key _ _ _ (by simp),key _ _ _ (by simp),key _ _ _ (by simp)]
 rfl
theorem lrnCells_set1 (n d:Int) (M:List VotC) (k:Nat) (u:Value):(Value.int .i64 n::Value.int .i64 d::flatX cellsP M).set (2+k) u=Value.int .i64 n::Value.int .i64 d::(flatX cellsP M).set k u:=by
 rw[show 2+k=k+1+1 by omega,List.set_cons_succ,List.set_cons_succ]
theorem lrnCells_put (n d:Int) (M:List VotC) (p:Nat) (hp:p<M.length) (y:VotC) (v0 v1 v2 v3 v4 v5 v6 v7 v8 v9 v10 v11 v12 v13 v14:Value) (hy:cellsP y= [v0,v1,v2,v3,v4,v5,v6,v7,v8,v9,v10,v11,v12,v13,v14]):
  ((((((((((((((((lrnCells n d M).setIfInBounds (2+p*15) v0).setIfInBounds (2+p*15+1) v1).setIfInBounds (2+p*15+2) v2).setIfInBounds (2+p*15+3) v3).setIfInBounds (2+p*15+4) v4).setIfInBounds (2+p*15+5) v5).setIfInBounds (2+p*15+6) v6).setIfInBounds (2+p*15+7) v7).setIfInBounds (2+p*15+8) v8).setIfInBounds (2+p*15+9) v9).setIfInBounds (2+p*15+10) v10).setIfInBounds (2+p*15+11) v11).setIfInBounds (2+p*15+12) v12).setIfInBounds (2+p*15+13) v13).setIfInBounds (2+p*15+14) v14)=lrnCells n d (M.set p y):=by
 unfold lrnCells
 rw[<-flat15 M p hp y v0 v1 v2 v3 v4 v5 v6 v7 v8 v9 v10 v11 v12 v13 v14 hy]
 simp only[List.setIfInBounds_toArray]
 congr 1
 have key: ∀(l:List Value) (k:Nat) (u:Value),(Value.int .i64 n::Value.int .i64 d::l).set (2+p*15+k) u=Value.int .i64 n::Value.int .i64 d::l.set (p*15+k) u:=fun l k u=>by
  rw[show 2+p*15+k=(p*15+k)+1+1 by omega,List.set_cons_succ,List.set_cons_succ]
 have key0: ∀(l:List Value) (u:Value),(Value.int .i64 n::Value.int .i64 d::l).set (2+p*15) u=Value.int .i64 n::Value.int .i64 d::l.set (p*15+0) u:=fun l u=>key l 0 u
 rw[key0,key,key,key,key,key,key,key,key,key,key,key,key,key,key]
def set15 (w:World) (g o:Nat) (y:VotC):World:=(((((((((((((((w.setCell ⟨g,o,none⟩ (.int .i64 y.slot)).setCell ⟨g,o+1,none⟩ (.int .i64 y.ballot)).setCell ⟨g,o+2,none⟩ (.bool y.bat.fill)).setCell ⟨g,o+3,none⟩ (.int .i64 y.bat.view)).setCell ⟨g,o+4,none⟩ (.int .i64 y.bat.tv)).setCell ⟨g,o+5,none⟩ (.int .i64 y.bat.ts)).setCell ⟨g,o+6,none⟩ (.int .i64 y.bat.time)).setCell ⟨g,o+7,none⟩ (y.u)).setCell ⟨g,o+8,none⟩ (.bool (inW y.who 0))).setCell ⟨g,o+9,none⟩ (.bool (inW y.who 1))).setCell ⟨g,o+10,none⟩ (.bool (inW y.who 2))).setCell ⟨g,o+11,none⟩ (.bool (inW y.who 3))).setCell ⟨g,o+12,none⟩ (.bool (inW y.who 4))).setCell ⟨g,o+13,none⟩ (.bool (inW y.who 5))).setCell ⟨g,o+14,none⟩ (.bool (inW y.who 6)))
theorem set15_at {w:World} {g:Nat} {n d:Int} {M:List VotC} {t:TypeId} (h:w.heap[g]?=some (.cells (lrnCells n d M) t)) (p:Nat) (hp:p<M.length) (y:VotC):(set15 w g (2+p*15) y).heap[g]?=some (.cells (lrnCells n d (M.set p y)) t):=by
 unfold set15
 rw[(set_atB (set_atB (set_atB (set_atB (set_atB (set_atB (set_atB (set_atB (set_atB (set_atB (set_atB (set_atB (set_atB (set_atB (set_atB h _ _) _ _) _ _) _ _) _ _) _ _) _ _) _ _) _ _) _ _) _ _) _ _) _ _) _ _) _ _),lrnCells_put n d M p hp y _ _ _ _ _ _ _ _ _ _ _ _ _ _ _ rfl]
theorem set15_grown (w:World) (g o:Nat) (y:VotC):w.grownBy (set15 w g o y) (some g):=
 (((((((((((((((grown_setL w g _ _).trans (grown_setL _ g _ _)).trans (grown_setL _ g _ _)).trans (grown_setL _ g _ _)).trans (grown_setL _ g _ _)).trans (grown_setL _ g _ _)).trans (grown_setL _ g _ _)).trans (grown_setL _ g _ _)).trans (grown_setL _ g _ _)).trans (grown_setL _ g _ _)).trans (grown_setL _ g _ _)).trans (grown_setL _ g _ _)).trans (grown_setL _ g _ _)).trans (grown_setL _ g _ _)).trans (grown_setL _ g _ _))
theorem infoP:(Try.prog.info? 60).map (fun i=>(i.zero,i.size))=some (some (votVal zeroPC),15):=by kernel_rfl
theorem infoP9:(Try.prog.info? 61).map (·.size)=some 135:=by kernel_rfl
theorem aggP (w:World):(isAgg 60).run Try.prog w= .ok true w:=by kernel_rfl
theorem sizeP (w:World):(sizeOf 60).run Try.prog w= .ok 15 w:=by
 cases q:Try.prog.info? 60 with
 | none=>have h:=infoP;rw[q] at h;cases h
 | some i=>
  have h:=infoP
  rw[q] at h
  simp only[Option.map_some,Option.some.injEq,Prod.mk.injEq] at h
  simp [sizeOf,typeInfo,q,h.2]
theorem index_places (M:List VotC) (hM:M.length=9) (i:Nat) (hi:i<M.length) (w:World):
  (Instr.index 61 (.agg (flatX cellsP M).toArray) (.int .i64 (i:Int))).run Try.prog w= .ok (votVal M[i]) w:=by
 have h1:(0:Int)<=(i:Int)/\(i:Int)<((9:Nat):Int):=by omega
 have hx:(flatX cellsP M).toArray.extract (i*15) (i*15+15)=(cellsP M[i]).toArray :=by
  apply Array.ext_getElem?
  intro k
  rw[Array.getElem?_extract]
  have hl:(flatX cellsP M).length =M.length*15:=flatX_length cellsP_length M
  by_cases hk:k<15
  ·rw[List.getElem?_toArray,List.getElem?_toArray,<-flatX_get cellsP_length M i hi k hk,if_pos (by simp [hl];omega)]
  ·rw[if_neg (by simp;omega),List.getElem?_toArray,List.getElem?_eq_none (by rw[cellsP_length];omega)]
 have hu:(underlying 61).run Try.prog w= .ok (.array 9 60) w:=run_underlying Try.underlying61 w
 simp only[Instr.index,asIntOf,Sem.run_bind,Sem.run_pure,Result.andThen_ok,hu,if_pos h1,part,sizeP,aggP,Int.toNat_natCast,if_true,hx]
 rfl
structure MidD (w:World) (g m:Nat) (n d:Int) (L:List PlV):Prop where
 ex: ∃M:List VotC,w.heap[g]?=some (.cells (lrnCells n d M) 63)/\valsP M=L/\ ∀x∈M,OwnP m w x
 gm:g<m
 mw:m<=w.heap.size
section
variable {w w' : World} {g m : Nat} {n d : Int} {L : List PlV}
theorem MidD.lt (h:MidD w g m n d L):g<w.heap.size:=Nat.lt_of_lt_of_le h.gm h.mw
theorem MidD.later (h:MidD w g m n d L) (hb:Below w.heap.size w w'):MidD w' g m n d L:=by
 obtain⟨M,h1,h2,h3⟩:=h.ex
 exact⟨⟨M,(hb.block _ h.lt).trans h1,h2,fun x hx=>(h3 x hx).later hb⟩,h.gm,Nat.le_trans h.mw hb.size⟩
theorem MidD.put (h:MidD w g m n d L) (hL:L.length=9) (p:Nat) (hp:p<9) (y:VotC) (hy:OwnP m w y):MidD (set15 w g (2+p*15) y) g m n d (L.set p y.val):=by
 obtain⟨M,h3,h4,h5⟩:=h.ex
 have hl:M.length=9:=by rw[<-valsP_length,h4,hL]
 refine⟨⟨M.set p y,set15_at h3 p (by omega) y,by rw[valsP_set,h4],fun x hx=>?_⟩,h.gm,Nat.le_trans h.mw (set15_grown w g _ _).size⟩
 rcases List.mem_or_eq_of_mem_set hx with q | q
 ·exact(h5 x q).keep (set15_grown w g _ _) h.gm
 ·rw[q];exact hy.keep (set15_grown w g _ _) h.gm
theorem MidD.cells (h:MidD w g m n d L) (hL:L.length=9) (p:Nat) (hp:p<9) (k:Nat) (hk:k<15): ∃u,w.cell? ⟨g,2+p*15+k,none⟩=some u:=by
 obtain⟨M,h3,h4, -⟩:=h.ex
 have hl:M.length=9:=by rw[<-valsP_length,h4,hL]
 rw[cell_at h3,lrnCells_get _ _ M p (by omega) k hk]
 exact⟨_,List.getElem?_eq_getElem (by rw[cellsP_length];exact hk)⟩
theorem MidD.open_ (h:MidD w g m n d L) (j:Nat):w.frozen? ⟨g,j,none⟩=false:=by
 obtain⟨M,h3, -, -⟩:=h.ex
 exact frozen_at h3 j
end

def DidT (g m:Nat) (s:LrnV) (w:World) (e:Ending) (w':World):Prop:=e= .returned (.tuple #[])/\HasD w' g m s/\w.grownBy w' (some g)
set_option maxHeartbeats 4000000 in
theorem Trim_any (g m:Nat) (s:LrnV) (d:Int) (w:World) (h:HasD w g m s) (hs:GoodN s):
  Calls Try.prog 11 #[.pointer (some ⟨g,0,none⟩),.int .i64 d] w (DidT g m (trimL s d) w):=by
 have c1:=h.c1
 have cf:=h.open_ 1
 have HH:=hid h
 have HG:=hid hs
 clear h hs
 obtain⟨s',hE⟩: ∃s',trimL s d=s':=⟨_,rfl⟩
 rw[hE]
 unfold trimL at hE
 by_cases h1:d<=s.done
 ·rw[if_pos (.inl h1)] at hE
  subst hE
  have d1:decide (d<=s.done)=true:=decide_eq_true h1
  clear h1
  go_enter Try.func11,Try.ntmps11
  go_wp2
  refine bodyPost_ret (by simp [results,Try.results11,go_sem]<;>rfl) rfl ⟨rfl,HH.out,World.grownBy.refl _ _⟩
 have d1:decide (d<=s.done)=false:=decide_eq_false h1
 by_cases h2:2305843009213693952<d
 ·rw[if_pos (.inr h2)] at hE
  subst hE
  have d2:decide (2305843009213693952<d)=true:=decide_eq_true h2
  clear h1 h2
  go_enter Try.func11,Try.ntmps11
  go_wp2
  refine bodyPost_ret (by simp [results,Try.results11,go_sem]<;>rfl) rfl ⟨rfl,HH.out,World.grownBy.refl _ _⟩
 have d2:decide (2305843009213693952<d)=false:=decide_eq_false h2
 rw[if_neg (by omega)] at hE
 have HD0:Hid (0<=d):=hid (by have:=HG.out.d0;omega)
 have HE:=hid hE
 clear h1 h2 hE
 obtain⟨M,hM1,hM2,hM3⟩:=HH.out.ex
 have hl:M.length=9:=by rw[<-valsP_length,hM2,placesL_length]
 have hm1:=HH.out.putD d M hM1
 have hld:(w.setCell ⟨g,1,none⟩ (.int .i64 d)).rangeAt g 2 (flatX cellsP M):=fun j v hj=>by
  rw[cell_at hm1]
  unfold lrnCells
  rw[List.getElem?_toArray,Nat.add_comm 2 j,List.getElem?_cons_succ,List.getElem?_cons_succ]
  exact hj
 have HLD:=hid hld
 have HIN:Hid ((Try.prog.info? 61).map (·.size)=some (flatX cellsP M).length):=hid (by rw[infoP9,flatX_length cellsP_length,hl])
 clear hld
 have HX:Hid (∀(i:Nat) (hi:i<9) (w:World),(Instr.index 61 (.agg (flatX cellsP M).toArray) (.int .i64 (i:Int))).run Try.prog w= .ok (votVal (M[i]'(by omega))) w):=hid fun i hi w=>index_places M hl i (by omega) w
 have HMI:Hid (MidD (w.setCell ⟨g,1,none⟩ (.int .i64 d)) g m s.n d (placesL s.l)):=hid ⟨⟨M,hm1,hM2,fun x hx=>(hM3 x hx).keep (grown_setL w g 1 _) HH.out.gm⟩,HH.out.gm,Nat.le_trans HH.out.mw (grown_setL w g 1 (.int .i64 d)).size⟩
 have HGW:Hid (w.grownBy (w.setCell ⟨g,1,none⟩ (.int .i64 d)) (some g)):=hid (grown_setL w g 1 _)
 have HS:Hid (∀(i:Nat) (hi:i<9),(M[i]'(by omega)).slot =(plcP s.l i).slot):=hid fun i hi=>by
  have e:=valsP_get M i (by omega) (by rw[valsP_length];omega)
  have e2:(valsP M)[i]'(by rw[valsP_length];omega)=plcP s.l i:=by
   rw[<-placesL_get s.l i (by rw[placesL_length];exact hi)]
   congr 1
  rw[e2] at e
  rw[e]
  rfl
 clear hM1 hM2 hM3 hm1
 go_enter Try.func11,Try.ntmps11
 go_upto_region 2 with fail
 clear c1 cf d1 d2
 generalize w.setCell ⟨g,1,none⟩ (.int .i64 d)=W1 at HLD HMI HGW ⊢
 go_wp2_with (refine wpList_load_mid rfl 61 _ rfl g 2 rfl (flatX cellsP M) _ HLD.out Try.underlying61 rfl HIN.out ?_)
 go_loopw [4,5,28] (fun _ _ i wr=> ∃k:Nat,k<=9/\i= .int .i64 (k:Int)/\Hid (MidD wr g m s.n d (trimP s.l d k))/\Hid (w.grownBy wr (some g))) (fun _ _ i _=>9 - (intOf i).toNat)
 case atStart=>exact⟨0,by omega,rfl,by rw[trimP_none];exact HMI,HGW⟩
 case round=>
  obtain⟨k,hk,rfl,HMK,HGK⟩:=hrel
  by_cases hlt:k<9
  ·have hix:=HX.out k hlt wr
   have hsl:=HS.out k hlt
   generalize (M[k]'(by omega))=x at hix hsl
   obtain⟨x1,x2,x3,⟨x4,x5,x6,x7,x8,x9⟩,xa,xc⟩:=x
   unfold votVal VotC.u at hix
   dsimp only at hix hsl
   obtain⟨y0,hy0⟩: ∃y,y=inW x3 0:=⟨_,rfl⟩
   obtain⟨y1,hy1⟩: ∃y,y=inW x3 1:=⟨_,rfl⟩
   obtain⟨y2,hy2⟩: ∃y,y=inW x3 2:=⟨_,rfl⟩
   obtain⟨y3,hy3⟩: ∃y,y=inW x3 3:=⟨_,rfl⟩
   obtain⟨y4,hy4⟩: ∃y,y=inW x3 4:=⟨_,rfl⟩
   obtain⟨y5,hy5⟩: ∃y,y=inW x3 5:=⟨_,rfl⟩
   obtain⟨y6,hy6⟩: ∃y,y=inW x3 6:=⟨_,rfl⟩
   rw[<-hy0,<-hy1,<-hy2,<-hy3,<-hy4,<-hy5,<-hy6] at hix
   clear hy0 hy1 hy2 hy3 hy4 hy5 hy6
   by_cases q:(plcP s.l k).slot <=d
   ·have d0:decide (x1<=d)=true:=by rw[hsl];exact decide_eq_true q
    have HQ:=hid (trimP_drop s.l d k hlt q)
    clear q hsl
    go_upto_region 5 with fail
    have hc2:=cell_at (alloc_atB wr (.cells #[.int .i64 x1,.int .i64 x2,.bool x4,.int .i64 x5,.int .i64 x6,.int .i64 x7,.int .i64 x8,.slice xa x9.length xc,.bool y0,.bool y1,.bool y2,.bool y3,.bool y4,.bool y5,.bool y6] 60) _ rfl) 0
    have HB2:=hid (newAlloc wr (.cells #[.int .i64 x1,.int .i64 x2,.bool x4,.int .i64 x5,.int .i64 x6,.int .i64 x7,.int .i64 x8,.slice xa x9.length xc,.bool y0,.bool y1,.bool y2,.bool y3,.bool y4,.bool y5,.bool y6] 60))
    generalize wr.alloc (.cells #[.int .i64 x1,.int .i64 x2,.bool x4,.int .i64 x5,.int .i64 x6,.int .i64 x7,.int .i64 x8,.slice xa x9.length xc,.bool y0,.bool y1,.bool y2,.bool y3,.bool y4,.bool y5,.bool y6] 60)=W2 at hc2 HB2 ⊢
    simp at hc2
    clear hix
    have hM2:=HMK.out.later HB2.out
    have cf:=hM2.open_
    have hx:=fun j (hj:j<15)=>hM2.cells (trimP_length _ _ _) k hlt j hj
    obtain⟨o0,m0⟩: ∃u,W2.cell? ⟨g,2+k*15,none⟩=some u:=hx 0 (by omega)
    obtain⟨o1,m1⟩:=hx 1 (by omega)
    obtain⟨o2,m2⟩:=hx 2 (by omega)
    obtain⟨o3,m3⟩:=hx 3 (by omega)
    obtain⟨o4,m4⟩:=hx 4 (by omega)
    obtain⟨o5,m5⟩:=hx 5 (by omega)
    obtain⟨o6,m6⟩:=hx 6 (by omega)
    obtain⟨o7,m7⟩:=hx 7 (by omega)
    obtain⟨o8,m8⟩:=hx 8 (by omega)
    obtain⟨o9,m9⟩:=hx 9 (by omega)
    obtain⟨o10,m10⟩:=hx 10 (by omega)
    obtain⟨o11,m11⟩:=hx 11 (by omega)
    obtain⟨o12,m12⟩:=hx 12 (by omega)
    obtain⟨o13,m13⟩:=hx 13 (by omega)
    obtain⟨o14,m14⟩:=hx 14 (by omega)
    have HM3:=hid (hM2.put (trimP_length _ _ _) k hlt zeroPC (OwnP.zero _ _))
    rw[show zeroPC.val=zeroPl from rfl,<-HQ.out] at HM3
    have HG3:=hid ((gr_belowL HGK.out HB2.out).trans (set15_grown W2 g (2+k*15) zeroPC))
    unfold set15 zeroPC VotC.u at HM3 HG3
    unfold zeroB at HM3 HG3
    dsimp only[List.length_nil] at HM3 HG3
    rw[inW_nil,inW_nil,inW_nil,inW_nil,inW_nil,inW_nil,inW_nil] at HM3 HG3
    clear hM2 hx HMK HGK HB2
    have q0:(0:Int)<=(k:Int):=by omega
    have q9:(k:Int)<9:=by omega
    go_wp2
    go_roundw
    case rel=>exact⟨k+1,by omega,by go_num,HM3,HG3⟩
    case measure=>simp [intOf];omega
   ·have d0:decide (x1<=d)=false:=by rw[hsl];exact decide_eq_false q
    have HQ:=hid (trimP_keep s.l d k hlt q)
    clear q hsl
    go_upto_region 5 with fail
    have hc2:=cell_at (alloc_atB wr (.cells #[.int .i64 x1,.int .i64 x2,.bool x4,.int .i64 x5,.int .i64 x6,.int .i64 x7,.int .i64 x8,.slice xa x9.length xc,.bool y0,.bool y1,.bool y2,.bool y3,.bool y4,.bool y5,.bool y6] 60) _ rfl) 0
    have HB2:=hid (newAlloc wr (.cells #[.int .i64 x1,.int .i64 x2,.bool x4,.int .i64 x5,.int .i64 x6,.int .i64 x7,.int .i64 x8,.slice xa x9.length xc,.bool y0,.bool y1,.bool y2,.bool y3,.bool y4,.bool y5,.bool y6] 60))
    generalize wr.alloc (.cells #[.int .i64 x1,.int .i64 x2,.bool x4,.int .i64 x5,.int .i64 x6,.int .i64 x7,.int .i64 x8,.slice xa x9.length xc,.bool y0,.bool y1,.bool y2,.bool y3,.bool y4,.bool y5,.bool y6] 60)=W2 at hc2 HB2 ⊢
    simp at hc2
    clear hix
    have HM3:=hid (HMK.out.later HB2.out)
    rw[<-HQ.out] at HM3
    have HG3:=hid (gr_belowL HGK.out HB2.out)
    clear HMK HGK HB2
    go_wp2
    go_roundw
    case rel=>exact⟨k+1,by omega,by go_num,HM3,HG3⟩
    case measure=>simp [intOf];omega
  ·obtain rfl:k=9:=by omega
   go_wp2
   go_end0
   obtain⟨⟨M',a1,a2,a3⟩,b1,b2⟩:=HMK.out
   refine⟨rfl,?_,HGK.out⟩
   rw[<-HE.out]
   exact⟨⟨M',a1,by rw[a2,trimP_all HD0.out HG.out.win],a3⟩,b1,b2⟩
end Ln
end Go.Proofs.Ytbcnednhfmchpaa
