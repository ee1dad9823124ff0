/- Texts laid together by program. -/
import Derived.Test.YtbcnednhfmchpaaQ8
import Derived.Lib.QuietBelow
/- Contracts of package learn: isChosen, Chosen, Heard. -/
set_option linter.unusedVariables false
set_option maxRecDepth 8000
set_option linter.unusedSimpArgs false
namespace Go.Proofs.Ytbcnednhfmchpaa
open Lib (hid)
open List (getElem_toArray getElem_cons_succ getElem_cons_zero setIfInBounds_toArray set_cons_zero set_cons_succ)
open Go.RowKit
namespace Ln
open Cm

theorem quorumF_eq {n:Int} (h1:1<=n) (h2:n<=7):Vw.quorumF n=quoF n:=by
 unfold Vw.quorumF
 rw[if_pos (Vw.someF_iff.2 ⟨h1,h2⟩)]
 rfl
set_option maxHeartbeats 4000000 in
theorem IsChosen_any (g m:Nat) (s:LrnV) (t:Int) (w:World) (h:HasD w g m s) (hs:GoodN s) (ht: -9223372036854775808<=t):Calls Try.prog 29 #[.pointer (some ⟨g,0,none⟩),.int .i64 t] w (SaysB (chosenB s t) w):=by
 have CF:=hid (Find_any g m s t w h hs ht)
 have HH:=hid h
 have HG:=hid hs
 have CQ:=hid (fun w=>Vw.Quorum_any s.n w)
 rw[quorumF_eq hs.n1 hs.n7] at CQ
 have HF:Hid (findP s t=zeroPl/\chosenB s t=false\/ ∃y,y∈s.l/\findP s t=plOf y/\chosenB s t=y.chosen):=hid (by
  unfold findP chosenB
  cases q:at_ s.l t with
  | none=>exact .inl ⟨rfl,rfl⟩
  | some y=>exact .inr ⟨y,(at_mem q).1,rfl,rfl⟩)
 clear h hs ht
 generalize chosenB s t=ch at HF ⊢
 go_enter Try.func29,Try.ntmps29
 go_upto_region 2 with (go_at_call 36;refine CF.out.mono ?_;rintro e w1 ⟨⟨x1,x2,x3,⟨x4,x5,x6,x7,x8,x9⟩,xa,xc⟩,rfl,hx,hox,hb⟩;have HB1:=hid hb;have HX:=hid hx;have HOX:=hid hox;clear hx hox hb;unfold votVal VotC.u;dsimp only;obtain⟨y0,hy0⟩: ∃y,y=inW x3 0:=⟨_,rfl⟩;obtain⟨y1,hy1⟩: ∃y,y=inW x3 1:=⟨_,rfl⟩;obtain⟨y2,hy2⟩: ∃y,y=inW x3 2:=⟨_,rfl⟩;obtain⟨y3,hy3⟩: ∃y,y=inW x3 3:=⟨_,rfl⟩;obtain⟨y4,hy4⟩: ∃y,y=inW x3 4:=⟨_,rfl⟩;obtain⟨y5,hy5⟩: ∃y,y=inW x3 5:=⟨_,rfl⟩;obtain⟨y6,hy6⟩: ∃y,y=inW x3 6:=⟨_,rfl⟩;rw[<-hy0,<-hy1,<-hy2,<-hy3,<-hy4,<-hy5,<-hy6];have HY:Hid (y0=inW x3 0/\y1=inW x3 1/\y2=inW x3 2/\y3=inW x3 3/\y4=inW x3 4/\y5=inW x3 5/\y6=inW x3 6):=hid ⟨hy0,hy1,hy2,hy3,hy4,hy5,hy6⟩;clear hy0 hy1 hy2 hy3 hy4 hy5 hy6)
 have hb2:=newAlloc w1 (.cells #[.int .i64 x1,.int .i64 x2,.bool x4,.int .i64 x5,.int .i64 x6,.int .i64 x7,.int .i64 x8,.slice xa x9.length xc,.bool y0,.bool y1,.bool y2,.bool y3,.bool y4,.bool y5,.bool y6] 60)
 have k2:=alloc_atB w1 (.cells #[.int .i64 x1,.int .i64 x2,.bool x4,.int .i64 x5,.int .i64 x6,.int .i64 x7,.int .i64 x8,.slice xa x9.length xc,.bool y0,.bool y1,.bool y2,.bool y3,.bool y4,.bool y5,.bool y6] 60) _ rfl
 obtain⟨W2,hW2⟩: ∃W2,W2=w1.alloc (.cells #[.int .i64 x1,.int .i64 x2,.bool x4,.int .i64 x5,.int .i64 x6,.int .i64 x7,.int .i64 x8,.slice xa x9.length xc,.bool y0,.bool y1,.bool y2,.bool y3,.bool y4,.bool y5,.bool y6] 60):=⟨_,rfl⟩
 rw[<-hW2] at hb2 k2 ⊢
 clear hW2
 have HB2:=hid (step HB1.out hb2)
 obtain⟨b,hb⟩: ∃b,w1.heap.size=b:=⟨_,rfl⟩
 rw[hb] at k2 ⊢
 have HKB:=hid k2
 have HKP:Hid (∀W,Below W2.heap.size W2 W->W.cell? ⟨b,0,none⟩=some (.int .i64 x1)/\W.cell? ⟨b,1,none⟩=some (.int .i64 x2)/\W.cell? ⟨b,2,none⟩=some (.bool x4)/\W.cell? ⟨b,3,none⟩=some (.int .i64 x5)/\W.cell? ⟨b,4,none⟩=some (.int .i64 x6)/\W.cell? ⟨b,5,none⟩=some (.int .i64 x7)/\W.cell? ⟨b,6,none⟩=some (.int .i64 x8)/\W.cell? ⟨b,7,none⟩=some (.slice xa x9.length xc)/\W.cell? ⟨b,8,none⟩=some (.bool y0)/\W.cell? ⟨b,9,none⟩=some (.bool y1)/\W.cell? ⟨b,10,none⟩=some (.bool y2)/\W.cell? ⟨b,11,none⟩=some (.bool y3)/\W.cell? ⟨b,12,none⟩=some (.bool y4)/\W.cell? ⟨b,13,none⟩=some (.bool y5)/\W.cell? ⟨b,14,none⟩=some (.bool y6)/\W.cell? ⟨g,0,none⟩=some (.int .i64 s.n)):=hid fun W hb=>by
  have h:=cells_later HKB.out hb
  exact⟨cell_at h 0,cell_at h 1,cell_at h 2,cell_at h 3,cell_at h 4,cell_at h 5,cell_at h 6,cell_at h 7,cell_at h 8,cell_at h 9,cell_at h 10,cell_at h 11,cell_at h 12,cell_at h 13,cell_at h 14,(HH.out.later (step HB2.out hb)).c0⟩
 clear hb2 k2 hb
 rcases HF.out with ⟨hf,hc⟩ | ⟨y,hy,hf,hc⟩
 ·have hx:=HX.out
  rw[hf] at hx
  have hx1:x1=0:=congrArg PlV.slot hx
  subst hx1
  have HC:=hid hc
  have d0:decide ((0:Int)<0)=false:=by decide
  obtain⟨c0, -⟩:=HKP.out _ (Below.refl _ _)
  have HB2:=hid HB2.out
  clear hf hc hx HKP CQ CF
  go_quiet (fail)
  go_wp2
  go_ret
  exact⟨by rw[HC.out];rfl,below_drewB HB2.out nq⟩
 ·have hx:=HX.out
  rw[hf] at hx
  have hx1:x1=y.slot:=congrArg PlV.slot hx
  have hx3:x3=y.who:=congrArg PlV.who hx
  have hgy:=HG.out.all y hy
  have d0:decide (0<x1)=true:=decide_eq_true (by have:=HG.out.d0;have:=hgy.lo;omega)
  have HWL:Hid ((whoK x3 7).length =y.who.length):=hid (by rw[hx3,whoK_all hgy.who HG.out.n7])
  have CW:=hid (fun W=>Who_any ⟨x1,x2,x3,⟨x4,x5,x6,x7,x8,x9⟩,xa,xc⟩ W)
  obtain⟨rfl,rfl,rfl,rfl,rfl,rfl,rfl⟩:=HY.out
  unfold votVal VotC.u at CW
  dsimp only at CW
  have HC:Hid (ch=decide (quoF s.n<=(y.who.length:Int))):=hid (by rw[hc,hgy.ch])
  clear hf hc hx hx1 hx3 hgy hy CF HF
  obtain⟨y0,hy0⟩: ∃y,y=inW x3 0:=⟨_,rfl⟩
  obtain⟨y1,hy1⟩: ∃y,y=inW x3 1:=⟨_,rfl⟩
  obtain⟨y2,hy2⟩: ∃y,y=inW x3 2:=⟨_,rfl⟩
  obtain⟨y3,hy3⟩: ∃y,y=inW x3 3:=⟨_,rfl⟩
  obtain⟨y4,hy4⟩: ∃y,y=inW x3 4:=⟨_,rfl⟩
  obtain⟨y5,hy5⟩: ∃y,y=inW x3 5:=⟨_,rfl⟩
  obtain⟨y6,hy6⟩: ∃y,y=inW x3 6:=⟨_,rfl⟩
  rw[<-hy0,<-hy1,<-hy2,<-hy3,<-hy4,<-hy5,<-hy6] at CW HKP ⊢
  clear hy0 hy1 hy2 hy3 hy4 hy5 hy6
  refine wp_region_held_drew (S:=(fun W=>W.cell? ⟨b,0,none⟩=some (.int .i64 x1)/\W.cell? ⟨b,1,none⟩=some (.int .i64 x2)/\W.cell? ⟨b,2,none⟩=some (.bool x4)/\W.cell? ⟨b,3,none⟩=some (.int .i64 x5)/\W.cell? ⟨b,4,none⟩=some (.int .i64 x6)/\W.cell? ⟨b,5,none⟩=some (.int .i64 x7)/\W.cell? ⟨b,6,none⟩=some (.int .i64 x8)/\W.cell? ⟨b,7,none⟩=some (.slice xa x9.length xc)/\W.cell? ⟨b,8,none⟩=some (.bool y0)/\W.cell? ⟨b,9,none⟩=some (.bool y1)/\W.cell? ⟨b,10,none⟩=some (.bool y2)/\W.cell? ⟨b,11,none⟩=some (.bool y3)/\W.cell? ⟨b,12,none⟩=some (.bool y4)/\W.cell? ⟨b,13,none⟩=some (.bool y5)/\W.cell? ⟨b,14,none⟩=some (.bool y6)/\W.cell? ⟨g,0,none⟩=some (.int .i64 s.n))) (by kernel_rfl) (HKP.out _ (Below.refl _ _).drew) (fun hHeld=>?_)
  obtain⟨V,hV⟩: ∃V,V=W2.drew:=⟨_,rfl⟩
  have HBV:Hid (Below W2.heap.size W2 V):=hid (by rw[hV];exact(Below.refl _ _).drew)
  rw[<-hV] at hHeld ⊢
  clear hV
  refine wpAnyH_take (i:=0) (v:=?_) rfl (by kernel_rfl) (by kernel_rfl) (by kernel_rfl) (fun _ _ _ h=>h) (Or.inl ⟨by rfl,?_⟩) (by assumption) ?_
  rotate_left
  ·intro w hSw;(try dsimp only at hSw);go_simp<;>with_reducible rfl
  try simp only[Act.put,getElem_toArray,getElem_cons_zero,setIfInBounds_toArray,set_cons_zero,set_cons_succ]
  refine wpAnyH_take (i:=1) (v:=?_) rfl (by kernel_rfl) (by kernel_rfl) (by kernel_rfl) (fun _ _ _ h=>h) (Or.inl ⟨by rfl,?_⟩) (by assumption) ?_
  rotate_left
  ·intro w hSw;(try dsimp only at hSw);go_simp<;>with_reducible rfl
  try simp only[Act.put,getElem_toArray,getElem_cons_succ,getElem_cons_zero,setIfInBounds_toArray,set_cons_zero,set_cons_succ]
  refine wpAnyH_take (i:=2) (v:=?_) rfl (by kernel_rfl) (by kernel_rfl) (by kernel_rfl) (fun _ _ _ h=>h) (Or.inl ⟨by rfl,?_⟩) (by assumption) ?_
  rotate_left
  ·intro w hSw;(try dsimp only at hSw);go_simp<;>with_reducible rfl
  try simp only[Act.put,getElem_toArray,getElem_cons_succ,getElem_cons_zero,setIfInBounds_toArray,set_cons_zero,set_cons_succ]
  refine wpAnyH_take (i:=3) (v:=?_) rfl (by kernel_rfl) (by kernel_rfl) (by kernel_rfl) (fun _ _ _ h=>h) (Or.inl ⟨by rfl,?_⟩) (by assumption) ?_
  rotate_left
  ·intro w hSw;(try dsimp only at hSw);go_simp<;>with_reducible rfl
  try simp only[Act.put,getElem_toArray,getElem_cons_succ,getElem_cons_zero,setIfInBounds_toArray,set_cons_zero,set_cons_succ]
  refine wpAnyH_take (i:=4) (v:=?_) rfl (by kernel_rfl) (by kernel_rfl) (by kernel_rfl) (fun _ _ _ h=>h) (Or.inl ⟨by rfl,?_⟩) (by assumption) ?_
  rotate_left
  ·intro w hSw;(try dsimp only at hSw);go_simp<;>with_reducible rfl
  try simp only[Act.put,getElem_toArray,getElem_cons_succ,getElem_cons_zero,setIfInBounds_toArray,set_cons_zero,set_cons_succ]
  refine wpAnyH_take (i:=7) (v:=?_) rfl (by kernel_rfl) (by kernel_rfl) (by kernel_rfl) (fun _ _ _ h=>h) (Or.inl ⟨by rfl,?_⟩) (by assumption) ?_
  rotate_left
  ·intro w hSw;(try dsimp only at hSw);go_simp<;>with_reducible rfl
  try simp only[Act.put,getElem_toArray,getElem_cons_succ,getElem_cons_zero,setIfInBounds_toArray,set_cons_zero,set_cons_succ]
  refine wpAnyH_take (i:=8) (v:=?_) rfl (by kernel_rfl) (by kernel_rfl) (by kernel_rfl) (fun _ _ _ h=>h) (Or.inl ⟨by rfl,?_⟩) (by assumption) ?_
  rotate_left
  ·intro w hSw;(try dsimp only at hSw);go_simp<;>with_reducible rfl
  try simp only[Act.put,getElem_toArray,getElem_cons_succ,getElem_cons_zero,setIfInBounds_toArray,set_cons_zero,set_cons_succ]
  refine wpAnyH_take (i:=9) (v:=?_) rfl (by kernel_rfl) (by kernel_rfl) (by kernel_rfl) (fun _ _ _ h=>h) (Or.inl ⟨by rfl,?_⟩) (by assumption) ?_
  rotate_left
  ·intro w hSw;(try dsimp only at hSw);go_simp<;>with_reducible rfl
  try simp only[Act.put,getElem_toArray,getElem_cons_succ,getElem_cons_zero,setIfInBounds_toArray,set_cons_zero,set_cons_succ]
  refine wpAnyH_take (i:=10) (v:=?_) rfl (by kernel_rfl) (by kernel_rfl) (by kernel_rfl) (fun _ _ _ h=>h) (Or.inl ⟨by rfl,?_⟩) (by assumption) ?_
  rotate_left
  ·intro w hSw;(try dsimp only at hSw);go_simp<;>with_reducible rfl
  try simp only[Act.put,getElem_toArray,getElem_cons_succ,getElem_cons_zero,setIfInBounds_toArray,set_cons_zero,set_cons_succ]
  refine wpAnyH_ready (rs:= [5]) (by kernel_rfl) (by simp) ?_
  refine AllReadyH.cons rfl (fun K hK=>?_) AllReadyH.nil
  go_simp
  go_at_call 37
  refine(CW.out V).mono ?_
  rintro e V' ⟨wa,wc,rfl, -,hb⟩
  rw[HWL.out]
  have HBV:=hid (step HBV.out hb)
  clear hb
  obtain⟨V,rfl⟩: ∃V,V=V':=⟨_,rfl⟩
  refine hK.out _ _ (HKP.out _ HBV.out) (fun hHeld=>?_)
  clear hK K
  try simp only[Act.put,getElem_toArray,getElem_cons_succ,getElem_cons_zero,setIfInBounds_toArray,set_cons_zero,set_cons_succ]
  refine wpAnyH_take (i:=6) (v:=?_) rfl (by kernel_rfl) (by kernel_rfl) (by kernel_rfl) (fun _ _ _ h=>h) (Or.inl ⟨by rfl,?_⟩) (by assumption) ?_
  rotate_left
  ·intro w hSw;(try dsimp only at hSw);go_simp<;>with_reducible rfl
  try simp only[Act.put,getElem_toArray,getElem_cons_succ,getElem_cons_zero,setIfInBounds_toArray,set_cons_zero,set_cons_succ]
  refine wpAnyH_ready (rs:= [11]) (by kernel_rfl) (by simp) ?_
  refine AllReadyH.cons rfl (fun K hK=>?_) AllReadyH.nil
  go_simp
  go_at_call 23
  refine(CQ.out V).mono ?_
  rintro e V' ⟨rfl,rfl⟩
  refine hK.out _ _ (HKP.out _ HBV.out) (fun hHeld=>?_)
  clear hK K
  try simp only[Act.put,getElem_toArray,getElem_cons_succ,getElem_cons_zero,setIfInBounds_toArray,set_cons_zero,set_cons_succ]
  refine wpAnyH_take (i:=12) (v:=?_) rfl (by kernel_rfl) (by kernel_rfl) (by kernel_rfl) (fun _ _ _ h=>h) (Or.inl ⟨by rfl,?_⟩) (by assumption) ?_
  rotate_left
  ·intro w hSw;(try dsimp only at hSw);go_simp<;>with_reducible rfl
  try simp only[Act.put,getElem_toArray,getElem_cons_succ,getElem_cons_zero,setIfInBounds_toArray,set_cons_zero,set_cons_succ]
  refine wpAnyH_take (i:=13) (v:=?_) rfl (by kernel_rfl) (by kernel_rfl) (by kernel_rfl) (fun _ _ _ h=>h) (Or.inl ⟨by rfl,?_⟩) (by assumption) ?_
  rotate_left
  ·intro w hSw;(try dsimp only at hSw);go_simp<;>with_reducible rfl
  try simp only[Act.put,getElem_toArray,getElem_cons_succ,getElem_cons_zero,setIfInBounds_toArray,set_cons_zero,set_cons_succ]
  refine wpAnyH_take (i:=14) (v:=?_) rfl (by kernel_rfl) (by kernel_rfl) (by kernel_rfl) (fun _ _ _ h=>h) (Or.inl ⟨by rfl,?_⟩) (by assumption) ?_
  rotate_left
  ·intro w hSw;(try dsimp only at hSw);go_simp<;>with_reducible rfl
  try simp only[Act.put,getElem_toArray,getElem_cons_succ,getElem_cons_zero,setIfInBounds_toArray,set_cons_zero,set_cons_succ]
  refine wpAnyH_done (by kernel_rfl) ?_ _
  go_wp2_with fail
  go_ret
  exact⟨by rw[HC.out];rfl,step HB2.out HBV.out⟩
end Ln
end Go.Proofs.Ytbcnednhfmchpaa
