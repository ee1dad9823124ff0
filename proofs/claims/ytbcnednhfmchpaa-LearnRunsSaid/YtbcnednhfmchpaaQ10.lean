/- Texts laid together by program. -/
import Derived.Test.YtbcnednhfmchpaaQ9
/- Contracts of package learn: Heard, Chosen, of nil too. -/
set_option linter.unusedVariables false
set_option maxRecDepth 8000
set_option linter.unusedSimpArgs false
namespace Go.Proofs.Ytbcnednhfmchpaa
open Lib (hid)
open List (getElem_toArray getElem_cons_succ getElem_cons_zero setIfInBounds_toArray set_cons_zero set_cons_succ)
open Go.RowKit
namespace Ln
open Cm

theorem mayB_lenL {x:BatV} (h:mayB x=true):x.reqs.length<=3:=by
 unfold mayB at h
 split at h
 ·simp only[Bool.and_eq_true,decide_eq_true_eq] at h
  omega
 ·unfold reqsF at h
  simp only[Bool.and_eq_true,decide_eq_true_eq] at h
  omega
theorem field_bat (v0 v1 v2 v3 v4 v5 v6 v7 v8 v9 v10 v11 v12 v13 v14:Value) (w:World):(Instr.field 60 (.agg #[v0,v1,v2,v3,v4,v5,v6,v7,v8,v9,v10,v11,v12,v13,v14]) 2).run Try.prog w= .ok (.agg #[v2,v3,v4,v5,v6,v7]) w:=by kernel_rfl
def TellsHO (r:Int × List Int) (w:World) (e:Ending) (w':World):Prop:= ∃a c,e= .returned (.tuple #[.int .i64 r.1,.slice a r.2.length c])/\w'.ownsRow w.heap.size 3 1 (.slice a r.2.length c) r.2.length (flatX cellsI r.2)/\Below w.heap.size w w'
theorem TellsHO.h {r:Int × List Int} {w:World} {e:Ending} {w':World} (h:TellsHO r w e w'):TellsH r w e w':=by
 obtain⟨a,c,h1,h2,h3⟩:=h
 exact⟨_,h1,RdX.own cellsI_length h2,h3⟩
set_option maxHeartbeats 4000000 in
theorem Heard_of (pv:Value) (t:Int) (m:Nat) (r:PlV) (w:World) (CF0:Calls Try.prog 36 #[pv,.int .i64 t] w (Finds m r w)) (hr:whoK r.who 7=r.who):Calls Try.prog 18 #[pv,.int .i64 t] w (TellsHO (r.ballot,r.who) w):=by
 have CF:=hid CF0
 have HR:=hid hr
 clear CF0 hr
 go_enter Try.func18,Try.ntmps18
 go_upto_region 2 with (go_at_call 36;refine CF.out.mono ?_;rintro e w1 ⟨⟨x1,x2,x3,⟨x4,x5,x6,x7,x8,x9⟩,xa,xc⟩,rfl,hx,hox,hb⟩;have HB1:=hid hb;have HX:=hid hx;have HOX:=hid hox;clear hx hox hb;unfold votVal VotC.u;dsimp only;have CW:=hid (fun W=>Who_any ⟨x1,x2,x3,⟨x4,x5,x6,x7,x8,x9⟩,xa,xc⟩ W);unfold votVal VotC.u at CW;dsimp only at CW;obtain⟨y0,hy0⟩: ∃y,y=inW x3 0:=⟨_,rfl⟩;obtain⟨y1,hy1⟩: ∃y,y=inW x3 1:=⟨_,rfl⟩;obtain⟨y2,hy2⟩: ∃y,y=inW x3 2:=⟨_,rfl⟩;obtain⟨y3,hy3⟩: ∃y,y=inW x3 3:=⟨_,rfl⟩;obtain⟨y4,hy4⟩: ∃y,y=inW x3 4:=⟨_,rfl⟩;obtain⟨y5,hy5⟩: ∃y,y=inW x3 5:=⟨_,rfl⟩;obtain⟨y6,hy6⟩: ∃y,y=inW x3 6:=⟨_,rfl⟩;rw[<-hy0,<-hy1,<-hy2,<-hy3,<-hy4,<-hy5,<-hy6] at CW ⊢;have HY:Hid (y0=inW x3 0/\y1=inW x3 1/\y2=inW x3 2/\y3=inW x3 3/\y4=inW x3 4/\y5=inW x3 5/\y6=inW x3 6):=hid ⟨hy0,hy1,hy2,hy3,hy4,hy5,hy6⟩;clear hy0 hy1 hy2 hy3 hy4 hy5 hy6)
 have hb2:=newAlloc w1 (.cells #[.int .i64 x1,.int .i64 x2,.bool x4,.int .i64 x5,.int .i64 x6,.int .i64 x7,.int .i64 x8,.slice xa x9.length xc,.bool y0,.bool y1,.bool y2,.bool y3,.bool y4,.bool y5,.bool y6] 60)
 have k2:=alloc_atB w1 (.cells #[.int .i64 x1,.int .i64 x2,.bool x4,.int .i64 x5,.int .i64 x6,.int .i64 x7,.int .i64 x8,.slice xa x9.length xc,.bool y0,.bool y1,.bool y2,.bool y3,.bool y4,.bool y5,.bool y6] 60) _ rfl
 obtain⟨W2,hW2⟩: ∃W2,W2=w1.alloc (.cells #[.int .i64 x1,.int .i64 x2,.bool x4,.int .i64 x5,.int .i64 x6,.int .i64 x7,.int .i64 x8,.slice xa x9.length xc,.bool y0,.bool y1,.bool y2,.bool y3,.bool y4,.bool y5,.bool y6] 60):=⟨_,rfl⟩
 rw[<-hW2] at hb2 k2 ⊢
 clear hW2
 have HB2:=hid (step HB1.out hb2)
 obtain⟨b,hb⟩: ∃b,w1.heap.size=b:=⟨_,rfl⟩
 rw[hb] at k2 ⊢
 have HKB:=hid k2
 have HKP:Hid (∀W,Below W2.heap.size W2 W->W.cell? ⟨b,0,none⟩=some (.int .i64 x1)/\W.cell? ⟨b,1,none⟩=some (.int .i64 x2)/\W.cell? ⟨b,2,none⟩=some (.bool x4)/\W.cell? ⟨b,3,none⟩=some (.int .i64 x5)/\W.cell? ⟨b,4,none⟩=some (.int .i64 x6)/\W.cell? ⟨b,5,none⟩=some (.int .i64 x7)/\W.cell? ⟨b,6,none⟩=some (.int .i64 x8)/\W.cell? ⟨b,7,none⟩=some (.slice xa x9.length xc)/\W.cell? ⟨b,8,none⟩=some (.bool y0)/\W.cell? ⟨b,9,none⟩=some (.bool y1)/\W.cell? ⟨b,10,none⟩=some (.bool y2)/\W.cell? ⟨b,11,none⟩=some (.bool y3)/\W.cell? ⟨b,12,none⟩=some (.bool y4)/\W.cell? ⟨b,13,none⟩=some (.bool y5)/\W.cell? ⟨b,14,none⟩=some (.bool y6)):=hid fun W hb=>by
  have h:=cells_later HKB.out hb
  exact⟨cell_at h 0,cell_at h 1,cell_at h 2,cell_at h 3,cell_at h 4,cell_at h 5,cell_at h 6,cell_at h 7,cell_at h 8,cell_at h 9,cell_at h 10,cell_at h 11,cell_at h 12,cell_at h 13,cell_at h 14⟩
 clear hb2 k2 hb
 have HWL:Hid (whoK x3 7=r.who):=hid (by rw[<-HX.out] at HR;exact HR.out.trans (by rw[<-HX.out]))
 have HBL:Hid (r.ballot=x2):=hid (by rw[<-HX.out];rfl)
 refine wp_region_held_drew (S:=(fun W=>W.cell? ⟨b,0,none⟩=some (.int .i64 x1)/\W.cell? ⟨b,1,none⟩=some (.int .i64 x2)/\W.cell? ⟨b,2,none⟩=some (.bool x4)/\W.cell? ⟨b,3,none⟩=some (.int .i64 x5)/\W.cell? ⟨b,4,none⟩=some (.int .i64 x6)/\W.cell? ⟨b,5,none⟩=some (.int .i64 x7)/\W.cell? ⟨b,6,none⟩=some (.int .i64 x8)/\W.cell? ⟨b,7,none⟩=some (.slice xa x9.length xc)/\W.cell? ⟨b,8,none⟩=some (.bool y0)/\W.cell? ⟨b,9,none⟩=some (.bool y1)/\W.cell? ⟨b,10,none⟩=some (.bool y2)/\W.cell? ⟨b,11,none⟩=some (.bool y3)/\W.cell? ⟨b,12,none⟩=some (.bool y4)/\W.cell? ⟨b,13,none⟩=some (.bool y5)/\W.cell? ⟨b,14,none⟩=some (.bool y6))) (by kernel_rfl) (HKP.out _ (Below.refl _ _).drew) (fun hHeld=>?_)
 obtain⟨V,hV⟩: ∃V,V=W2.drew:=⟨_,rfl⟩
 have HBV:Hid (Below W2.heap.size W2 V):=hid (by rw[hV];exact(Below.refl _ _).drew)
 rw[<-hV] at hHeld ⊢
 clear hV
 refine wpAnyH_take (i:=0) (v:=?_) rfl (by kernel_rfl) (by kernel_rfl) (by kernel_rfl) (fun _ _ _ h=>h) (Or.inl ⟨by rfl,?_⟩) (by assumption) ?_
 rotate_left
 ·intro w hSw;(try dsimp only at hSw);go_simp<;>with_reducible rfl
 try simp only[Act.put,getElem_toArray,getElem_cons_zero,setIfInBounds_toArray,set_cons_zero,set_cons_succ]
 refine wpAnyH_take (i:=1) (v:=?_) rfl (by kernel_rfl) (by kernel_rfl) (by kernel_rfl) (fun _ _ _ h=>h) (Or.inl ⟨by rfl,?_⟩) (by assumption) ?_
 rotate_left
 ·intro w hSw;(try dsimp only at hSw);go_simp<;>with_reducible rfl
 try simp only[Act.put,getElem_toArray,getElem_cons_succ,getElem_cons_zero,setIfInBounds_toArray,set_cons_zero,set_cons_succ]
 refine wpAnyH_take (i:=2) (v:=?_) rfl (by kernel_rfl) (by kernel_rfl) (by kernel_rfl) (fun _ _ _ h=>h) (Or.inl ⟨by rfl,?_⟩) (by assumption) ?_
 rotate_left
 ·intro w hSw;(try dsimp only at hSw);go_simp<;>with_reducible rfl
 try simp only[Act.put,getElem_toArray,getElem_cons_succ,getElem_cons_zero,setIfInBounds_toArray,set_cons_zero,set_cons_succ]
 refine wpAnyH_ready (rs:= [3]) (by kernel_rfl) (by simp) ?_
 refine AllReadyH.cons rfl (fun K hK=>?_) AllReadyH.nil
 go_simp
 go_at_call 37
 refine(CW.out V).mono ?_
 rintro e V' ⟨wa,wc,rfl,ho,hb⟩
 have HRI:=hid (own_lowerX (base':=w.heap.size) ho (step HB2.out HBV.out).size)
 rw[HWL.out] at HRI ⊢
 have HBV:=hid (step HBV.out hb)
 clear hb ho
 refine hK.out _ _ (HKP.out _ HBV.out) (fun hHeld=>?_)
 clear hK K
 try simp only[Act.put,getElem_toArray,getElem_cons_succ,getElem_cons_zero,setIfInBounds_toArray,set_cons_zero,set_cons_succ]
 refine wpAnyH_take (i:=4) (v:=?_) rfl (by kernel_rfl) (by kernel_rfl) (by kernel_rfl) (fun _ _ _ h=>h) (Or.inl ⟨by rfl,?_⟩) (by assumption) ?_
 rotate_left
 ·intro w hSw;(try dsimp only at hSw);go_simp<;>with_reducible rfl
 try simp only[Act.put,getElem_toArray,getElem_cons_succ,getElem_cons_zero,setIfInBounds_toArray,set_cons_zero,set_cons_succ]
 refine wpAnyH_take (i:=5) (v:=?_) rfl (by kernel_rfl) (by kernel_rfl) (by kernel_rfl) (fun _ _ _ h=>h) (Or.inl ⟨by rfl,?_⟩) (by assumption) ?_
 rotate_left
 ·intro w hSw;(try dsimp only at hSw);go_simp<;>with_reducible rfl
 try simp only[Act.put,getElem_toArray,getElem_cons_succ,getElem_cons_zero,setIfInBounds_toArray,set_cons_zero,set_cons_succ]
 refine wpAnyH_done (by kernel_rfl) ?_ _
 go_wp2_with fail
 go_ret2
 exact⟨wa,wc,by rw[HBL.out];rfl,HRI.out,step HB2.out HBV.out⟩
theorem Heard_anyO (g m:Nat) (s:LrnV) (t:Int) (w:World) (h:HasD w g m s) (hs:GoodN s) (ht: -9223372036854775808<=t):Calls Try.prog 18 #[.pointer (some ⟨g,0,none⟩),.int .i64 t] w (TellsHO (heardF s t) w):=by
 have CF:=Find_any g m s t w h hs ht
 have e:heardF s t=((findP s t).ballot,(findP s t).who):=by
  unfold heardF findP
  cases at_ s.l t<;>rfl
 rw[e]
 refine Heard_of _ t m _ w CF ?_
 unfold findP
 cases q:at_ s.l t with
 | none=>rfl
 | some y=>exact whoK_all (hs.all y (at_mem q).1).who hs.n7
theorem Heard_any (g m:Nat) (s:LrnV) (t:Int) (w:World) (h:HasD w g m s) (hs:GoodN s) (ht: -9223372036854775808<=t):Calls Try.prog 18 #[.pointer (some ⟨g,0,none⟩),.int .i64 t] w (TellsH (heardF s t) w):=(Heard_anyO g m s t w h hs ht).mono fun _ _ h=>h.h
theorem Heard_nil (t:Int) (w:World):Calls Try.prog 18 #[.pointer none,.int .i64 t] w (TellsH (0,[]) w):=(Heard_of _ t 0 zeroPl w (Find_nil t w) rfl).mono fun _ _ h=>h.h
set_option maxHeartbeats 4000000 in
theorem IsChosen_nil (t:Int) (w:World):Calls Try.prog 29 #[.pointer none,.int .i64 t] w (SaysB false w):=by
 have CF:=hid (Find_nil t w)
 go_enter Try.func29,Try.ntmps29
 go_upto_region 2 with (go_at_call 36;refine CF.out.mono ?_;rintro e w1 ⟨⟨x1,x2,x3,⟨x4,x5,x6,x7,x8,x9⟩,xa,xc⟩,rfl,hx,hox,hb⟩;have HB1:=hid hb;have HX:=hid hx;have HOX:=hid hox;clear hx hox hb;unfold votVal VotC.u;dsimp only;obtain⟨y0,hy0⟩: ∃y,y=inW x3 0:=⟨_,rfl⟩;obtain⟨y1,hy1⟩: ∃y,y=inW x3 1:=⟨_,rfl⟩;obtain⟨y2,hy2⟩: ∃y,y=inW x3 2:=⟨_,rfl⟩;obtain⟨y3,hy3⟩: ∃y,y=inW x3 3:=⟨_,rfl⟩;obtain⟨y4,hy4⟩: ∃y,y=inW x3 4:=⟨_,rfl⟩;obtain⟨y5,hy5⟩: ∃y,y=inW x3 5:=⟨_,rfl⟩;obtain⟨y6,hy6⟩: ∃y,y=inW x3 6:=⟨_,rfl⟩;rw[<-hy0,<-hy1,<-hy2,<-hy3,<-hy4,<-hy5,<-hy6];have HY:Hid (y0=inW x3 0/\y1=inW x3 1/\y2=inW x3 2/\y3=inW x3 3/\y4=inW x3 4/\y5=inW x3 5/\y6=inW x3 6):=hid ⟨hy0,hy1,hy2,hy3,hy4,hy5,hy6⟩;clear hy0 hy1 hy2 hy3 hy4 hy5 hy6)
 have hb2:=newAlloc w1 (.cells #[.int .i64 x1,.int .i64 x2,.bool x4,.int .i64 x5,.int .i64 x6,.int .i64 x7,.int .i64 x8,.slice xa x9.length xc,.bool y0,.bool y1,.bool y2,.bool y3,.bool y4,.bool y5,.bool y6] 60)
 have k2:=alloc_atB w1 (.cells #[.int .i64 x1,.int .i64 x2,.bool x4,.int .i64 x5,.int .i64 x6,.int .i64 x7,.int .i64 x8,.slice xa x9.length xc,.bool y0,.bool y1,.bool y2,.bool y3,.bool y4,.bool y5,.bool y6] 60) _ rfl
 obtain⟨W2,hW2⟩: ∃W2,W2=w1.alloc (.cells #[.int .i64 x1,.int .i64 x2,.bool x4,.int .i64 x5,.int .i64 x6,.int .i64 x7,.int .i64 x8,.slice xa x9.length xc,.bool y0,.bool y1,.bool y2,.bool y3,.bool y4,.bool y5,.bool y6] 60):=⟨_,rfl⟩
 rw[<-hW2] at hb2 k2 ⊢
 clear hW2
 have HB2:=hid (step HB1.out hb2)
 obtain⟨b,hb⟩: ∃b,w1.heap.size=b:=⟨_,rfl⟩
 rw[hb] at k2 ⊢
 have c0:=cell_at k2 0
 simp at c0
 have hx1:x1=0:=congrArg PlV.slot HX.out
 subst hx1
 have d0:decide ((0:Int)<0)=false:=by decide
 clear hb2 k2 hb CF
 go_quiet (fail)
 go_wp2
 go_ret
 exact⟨rfl,below_drewB HB2.out nq⟩
set_option maxHeartbeats 4000000 in
theorem Chosen_nil (t:Int) (w:World):Calls Try.prog 16 #[.pointer none,.int .i64 t] w (TellsC (zeroB,false) w):=by
 have hz:=alloc_atB w (.cells #[.bool false,.int .i64 0,.int .i64 0,.int .i64 0,.int .i64 0,.slice none 0 0] 38) _ rfl
 have hb:=newAlloc w (.cells #[.bool false,.int .i64 0,.int .i64 0,.int .i64 0,.int .i64 0,.slice none 0 0] 38)
 obtain⟨W1,hW1⟩: ∃W1,W1=w.alloc (.cells #[.bool false,.int .i64 0,.int .i64 0,.int .i64 0,.int .i64 0,.slice none 0 0] 38):=⟨_,rfl⟩
 rw[<-hW1] at hz hb
 have HB:=hid hb
 have HZ:=hid hz
 have CC:=hid (IsChosen_nil t W1)
 clear hz hb
 go_enter Try.func16,Try.ntmps16
 go_upto_region 1 with fail
 rw[<-hW1]
 clear hW1
 go_wp2_with (go_at_call 29;refine CC.out.mono ?_;rintro e w2 ⟨rfl,hb⟩;have HB2:=hid (step HB.out hb);have hz2:=cells_later HZ.out hb;have z0:=cell_at hz2 0;have z1:=cell_at hz2 1;have z2:=cell_at hz2 2;have z3:=cell_at hz2 3;have z4:=cell_at hz2 4;have z5:=cell_at hz2 5;have zf:=frozen_at hz2;simp at z0 z1 z2 z3 z4 z5;clear hz2;clear hb)
 refine bodyPost_ret (by simp [results,Try.results16,go_sem,z0,z1,z2,z3,z4,z5]<;>rfl) rfl ⟨.slice none 0 0,rfl,RdX.nil _,((((((HB2.out.setCell (p:=⟨w.heap.size,0,none⟩) (Nat.le_refl _) _).setCell (p:=⟨w.heap.size,1,none⟩) (Nat.le_refl _) _).setCell (p:=⟨w.heap.size,2,none⟩) (Nat.le_refl _) _).setCell (p:=⟨w.heap.size,3,none⟩) (Nat.le_refl _) _).setCell (p:=⟨w.heap.size,4,none⟩) (Nat.le_refl _) _).setCell (p:=⟨w.heap.size,5,none⟩) (Nat.le_refl _) _)⟩
set_option maxHeartbeats 4000000 in
theorem Chosen_no (g m:Nat) (s:LrnV) (t:Int) (w:World) (h:HasD w g m s) (hs:GoodN s) (ht: -9223372036854775808<=t) (hc:chosenB s t=false):Calls Try.prog 16 #[.pointer (some ⟨g,0,none⟩),.int .i64 t] w (TellsC (zeroB,false) w):=by
 have hz:=alloc_atB w (.cells #[.bool false,.int .i64 0,.int .i64 0,.int .i64 0,.int .i64 0,.slice none 0 0] 38) _ rfl
 have hb:=newAlloc w (.cells #[.bool false,.int .i64 0,.int .i64 0,.int .i64 0,.int .i64 0,.slice none 0 0] 38)
 obtain⟨W1,hW1⟩: ∃W1,W1=w.alloc (.cells #[.bool false,.int .i64 0,.int .i64 0,.int .i64 0,.int .i64 0,.slice none 0 0] 38):=⟨_,rfl⟩
 rw[<-hW1] at hz hb
 have HB:=hid hb
 have HZ:=hid hz
 have CC:=hid (IsChosen_any g m s t W1 (h.later hb) hs ht)
 rw[hc] at CC
 clear h hs ht hc
 clear hz hb
 go_enter Try.func16,Try.ntmps16
 go_upto_region 1 with fail
 rw[<-hW1]
 clear hW1
 go_wp2_with (go_at_call 29;refine CC.out.mono ?_;rintro e w2 ⟨rfl,hb⟩;have HB2:=hid (step HB.out hb);have hz2:=cells_later HZ.out hb;have z0:=cell_at hz2 0;have z1:=cell_at hz2 1;have z2:=cell_at hz2 2;have z3:=cell_at hz2 3;have z4:=cell_at hz2 4;have z5:=cell_at hz2 5;have zf:=frozen_at hz2;simp at z0 z1 z2 z3 z4 z5;clear hz2;clear hb)
 refine bodyPost_ret (by simp [results,Try.results16,go_sem,z0,z1,z2,z3,z4,z5]<;>rfl) rfl ⟨.slice none 0 0,rfl,RdX.nil _,((((((HB2.out.setCell (p:=⟨w.heap.size,0,none⟩) (Nat.le_refl _) _).setCell (p:=⟨w.heap.size,1,none⟩) (Nat.le_refl _) _).setCell (p:=⟨w.heap.size,2,none⟩) (Nat.le_refl _) _).setCell (p:=⟨w.heap.size,3,none⟩) (Nat.le_refl _) _).setCell (p:=⟨w.heap.size,4,none⟩) (Nat.le_refl _) _).setCell (p:=⟨w.heap.size,5,none⟩) (Nat.le_refl _) _)⟩
set_option maxHeartbeats 4000000 in
theorem Chosen_yes (g m:Nat) (s:LrnV) (t:Int) (x:SlotV) (w:World) (h:HasD w g m s) (hs:GoodN s) (ht: -9223372036854775808<=t) (hx:at_ s.l t=some x) (hc:x.chosen=true):Calls Try.prog 16 #[.pointer (some ⟨g,0,none⟩),.int .i64 t] w (TellsC (x.bat,true) w):=by
 have hz:=alloc_atB w (.cells #[.bool false,.int .i64 0,.int .i64 0,.int .i64 0,.int .i64 0,.slice none 0 0] 38) _ rfl
 have hb:=newAlloc w (.cells #[.bool false,.int .i64 0,.int .i64 0,.int .i64 0,.int .i64 0,.slice none 0 0] 38)
 obtain⟨W1,hW1⟩: ∃W1,W1=w.alloc (.cells #[.bool false,.int .i64 0,.int .i64 0,.int .i64 0,.int .i64 0,.slice none 0 0] 38):=⟨_,rfl⟩
 rw[<-hW1] at hz hb
 have HB:=hid hb
 have HZ:=hid hz
 have CC:=hid (IsChosen_any g m s t W1 (h.later hb) hs ht)
 rw[show chosenB s t=true by unfold chosenB;rw[hx];exact hc] at CC
 have HH1:=hid (h.later hb)
 have CF:=hid (fun W h=>Find_any g m s t W h hs ht)
 rw[show findP s t=plOf x by unfold findP;rw[hx]] at CF
 have HL3:Hid (x.bat.reqs.length<=1000):=hid (by have:=mayB_lenL (hs.all x (at_mem hx).1).may;omega)
 clear h hs ht hx hc
 clear hz hb
 go_enter Try.func16,Try.ntmps16
 go_upto_region 1 with fail
 rw[<-hW1]
 clear hW1
 go_wp2_with (first
  | (go_at_call 29;refine CC.out.mono ?_;rintro e w2 ⟨rfl,hb⟩;have HB2:=hid (step HB.out hb);have HK2:=hid (cells_later HZ.out hb);have HH2:=hid (HH1.out.later hb);clear hb)
  | (go_at_call 36;refine(CF.out _ HH2.out).mono ?_;rintro e w3 ⟨⟨x1,x2,x3,⟨x4,x5,x6,x7,x8,x9⟩,xa,xc⟩,rfl,hx,hox,hb⟩;have HB3:=hid (step HB2.out hb);have HK3:=hid (cells_later HK2.out hb);have HX:Hid ((⟨x4,x5,x6,x7,x8,x9⟩:BatV)=x.bat):=hid (congrArg PlV.bat hx);have HR3:Hid (RdR w3 (.slice xa x9.length xc) x9):=hid hox.rd;clear hb hx hox;unfold votVal VotC.u;dsimp only;have hfl:=field_bat (.int .i64 x1) (.int .i64 x2) (.bool x4) (.int .i64 x5) (.int .i64 x6) (.int .i64 x7) (.int .i64 x8) (.slice xa x9.length xc) (.bool (inW x3 0)) (.bool (inW x3 1)) (.bool (inW x3 2)) (.bool (inW x3 3)) (.bool (inW x3 4)) (.bool (inW x3 5)) (.bool (inW x3 6)) w3;have CP:=hid (CopyL_any ⟨x4,x5,x6,x7,x8,x9⟩ (.slice xa x9.length xc) w3 HR3.out (by rw[HX.out];exact HL3.out));unfold batVal at CP;dsimp only at CP)
  | (go_at_call 30;refine CP.out.mono ?_;rintro e w4 ⟨ya,yc,rfl,ho,hb⟩;have HB4:=hid (step HB3.out hb);have HR4:=hid (RdX.own cellsR_length ho);have HO4:=hid ho;have hz2:=cells_later HK3.out hb;have z0:=cell_at hz2 0;have z1:=cell_at hz2 1;have z2:=cell_at hz2 2;have z3:=cell_at hz2 3;have z4:=cell_at hz2 4;have z5:=cell_at hz2 5;have zf:=frozen_at hz2;simp at z0 z1 z2 z3 z4 z5;clear hz2 hb ho;unfold batVal;dsimp only))
 refine bodyPost_ret (by simp [results,Try.results16,go_sem,z0,z1,z2,z3,z4,z5]<;>rfl) rfl ⟨.slice ya x9.length yc,by rw[<-HX.out];rfl,?_,((((((HB4.out.setCell (p:=⟨w.heap.size,0,none⟩) (Nat.le_refl _) _).setCell (p:=⟨w.heap.size,1,none⟩) (Nat.le_refl _) _).setCell (p:=⟨w.heap.size,2,none⟩) (Nat.le_refl _) _).setCell (p:=⟨w.heap.size,3,none⟩) (Nat.le_refl _) _).setCell (p:=⟨w.heap.size,4,none⟩) (Nat.le_refl _) _).setCell (p:=⟨w.heap.size,5,none⟩) (Nat.le_refl _) _)⟩
 rw[<-HX.out]
 refine RdX.own cellsR_length (Rw.own_keep HO4.out fun k hk=>?_)
 have hk1:=(Rw.own_lt HO4.out k hk).1
 have hk2:=get_ltB HK3.out
 have key: ∀(W:World) (g j:Nat) (u:Value),k≠g->(W.setCell ⟨g,j,none⟩ u).heap[k]?=W.heap[k]?:=fun W g j u hne=>Below.heap_setCell _ _ _ _ hne
 have n1:k≠w.heap.size:=by omega
 rw[key _ _ _ _ n1,key _ _ _ _ n1,key _ _ _ _ n1,key _ _ _ _ n1,key _ _ _ _ n1,key _ _ _ _ n1]
theorem Chosen_any (g m:Nat) (s:LrnV) (t:Int) (w:World) (h:HasD w g m s) (hs:GoodN s) (ht: -9223372036854775808<=t):Calls Try.prog 16 #[.pointer (some ⟨g,0,none⟩),.int .i64 t] w (TellsC (chosenF s t) w):=by
 unfold chosenF
 cases q:at_ s.l t with
 | none=>exact Chosen_no g m s t w h hs ht (by unfold chosenB;rw[q])
 | some x=>
  cases c:x.chosen with
  | false=>
   dsimp only
   rw[c]
   exact Chosen_no g m s t w h hs ht (by unfold chosenB;rw[q];exact c)
  | true=>
   dsimp only
   rw[c]
   exact Chosen_yes g m s t x w h hs ht q c
end Ln
end Go.Proofs.Ytbcnednhfmchpaa
