/- Texts laid together by program. -/
import Derived.Test.YtclcgkpfcogcdaaGreatQ27
/- Contracts: package lock's Free. -/
set_option linter.unusedVariables false
set_option maxRecDepth 8000
set_option linter.unusedSimpArgs false
namespace Go.Proofs.YtclcgkpfcogcdaaGreat
open Lib (hid)
open Go.RowKit Go.Shelf
namespace Cm

theorem free_hit (L:List LockC) (n:List UInt8) (c t:Int) (k:Nat) (hk:k<L.length) (hi:idxI (isNm n) (vals L)=(k:Int)):
  freeK (vals L) n c t=if L[k].holder =c then ((vals L).take k++((passL L[k].val t).1++(vals L).drop (k+1)),(passL L[k].val t).2,0) else
   if hasL L[k].line c=false then ([],0,6) else ((vals L).set k ⟨L[k].name,L[k].holder,L[k].token,withoutL L[k].line [c]⟩,0,0):=by
 unfold freeK
 rw[hi,if_neg (by omega),getK_at L k hk,Int.toNat_natCast,aheadL_has]
 show(if L[k].holder ≠c then (if hasL L[k].line c=false then ([],0,6) else ((vals L).set k ⟨L[k].name,L[k].holder,L[k].token,withoutL L[k].line [c]⟩,0,0)) else if L[k].line = [] then _ else _)= _
 by_cases e:L[k].holder =c
 ·rw[if_neg (by simpa using e),if_pos e]
  unfold passL
  by_cases e2:L[k].line = []
  ·rw[if_pos e2,if_pos (show L[k].val.line = [] from e2)]
   rfl
  ·rw[if_neg e2,if_neg (show ¬L[k].val.line = [] from e2)]
   simp only
   rw[set_split _ _ (by rw[vals_length];exact hk)]
 ·rw[if_pos e,if_neg e]
set_option maxHeartbeats 4000000 in
theorem LckFree_any (v:Value) (L:List LockC) (n:List UInt8) (c t:Int) (w:World) (h:RdK w v L) (hg:Good (vals L) t) (hn:nameF n=true) (hc:clientF c=true) (ht:t<2305843009213694000):
  Calls Tryz.prog 168 #[v,.string (bstr n),.int .i64 c,.int .i64 t] w (GetsT (freeK (vals L) n c t) w):=by
 obtain⟨s1,s2⟩:=good_small hg
 have h5:L.length<=1000:=by omega
 have h6: ∀x∈L,x.line.length<=1000:=fun x hx=>by have:=s2 x hx;omega
 have hp:=hg.pos
 have hm:=h.len
 have KI:=hid (indexOfK_any v L n w h.row)
 rcases idx_two (vals L) n with hi | ⟨k,hk,hi⟩
 ·have e:freeK (vals L) n c t=([],0,6):=by unfold freeK;rw[hi,if_pos (by omega)]
  rw[e]
  rw[hi] at KI
  clear e hi
  obtain⟨a,cap,rfl⟩:=h.form
  clear h h6 s2 hg
  generalize L.length=N at*
  go_enter Tryz.func168,Tryz.ntmps168
  go_wp2_with (go_at_call 201;refine KI.out.mono ?_;rintro e w2 ⟨rfl,hb2⟩)
  refine bodyPost_ret (by simp [results,Tryz.results168,go_sem]<;>rfl) rfl ?_
  exact GetsT.empty rfl hb2
 ·have hk':k<L.length:=by rw[vals_length] at hk;exact hk
  rw[free_hit L n c t k hk' hi]
  rw[hi] at KI
  have hxl:RdI w L[k].lv L[k].line :=h.line _ (List.getElem_mem hk')
  have hxn:=h6 _ (List.getElem_mem hk')
  have KR:Hid (∀(w':World) (u:Value) (Y:List LockC),Below w.heap.size w w'->RdX 4 cellsK w' u Y->(∀y∈Y,NewI w.heap.size w' y.lv y.line)->Y.length<=1000->Calls Tryz.prog 204 #[v,.int .i64 (k:Int),u] w' (MadeT w.heap.size ((vals L).take k++(vals Y++(vals L).drop (k+1))) w')):=hid fun w' u Y hb hu hy hl=>replaced_any w.heap.size v u L Y k w' hk' (h.later hb) h5 h6 hu hl hy hb.size
  have KP:Hid (∀w',Below w.heap.size w w'->Calls Tryz.prog 178 #[lockVal L[k],.int .i64 t] w' (Passed (passL L[k].val t) w')):=hid fun w' hb=>pass_any L[k] t w' (hxl.later hb) hxn ⟨hp,by omega⟩
  have KL:Hid (∀w',Below w.heap.size w w'->Calls Tryz.prog 205 #[L[k].lv,.int .i64 c] w' (GetsL (leaveL L[k].line c) w')):=hid fun w' hb=>LineLeave_any _ _ c w' (hxl.later hb) hxn
  have hpl: ∀Y:List LockC,vals Y=(passL L[k].val t).1->Y.length<=1000:=fun Y hY=>by
   rw[<-vals_length Y,hY]
   unfold passL
   split<;>simp
  have HPL:=hid hpl
  obtain⟨a,cap,rfl⟩:=h.form
  obtain⟨b,o,rfl,hcell⟩:=rdk_at h.row k hk'
  have HQ:=hid hcell
  have HSP:=hid (set_split (vals L) k hk)
  clear h h6 s2 hg hcell hi hk hxl hpl
  generalize passL L[k].val t=R at KP HPL ⊢
  obtain⟨R1,R2⟩:=R
  unfold leaveL GetsL at KL
  unfold Passed at KP
  unfold lockVal at KP
  generalize L[k]=x at HQ KP KL hxn ⊢
  obtain⟨xn,xh,xt,xl,xa,xc⟩:=x
  unfold LockC.lv at HQ KP KL
  dsimp only at HQ KP KL hxn HPL ⊢
  generalize vals L=V at*
  generalize L.length=N at*
  have f1:(0:Int)<=(k:Int):=by omega
  have f2:(k:Int)<(N:Int):=by omega
  have f3:decide ((k:Int)<0)=false:=by simp
  by_cases e1:xh=c
  ·rw[if_pos e1]
   have d1:(xh==c)=true:=by simpa using e1
   clear e1 KL HSP
   generalize xl.length=XN at*
   go_enter Tryz.func168,Tryz.ntmps168
   go_wp2_with (first
    | (go_at_call 201;refine KI.out.mono ?_;rintro e w2 ⟨rfl,hb2⟩;have HB2:=hid hb2;obtain⟨y0,y1,y2,y3⟩:=HQ.out w2 hb2;clear hb2)
    | (go_at_call 178;refine(KP.out _ HB2.out).mono ?_;rintro e w3 ⟨u3,n3,c3,Y3,rfl,hv3,hr3,hl3,hb3⟩;have HR3:=hid hr3;have HL3:=hid (fun y hy=>(hl3 y hy).lower HB2.out.size);have HV3:=hid hv3;have HB3:=hid (step HB2.out hb3);clear hr3 hl3 hv3 hb3)
    | (go_at_call 204;refine(KR.out _ _ Y3 HB3.out HR3.out HL3.out (HPL.out _ HV3.out)).mono ?_;rintro e w5 ⟨v5,M5,rfl,hm5,ho5,hb5⟩))
   refine bodyPost_ret (by simp [results,Tryz.results168,go_sem]<;>rfl) rfl ?_
   rw[HV3.out] at hm5
   exact⟨v5,M5,rfl,hm5,ho5,step HB3.out hb5⟩
  rw[if_neg e1]
  have d1:(xh==c)=false:=by simpa using e1
  clear e1 KP HPL
  cases hh:hasL xl c with
  | false=>
   rw[if_pos rfl]
   rw[hh] at KL
   clear KR HSP hh
   generalize xl.length=XN at*
   go_enter Tryz.func168,Tryz.ntmps168
   go_wp2_with (first
    | (go_at_call 201;refine KI.out.mono ?_;rintro e w2 ⟨rfl,hb2⟩;have HB2:=hid hb2;obtain⟨y0,y1,y2,y3⟩:=HQ.out w2 hb2;clear hb2)
    | (go_at_call 205;refine(KL.out _ HB2.out).mono ?_;rintro e w3 ⟨v3,rfl,ho3,hb3⟩;have HB3:=hid (step HB2.out hb3);clear hb3))
   refine bodyPost_ret (by simp [results,Tryz.results168,go_sem]<;>rfl) rfl ?_
   exact GetsT.empty rfl HB3.out
  | true=>
   rw[if_neg (by simp)]
   rw[hh] at KL
   clear hh
   generalize withoutL xl [c]=WL at*
   generalize xl.length=XN at*
   go_enter Tryz.func168,Tryz.ntmps168
   go_wp2_with (first
    | (go_at_call 201;refine KI.out.mono ?_;rintro e w2 ⟨rfl,hb2⟩;have HB2:=hid hb2;obtain⟨y0,y1,y2,y3⟩:=HQ.out w2 hb2;clear hb2)
    | (go_at_call 205;refine(KL.out _ HB2.out).mono ?_;rintro e w3 ⟨v3,rfl,ho3,hb3⟩;have HO3:=hid ho3;obtain⟨a3,c3,rfl⟩:=Rw.own_form HO3.out;have HB3:=hid (step HB2.out hb3);obtain⟨z0,z1,z2,z3⟩:=HQ.out w3 HB3.out;clear ho3 hb3)
    | (go_at_call 176;refine(withLine_any xn xh xt _ _ _ _ _ _ _).mono ?_;rintro e w4 ⟨rfl,hb4⟩;have HO4:=hid (Rw.own_below HO3.out hb4);have HB4:=hid (step HB3.out hb4);clear hb4)
    | (go_at_call 204;refine(KR.out _ _ [(⟨xn,xh,xt,WL,a3,c3⟩:LockC)] (stepAlloc HB4.out _) (RdX.one (heap_alloc_new w4 _) rfl) (fun y hy=>by rw[List.mem_singleton] at hy;subst hy;exact((NewI.own HO4.out).lower HB2.out.size).later (newAlloc w4 _)) (by simp)).mono ?_;rintro e w5 ⟨v5,M5,rfl,hm5,ho5,hb5⟩))
   refine bodyPost_ret (by simp [results,Tryz.results168,go_sem]<;>rfl) rfl ?_
   exact⟨v5,M5,rfl,hm5.trans (HSP.out _),ho5,step (stepAlloc HB4.out _) hb5⟩
end Cm
end Go.Proofs.YtclcgkpfcogcdaaGreat

/- Contracts: package lock's Find, Held. -/
set_option linter.unusedVariables false
set_option maxRecDepth 8000
set_option linter.unusedSimpArgs false
namespace Go.Proofs.YtclcgkpfcogcdaaGreat
open Lib (hid)
open Go.RowKit Go.Shelf
namespace Cm


set_option maxHeartbeats 4000000 in
theorem LckHeld_own (v:Value) (L:List LockC) (c:Int) (w:World) (t:Int) (h:RdK w v L) (hg:Good (vals L) t) (hc:clientF c=true):Calls Tryz.prog 165 #[v,.int .i64 c] w (fun e w'=> ∃a cap,e= .returned (.slice a (heldK (vals L) c).length cap)/\w'.ownsRow w.heap.size 57 2 (.slice a (heldK (vals L) c).length cap) (heldK (vals L) c).length (flatX cellsG (heldK (vals L) c))/\Below w.heap.size w w'):=by
 have h5:L.length<=1000:=by have:=(good_small hg).1;omega
 have hm:=h.len
 obtain⟨a,cap,rfl⟩:=h.form
 have HA:=hid (fun i hi=>rdk_at h.row i hi)
 obtain⟨N,hN⟩: ∃N,L.length=N:=⟨_,rfl⟩
 have HD:Hid (∀j (hj:j<L.length),heldK ((vals L).take (j+1)) c=heldK ((vals L).take j) c++if L[j].holder =c then [⟨L[j].name,L[j].token⟩] else []):=hid fun j hj=>by
  have:=heldK_drop (vals L) c j (by rw[vals_length];exact hj)
  rw[vals_get L j hj] at this
  exact this
 have HLE:Hid (∀j,j<=N->(heldK ((vals L).take j) c).length <=1000):=hid fun j hj=>by
  have:=heldK_length ((vals L).take j) c
  rw[List.length_take,vals_length] at this
  omega
 have HALL:Hid (heldK ((vals L).take N) c=heldK (vals L) c):=hid (by rw[List.take_of_length_le (by rw[vals_length];omega)])
 rw[hN] at hm h5 ⊢
 clear h hg hc
 obtain⟨i0,hi,hz0,hz1,hz2⟩:=info_parts infoG8
 go_enter Tryz.func165,Tryz.ntmps165
 go_wp2
 go_loopw [5,10] (fun m i wr=> ∃(k:Nat) (M:List GrantV),k<=N/\i= .int .i64 k/\M.length<=1000/\Hid (M=heldK ((vals L).take k) c)/\Hid (wr.ownsRow w.heap.size 57 2 m M.length (flatX cellsG M))/\Hid (Below w.heap.size w wr)) (fun _ i _=>N - (intOf i).toNat)
 case atStart=>exact⟨0,[],by omega,rfl,by simp,hid rfl,hid (World.ownsRow_nil _ _ _ _),hid (Below.refl _ _)⟩
 case round=>
  obtain⟨k,M,hk,rfl,hMl,HM,HO,HB⟩:=hrel
  by_cases hlt:k<N
  ·have hkl:k<L.length:=by omega
   obtain⟨b,o,rfl,hc⟩:=HA.out k hkl
   obtain⟨q0,q1,q2,q3⟩:=hc _ HB.out
   have hd:=HD.out k hkl
   have hle:=HLE.out (k+1) (by omega)
   clear hc HA HD HLE
   generalize L[k]=x at q0 q1 q2 q3 hd
   obtain⟨xn,xh,xt,xl,xa,xc⟩:=x
   unfold LockC.lv at q3
   dsimp only at q0 q1 q2 q3 hd
   have f1:(0:Int)<=(k:Int):=by omega
   have f2:(k:Int)<(N:Int):=by omega
   obtain⟨W1,hW1⟩: ∃W1,W1=wr.alloc (.cells #[.string (bstr xn),.int .i64 xh,.int .i64 xt,.slice xa xl.length xc] 60):=⟨_,rfl⟩
   have HB1:Hid (Below w.heap.size w W1):=hid (by rw[hW1];exact step HB.out (newAlloc _ _))
   have HO1:Hid (W1.ownsRow w.heap.size 57 2 u5 M.length (flatX cellsG M)):=hid (by rw[hW1];exact Rw.own_alloc HO.out _)
   obtain⟨z0,z1,z2,z3⟩:=box4 (Below.refl _ (wr.alloc (.cells #[.string (bstr xn),.int .i64 xh,.int .i64 xt,.slice xa xl.length xc] 60)))
   rw[<-hW1] at z0 z1 z2 z3
   have HWW:=hid hW1
   clear hW1
   generalize xl.length=XN at*
   by_cases e1:xh=c
   ·have d1:(xh==c)=true:=by simpa using e1
    rw[if_pos e1,<-HM.out] at hd
    rw[hd,List.length_append,List.length_singleton] at hle
    have H:=hid hd
    have HLE:=hid hle
    have hle2:=hle
    clear hd e1 hle
    go_upto_region 5 with fail
    rw[<-HWW.out]
    clear HWW q0 q1 q2 q3
    go_wp2_with (at_builtin;refine wpList_append_one cellsG_length (by omega) rfl (.tmp 18) (.tmp 24) 34 rfl 57 i0 _ 24 Tryz.underlying34 hi hz0 hz1 hz2 rfl #[.string (bstr xn),.int .i64 xt] ⟨xn,xt⟩ rfl (cellsG_one _) M w.heap.size w.heap.size w _ rfl rfl HO1.out (by unfold maxLen;omega) (by omega) HB1.out.size HB1.out (Nat.le_refl _) ?_;intro v5 w5 ho5 hb5 _;have HO5:=hid ho5;have HB5:=hid hb5;clear ho5 hb5)
    go_roundw
    case rel=>exact⟨k+1,M++ [⟨xn,xt⟩],by omega,by go_num,by simpa using HLE.out,hid H.out.symm,HO5,HB5⟩
    case measure=>simp [intOf];omega
   ·have d1:(xh==c)=false:=by simpa using e1
    rw[if_neg e1,List.append_nil,<-HM.out] at hd
    have H:=hid hd
    clear hd e1 hle
    go_upto_region 5 with fail
    rw[<-HWW.out]
    clear HWW q0 q1 q2 q3
    go_wp2
    go_roundw
    case rel=>exact⟨k+1,M,by omega,by go_num,hMl,hid H.out.symm,HO1,HB1⟩
    case measure=>simp [intOf];omega
  ·obtain rfl:k=N:=by omega
   have hM:=HM.out
   rw[HALL.out] at hM
   have H:=hid hM
   clear hM
   obtain⟨ua,uc,rfl⟩:=Rw.own_form HO.out
   clear HM
   go_wp2
   go_ret
   rw[<-H.out]
   exact⟨_,_,rfl,HO.out,HB.out⟩
end Cm
end Go.Proofs.YtclcgkpfcogcdaaGreat

/- Contracts: package lock's Drop. -/
set_option linter.unusedVariables false
set_option maxRecDepth 8000
set_option linter.unusedSimpArgs false
namespace Go.Proofs.YtclcgkpfcogcdaaGreat
open Lib (hid)
open Go.RowKit Go.Shelf
namespace Cm

theorem drop_step (G:List Int) (l:List LockV) (t:Int) (j:Nat) (h:j<l.length):dropK G (l.take (j+1)) t=
  if hasL G l[j].holder =false then ((dropK G (l.take j) t).1++ [leftK G l[j]],(dropK G (l.take j) t).2) else
   ((dropK G (l.take j) t).1++(passL (leftK G l[j]) (t+(dropK G (l.take j) t).2)).1,(dropK G (l.take j) t).2+(passL (leftK G l[j]) (t+(dropK G (l.take j) t).2)).2):=by
 rw[List.take_succ_eq_append_getElem h,dropK_snoc]
 unfold passL
 split
 ·rfl
 ·split
  ·simp
  ·rfl
theorem NewI.other {base b1 s n:Nat} {w w':World} {u v:Value} {l:List Int} {xs:List Value} (h:NewI base w u l) (hr:w.ownsRow b1 60 s v n xs) (hg:w.grownBy w' v.ownBlock):NewI base w' u l:=by
 refine h.keep fun g' hg'=>?_
 obtain⟨h1,cs,h2⟩:=h.2 g' hg'
 refine hg.block g' (Array.getElem?_eq_some_iff.1 h2).1 fun q=>?_
 rcases hr.2 with ⟨rfl,_⟩ | ⟨g1,cap1,cur,rfl,_,q2,_⟩
 ·cases q
 ·have e:g'=g1:=by simpa [Value.ownBlock] using q
  subst e
  rw[h2] at q2
  injection q2 with q2
  injection q2 with _ q2
  exact absurd q2 (by decide)
theorem OwnN.push {base:Nat} {w3 w6:World} {m v':Value} {M Y:List LockC} (h:OwnN base w3 m M) (hY: ∀y∈Y,NewI base w3 y.lv y.line) (hg:w3.grownBy w6 m.ownBlock)
  (ho:w6.ownsRow base 60 4 v' (M.length+Y.length) (flatX cellsK M++flatX cellsK Y)):OwnN base w6 v' (M++Y):=by
 refine⟨by rw[List.length_append,flatX_append];exact ho,fun x hx=>?_⟩
 rcases List.mem_append.1 hx with q | q
 ·exact(h.line x q).other h.row hg
 ·exact(hY x q).other h.row hg
set_option maxHeartbeats 8000000 in
theorem LckDrop_any (v u:Value) (L:List LockC) (G:List Int) (t:Int) (w:World) (h:RdK w v L) (hg:Good (vals L) t) (hG:RdI w u G) (h8:G.length<=1000) (ht:t<2305843009213694000):
  Calls Tryz.prog 131 #[v,u,.int .i64 t] w (GetsD (dropK G (vals L) t) w):=by
 obtain⟨s1,s2⟩:=good_small hg
 have h5:L.length<=1000:=by omega
 have hp:=hg.pos
 have hm:=h.len
 obtain⟨a,cap,rfl⟩:=h.form
 have HA:=hid (fun i hi=>rdk_at h.row i hi)
 have HW:Hid (∀i (hi:i<L.length) (w':World),Below w.heap.size w w'->Calls Tryz.prog 177 #[L[i].lv,u] w' (GetsN (withoutL L[i].line G) w')):=hid fun i hi w' hb=>LineWithout_any _ _ _ _ w' ((h.line _ (List.getElem_mem hi)).later hb) (hG.later hb) (by have:=s2 _ (List.getElem_mem hi);omega)
 have HWL:Hid (∀i (hi:i<L.length),(withoutL L[i].line G).length <=1000):=hid fun i hi=>by
  have h1:=without_le L[i].line G
  have h2:=s2 _ (List.getElem_mem hi)
  omega
 have HG:Hid (∀w',Below w.heap.size w w'-> ∀c,Calls Tryz.prog 132 #[u,.int .i64 c] w' (Says (hasL G c) w')):=hid fun w' hb c=>Contains_num u G c w' (hG.later hb)
 have HV:Hid (∀j (hj:j<L.length),dropK G ((vals L).take (j+1)) t=if hasL G L[j].holder =false then ((dropK G ((vals L).take j) t).1++ [leftK G L[j].val],(dropK G ((vals L).take j) t).2) else
   ((dropK G ((vals L).take j) t).1++(passL (leftK G L[j].val) (t+(dropK G ((vals L).take j) t).2)).1,(dropK G ((vals L).take j) t).2+(passL (leftK G L[j].val) (t+(dropK G ((vals L).take j) t).2)).2)):=hid fun j hj=>by
  have:=drop_step G (vals L) t j (by rw[vals_length];exact hj)
  rw[vals_get L j hj] at this
  exact this
 have HN:Hid (∀j,0<=(dropK G ((vals L).take j) t).2/\(dropK G ((vals L).take j) t).2<=4/\(dropK G ((vals L).take j) t).1.length <=4):=hid fun j=>by
  have h1:=dropK_count G ((vals L).take j) t
  have h2:=dropK_length G ((vals L).take j) t
  have h3:((vals L).take j).length <=4:=by rw[List.length_take,vals_length];omega
  omega
 obtain⟨ua,uc,rfl⟩:=hG.form
 clear h hg hG s2
 obtain⟨N,hN⟩: ∃N,L.length=N:=⟨_,rfl⟩
 have HLL:=hid hN
 rw[hN] at hm h5 s1 ⊢
 clear hN
 generalize G.length=NG at*
 obtain⟨i1,hi',hz0',hz1',hz2'⟩:=info_parts infoK
 go_enter Tryz.func131,Tryz.ntmps131
 go_wp2
 go_loopw [8,9,16] (fun m gv i wr=> ∃(k:Nat) (M:List LockC) (gi:Int),k<=N/\i= .int .i64 k/\gv= .int .i64 gi/\Hid (gi=(dropK G ((vals L).take k) t).2)/\Hid (vals M=(dropK G ((vals L).take k) t).1)/\Hid (OwnN w.heap.size wr m M)/\Hid (Below w.heap.size w wr)) (fun _ _ i _=>N - (intOf i).toNat)
 case atStart=>exact⟨0,[],0,by omega,rfl,rfl,hid rfl,hid rfl,hid (OwnN.nil _ _),hid (Below.refl _ _)⟩
 case round=>
  obtain⟨k,M,gi,hk,rfl,rfl,hgi,HM,HO,HB⟩:=hrel
  by_cases hlt:k<N
  ·have hkl:k<L.length:=by rw[HLL.out];exact hlt
   obtain⟨b,o,rfl,hc⟩:=HA.out k hkl
   obtain⟨q0,q1,q2,q3⟩:=hc _ HB.out
   have hw:=HW.out k hkl
   have hwl:=HWL.out k hkl
   have hv:=HV.out k hkl
   obtain⟨n1,n2,n3⟩:=HN.out k
   have hml:M.length<=4:=by rw[<-vals_length M,HM.out];exact n3
   clear hc HA HW HV HN HWL n3
   generalize L[k]=x at q0 q1 q2 q3 hw hwl hv
   obtain⟨xn,xh,xt,xl,xa,xc⟩:=x
   unfold LockC.lv at hw q3
   unfold LockC.val leftK at hv
   dsimp only at q0 q1 q2 q3 hw hwl hv
   rw[<-hgi.out] at n1 n2 hv
   rw[<-HM.out] at hv
   clear HM
   obtain⟨WL,hWL⟩: ∃WL,withoutL xl G=WL:=⟨_,rfl⟩
   rw[hWL] at hw hwl hv
   clear hWL
   obtain⟨WN,hWN⟩: ∃WN,WL.length=WN:=⟨_,rfl⟩
   unfold GetsN at hw
   rw[hWN] at hw hwl
   have HWN:=hid hWN
   clear hWN
   have HW:=hid hw
   have HV:=hid hv
   clear hw hv
   obtain⟨W1,hW1⟩: ∃W1,W1=wr.alloc (.cells #[.string (bstr xn),.int .i64 xh,.int .i64 xt,.slice xa xl.length xc] 60):=⟨_,rfl⟩
   have HB1:Hid (Below wr.heap.size wr W1):=hid (by rw[hW1];exact newAlloc _ _)
   have hs1:W1.heap.size=wr.heap.size+1:=by rw[hW1];simp
   have HS1:=hid hs1
   obtain⟨z0,z1,z2,z3⟩:=box4 (Below.refl _ (wr.alloc (.cells #[.string (bstr xn),.int .i64 xh,.int .i64 xt,.slice xa xl.length xc] 60)))
   have zf:=free4k (Below.refl _ (wr.alloc (.cells #[.string (bstr xn),.int .i64 xh,.int .i64 xt,.slice xa xl.length xc] 60)))
   rw[<-hW1] at z0 z1 z2 z3 zf
   have HQ:Hid (∀w',Below W1.heap.size W1 w'->w'.cell? ⟨wr.heap.size,0,none⟩=some (.string (bstr xn))/\w'.cell? ⟨wr.heap.size,1,none⟩=some (.int .i64 xh)/\w'.cell? ⟨wr.heap.size,2,none⟩=some (.int .i64 xt)/\w'.cell? ⟨wr.heap.size,3,none⟩=some (.slice xa xl.length xc)):=hid fun w' hb=>⟨(hb.cell (lt_of_cell z0)).trans z0,(hb.cell (lt_of_cell z1)).trans z1,(hb.cell (lt_of_cell z2)).trans z2,(hb.cell (lt_of_cell z3)).trans z3⟩
   have HF:Hid (∀w',Below W1.heap.size W1 w'-> ∀k,w'.frozen? ⟨wr.heap.size,k,none⟩=false):=hid fun w' hb k=>(hb.frozen (p:=⟨wr.heap.size,k,none⟩) (show wr.heap.size< _ from lt_of_cell z0)).trans (zf k)
   have HWW:=hid hW1
   clear hW1 hs1 zf
   generalize xl.length=XN at*
   go_upto_region 6 with fail
   rw[<-HWW.out]
   clear HWW q0 q1 q2 q3
   go_region_with (first
    | (go_at_call 177;refine(HW.out _ ((step HB.out HB1.out).drew)).mono ?_;rintro e w6 ⟨v6,rfl,ho6,hb6⟩;have HO6:=hid ho6;obtain⟨a6,c6,rfl⟩:=Rw.own_form HO6.out;have HB6:Hid (Below W1.heap.size W1 w6):=hid (step (Below.refl _ _).drew hb6);obtain⟨x0,x1,x2,x3⟩:=HQ.out _ HB6.out;clear ho6 hb6)
    | (go_at_call 176;refine(withLine_any xn xh xt _ _ _ _ _ _ _).mono ?_;rintro e w7 ⟨rfl,hb7⟩;have HO7:=hid (Rw.own_below HO6.out hb7);have HB7:Hid (Below W1.heap.size W1 w7):=hid (step HB6.out hb7);obtain⟨y0,y1,y2,y3⟩:=HQ.out _ HB7.out;have yf:=HF.out _ HB7.out;clear hb7))
   all_goals
    obtain⟨W8,hW8⟩: ∃W8,W8=((((w7.setCell ⟨wr.heap.size,0,none⟩ (.string (bstr xn))).setCell ⟨wr.heap.size,1,none⟩ (.int .i64 xh)).setCell ⟨wr.heap.size,2,none⟩ (.int .i64 xt)).setCell ⟨wr.heap.size,3,none⟩ (.slice a6 WN c6)):=⟨_,rfl⟩
    have t0:W8.cell? ⟨wr.heap.size,0,none⟩=some (.string (bstr xn)):=by rw[hW8];simp [go_sem,y0,yf]
    have t1:W8.cell? ⟨wr.heap.size,1,none⟩=some (.int .i64 xh):=by rw[hW8];simp [go_sem,y1,yf]
    have t2:W8.cell? ⟨wr.heap.size,2,none⟩=some (.int .i64 xt):=by rw[hW8];simp [go_sem,y2,yf]
    have t3:W8.cell? ⟨wr.heap.size,3,none⟩=some (.slice a6 WN c6):=by rw[hW8];simp [go_sem,y3,yf]
    have HB8:Hid (Below wr.heap.size wr W8):=hid (by rw[hW8];exact set4k (step HB1.out HB7.out) _ (Nat.le_refl _) _ _ _ _)
    have hlt8:wr.heap.size<W1.heap.size:=by rw[HS1.out];omega
    have HO8:Hid (NewI w.heap.size W8 (.slice a6 WN c6) WL):=hid (by
     rw[hW8]
     exact(NewI.own (by rw[HWN.out];exact ownsRow_setCell_below (ownsRow_setCell_below (ownsRow_setCell_below (ownsRow_setCell_below HO7.out hlt8 _) hlt8 _) hlt8 _) hlt8 _)).lower (Nat.le_trans HB.out.size HB1.out.size))
    have HM8:=hid (HO.out.later HB8.out)
    have HBW:=hid (step HB.out HB8.out)
    rw[<-hW8]
    clear hW8 y0 y1 y2 y3 yf HO7 HB7 HO6 HB6 HQ HF hlt8 z0 z1 z2 z3 HB1 HW HS1
    have KG:=hid (HG.out W8 HBW.out xh)
    have KP:Hid (∀t',0<=t'->t'<=4611686018427387904->Calls Tryz.prog 178 #[.agg #[.string (bstr xn),.int .i64 xh,.int .i64 xt,.slice a6 WN c6],.int .i64 t'] W8 (Passed (passL ⟨xn,xh,xt,WL⟩ t') W8)):=hid fun t' h0 h1=>by
     have:=pass_any ⟨xn,xh,xt,WL,a6,c6⟩ t' W8 (by unfold LockC.lv;dsimp only;rw[HWN.out];exact HO8.out.1) (by dsimp only;rw[HWN.out];exact hwl) ⟨h0,h1⟩
     unfold lockVal LockC.lv at this
     dsimp only at this
     rw[HWN.out] at this
     exact this
    have hvv:=HV.out
    cases hh:hasL G xh with
    | false=>
     rw[hh,if_pos rfl] at hvv
     rw[hh] at KG
     have HVV:=hid hvv
     clear hvv HV hh KP HG
     have hbs:=HBW.out.size
     go_wp2_with (first
      | (go_at_call 132;refine KG.out.mono ?_;rintro e w2 ⟨rfl,rfl⟩)
      | (at_builtin;refine wpList_append_one_gr cellsK_length (by omega) rfl (.tmp 31) (.tmp 33) 23 rfl 60 i1 _ 56 Tryz.underlying23 hi' hz0' hz1' hz2' rfl #[.string (bstr xn),.int .i64 xh,.int .i64 xt,.slice a6 WN c6] (⟨xn,xh,xt,WL,a6,c6⟩:LockC) (by unfold cellsK LockC.lv;dsimp only;rw[HWN.out]) (cellsK_one _) M w.heap.size u8 rfl rfl HM8.out.row (by unfold maxLen;omega) (by omega) hbs ?_;intro v9 w9 ho9 hg9 _;have HO9:Hid (OwnN w.heap.size w9 v9 (M++ [⟨xn,xh,xt,WL,a6,c6⟩])):=hid ((HM8.out.later (newAlloc W8 _)).push (fun y hy=>by rw[List.mem_singleton] at hy;subst hy;unfold LockC.lv;dsimp only;rw[HWN.out];exact HO8.out.later (newAlloc W8 _)) hg9 (by rw[List.length_append,flatX_append] at ho9;exact ho9));have HB9:Hid (Below w.heap.size w w9):=hid ((stepAlloc HBW.out _).grown hg9 (by simp;omega) (fun g hg=>(Rw.own_lt HM8.out.row g hg).1));clear ho9 hg9))
     go_roundw
     case rel=>exact⟨k+1,M++ [⟨xn,xh,xt,WL,a6,c6⟩],gi,by omega,by go_num,rfl,hid (by rw[HVV.out]),hid (by rw[vals_append,HVV.out];rfl),HO9,HB9⟩
     case measure=>simp [intOf];omega
    | true=>
     rw[hh,if_neg (by simp)] at hvv
     rw[hh] at KG
     have HVV:=hid hvv
     clear hvv HV hh HG
     have hbs:=HBW.out.size
     have KP:=hid (KP.out (t+gi) (by omega) (by omega))
     have hR:(passL ⟨xn,xh,xt,WL⟩ (t+gi)).1.length <=1/\0<=(passL ⟨xn,xh,xt,WL⟩ (t+gi)).2/\(passL ⟨xn,xh,xt,WL⟩ (t+gi)).2<=1:=by unfold passL;split<;>simp
     generalize passL ⟨xn,xh,xt,WL⟩ (t+gi)=R at KP HVV hR
     obtain⟨R1,R2⟩:=R
     unfold Passed at KP
     dsimp only at KP HVV hR
     obtain⟨r1,r2,r3⟩:=hR
     have wr1:IntKind.i64.wrap (t+gi)=t+gi:=by rw[IntKind.wrap_i64];omega
     have wr2:IntKind.i64.wrap (gi+R2)=gi+R2:=by rw[IntKind.wrap_i64];omega
     go_wp2_with (first
      | (go_at_call 132;refine KG.out.mono ?_;rintro e w2 ⟨rfl,rfl⟩)
      | (go_at_call 178;refine KP.out.mono ?_;rintro e w9 ⟨u9,n9,c9,Y9,rfl,hv9,hr9,hl9,hb9⟩;have HM9:=hid (HM8.out.later hb9);have HR9:=hid hr9;have HL9:=hid (fun y hy=>(hl9 y hy).lower hbs);have HV9:=hid hv9;have hy9:Y9.length<=1:=(by rw[<-vals_length Y9,hv9];exact r1);have HB9:=hid (step HBW.out hb9);clear hr9 hl9 hv9 hb9)
      | (at_builtin;refine wpList_append_rdx cellsK_length (by omega) cellsK_one rfl (.tmp 43) (.tmp 44) 23 rfl w.heap.size 60 i1 _ 56 Tryz.underlying23 hi' hz0' hz1' hz2' rfl u8 M.length (flatX cellsK M) rfl HM9.out.row _ Y9 rfl HR9.out (by unfold maxLen;omega) (by omega) HB9.out.size ?_;intro v10 w10 hown2 hgrow2;have HO10:Hid (OwnN w.heap.size w10 v10 (M++Y9)):=hid (HM9.out.push HL9.out hgrow2 hown2);have HB10:Hid (Below w.heap.size w w10):=hid (HB9.out.grown hgrow2 HB9.out.size (fun g hg=>(Rw.own_lt HM9.out.row g hg).1));clear hown2 hgrow2))
     go_roundw
     case rel=>exact⟨k+1,M++Y9,gi+R2,by omega,by go_num,rfl,hid (by rw[HVV.out]),hid (by rw[vals_append,HVV.out,HV9.out]),HO10,HB10⟩
     case measure=>simp [intOf];omega
  ·obtain rfl:k=N:=by omega
   go_wp2
   refine bodyPost_ret (by simp [results,Tryz.results131,go_sem]<;>rfl) rfl ?_
   have ha:(vals L).take k=vals L:=List.take_of_length_le (by rw[vals_length,HLL.out];exact Nat.le_refl _)
   have hM:=HM.out
   have hgj:=hgi.out
   rw[ha] at hM hgj
   exact⟨_,M,by rw[<-hgj],hM,HO.out,HB.out⟩
end Cm
end Go.Proofs.YtclcgkpfcogcdaaGreat
