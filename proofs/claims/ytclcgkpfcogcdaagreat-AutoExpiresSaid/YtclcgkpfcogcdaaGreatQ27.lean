/- Texts laid together by program. -/
import Derived.Test.YtclcgkpfcogcdaaGreatQ26
import Derived.Deep.RegionHeld3
/- Contracts: package line's Join, Leave, Next (Leave as it landed: Ahead, then Without). -/
set_option linter.unusedVariables false
set_option maxRecDepth 8000
set_option linter.unusedSimpArgs false
namespace Go.Proofs.YtclcgkpfcogcdaaGreat
open Lib (hid)
open Go.RowKit
namespace Cm

def joinW (w:World) (c:Int) (u:Value):World:=
 (w.alloc (.cells #[.int .i64 c] 3)).alloc (.cells #[u,.slice (some ⟨w.heap.size,0,none⟩) 1 1] 58)
theorem joinW_below (w:World) (c:Int) (u:Value):Below w.heap.size w (joinW w c u):=step (newAlloc _ _) (newAlloc _ _)
theorem join_cat (w:World) (c:Int) (u:Value) (A:List Int) (hl:A.length+1<=1000000) (hu:RdI w u A):
  Calls Tryz.prog 101 #[.slice (some ⟨w.heap.size+1,0,none⟩) 2 2] (joinW w c u) (MadeI (A++ [c]) (joinW w c u)):=by
 have hb:=joinW_below w c u
 refine ConcatI_two (joinW w c u) (w.heap.size+1) u (.slice (some ⟨w.heap.size,0,none⟩) 1 1) A [c] (hu.later hb) ?_ ?_ ?_ (by simpa using hl)
 ·refine RdX.one (cs:=#[.int .i64 c]) (t:=3) ?_ rfl
  show((w.heap.push _).push _)[w.heap.size]?= _
  simp [Array.getElem?_push]
 all_goals (unfold joinW;simp [go_sem])
set_option maxHeartbeats 2000000 in
theorem LineJoin_any (v:Value) (l:List Int) (c:Int) (w:World) (h:RdI w v l):Calls Tryz.prog 224 #[v,.int .i64 c] w (GetsJ (joinL l c) w):=by
 have hm:=h.len
 have CI:=hid (Contains_num v l c w h)
 have CC:=hid (isClient_any c w)
 obtain⟨a,cap,rfl⟩:=h.form
 unfold joinL
 cases n1:clientF c
 case false=>
  rw[if_pos rfl]
  rw[n1] at CC
  clear CI n1
  generalize l.length=L at*
  go_enter Tryz.func224,Tryz.ntmps224
  go_wp2_with (go_at_call 196;refine CC.out.mono ?_;rintro e w1 ⟨rfl,rfl⟩)
  refine bodyPost_ret (by simp [results,Tryz.results224,go_sem]<;>rfl) rfl ?_
  exact GetsJ.empty rfl (Below.refl _ _)
 rw[if_neg (by simp)]
 rw[n1] at CC
 cases n2:hasL l c
 case true=>
  rw[if_pos rfl]
  rw[n2] at CI
  clear n2
  generalize l.length=L at*
  go_enter Tryz.func224,Tryz.ntmps224
  go_wp2_with (first
   | (go_at_call 196;refine CC.out.mono ?_;rintro e w1 ⟨rfl,rfl⟩)
   | (go_at_call 132;refine CI.out.mono ?_;rintro e w1 ⟨rfl,rfl⟩))
  refine bodyPost_ret (by simp [results,Tryz.results224,go_sem]<;>rfl) rfl ?_
  exact GetsJ.empty rfl (Below.refl _ _)
 rw[if_neg (by simp)]
 rw[n2] at CI
 by_cases h3:3<=l.length
 ·rw[if_pos h3]
  have d3:decide ((3:Int)<=(l.length:Int))=true:=by simp;omega
  clear n2
  generalize l.length=L at*
  clear h3
  go_enter Tryz.func224,Tryz.ntmps224
  go_wp2_with (first
   | (go_at_call 196;refine CC.out.mono ?_;rintro e w1 ⟨rfl,rfl⟩)
   | (go_at_call 132;refine CI.out.mono ?_;rintro e w1 ⟨rfl,rfl⟩))
  refine bodyPost_ret (by simp [results,Tryz.results224,go_sem]<;>rfl) rfl ?_
  exact GetsJ.empty rfl (Below.refl _ _)
 rw[if_neg h3]
 have d3:decide ((3:Int)<=(l.length:Int))=false:=by simp;omega
 have HZ:=hid (join_cat w c _ l (by omega) h)
 clear h3 n2 h n1
 go_enter Tryz.func224,Tryz.ntmps224
 go_wp2_with (first
  | (go_at_call 196;refine CC.out.mono ?_;rintro e w1 ⟨rfl,rfl⟩)
  | (go_at_call 132;refine CI.out.mono ?_;rintro e w1 ⟨rfl,rfl⟩)
  | (go_at_call 101;refine HZ.out.mono ?_;rintro e w6 ⟨v6,rfl,ho6,hb6⟩))
 refine bodyPost_ret (by simp [results,Tryz.results224,go_sem]<;>rfl) rfl ?_
 exact⟨v6,rfl,own_lowerX ho6 (joinW_below _ _ _).size,step (joinW_below _ _ _) hb6⟩
theorem LineLeave_any (v:Value) (l:List Int) (c:Int) (w:World) (h:RdI w v l) (h5:l.length<=1000):Calls Tryz.prog 205 #[v,.int .i64 c] w (GetsL (leaveL l c) w):=by
 have KC:=hid (LineAhead_any v l c w h)
 have KW:=hid (fun w1 (hb:Below w.heap.size w w1)=>LineWithout_any v _ l [c] _ (h.later (step hb (newAlloc w1 (.cells #[.int .i64 c] 3)))) (RdX.one (cs:=#[.int .i64 c]) (t:=3) (y:=c) (w:=w1.alloc (.cells #[.int .i64 c] 3)) (b:=w1.heap.size) (by show(w1.heap.push _)[w1.heap.size]?= _;simp) rfl) h5)
 obtain⟨a,cap,rfl⟩:=h.form
 unfold leaveL
 rw[<-aheadL_has l c]
 generalize aheadL l c=b at KC ⊢
 obtain⟨n,b⟩:=b
 generalize withoutL l [c]=M at KW ⊢
 clear h h5
 generalize l.length=L at*
 go_enter Tryz.func205,Tryz.ntmps205
 go_wp2_with (first
  | (go_at_call 223;refine KC.out.mono ?_;rintro e w1 ⟨rfl,hb1⟩;have HB0:=hid hb1;have KW1:=hid (KW.out _ hb1);have HB1:=hid (step hb1 (newAlloc w1 (.cells #[.int .i64 c] 3)));clear hb1)
  | (go_at_call 177;refine KW1.out.mono ?_;rintro e w2 ⟨v1,rfl,ho1,hb2⟩;have HB2:=hid (step HB1.out hb2)))
 go_ret2
 exact⟨v1,rfl,own_lowerX ho1 HB1.out.size,HB2.out⟩
theorem LineNext_any (v:Value) (l:List Int) (w:World) (h:RdI w v l) (h5:l.length<=1000):Calls Tryz.prog 207 #[v] w (GetsX (nextL l) w):=by
 have HR:=hid h
 obtain⟨a,cap,rfl⟩:=h.form
 have hcap:l.length<=cap/\cap<=maxLen:=by
  obtain⟨a',cap',hv,q1,q2,_⟩:=h.ex
  cases hv
  exact⟨q1,q2⟩
 unfold maxLen at hcap
 obtain⟨hc1,hc2⟩:=hcap
 match l,HR,h5,h,hc1 with
 | [],HR,h5,h,hc1=>
  unfold nextL
  clear h
  rw[List.length_nil] at*
  go_enter Tryz.func207,Tryz.ntmps207
  go_wp2
  refine bodyPost_ret (by simp [results,Tryz.results207,go_sem]<;>rfl) rfl ?_
  exact⟨_,rfl,World.ownsRow_nil _ _ _ _,Below.refl _ _⟩
 | x::l,HR,h5,h,hc1=>
  unfold nextL
  obtain⟨b,o,rfl,hc⟩:=rdi_at h 0 (by simp)
  have HX:=hid (fun n=>hc (w.drewN n) (below_drewN6 (Below.refl _ _) n))
  have x0:=hc w (Below.refl _ _)
  simp only[List.getElem_cons_zero,Nat.add_zero] at HX x0
  have HD:=hid (HR.out.drop (by omega) 1 (by simp))
  rw[List.drop_one,List.tail_cons] at HD
  clear h HR hc
  obtain⟨L,hL⟩: ∃L,(x::l).length =L:=⟨_,rfl⟩
  have hL1:l.length+1=L:=by rw[<-hL];simp
  rw[hL] at h5 hc1 HD ⊢
  have g1:(0:Int)<(L:Int):=by omega
  have g2:(1:Int)<=(L:Int):=by omega
  have z0:((L:Int)==0)=false:=by simp;omega
  have HLL:Hid (l.length+1=L/\L<=1000):=hid ⟨hL1,h5⟩
  clear hL hL1
  have g0:0<L:=by omega
  have g3:1<=L:=by omega
  by_cases hcp:cap=1
  ·rw[if_pos hcp] at HD
   obtain rfl:L=1:=by omega
   subst hcp
   have KC:=hid (fun w' (hb:Below w.heap.size w w')=>CloneI_any _ l w' (HD.out.later hb) (by have:=HLL.out;omega))
   clear g0 g1 g2 g3 z0 hc1 hc2
   go_enter Tryz.func207,Tryz.ntmps207
   go_upto_region 3 with fail
   go_region_held3 (fun w'=>w'.cell? ⟨b,o,none⟩=some (.int .i64 x)) (first | exact x0 | exact(hb6.cell (lt_of_cell x0)).trans x0 | go_keep) (first
    | (go_at_call 108;refine(KC.out _ (Below.refl _ _).drew).mono ?_;rintro e w6 ⟨v6,rfl,ho6,hb6⟩))
   go_wp2
   refine bodyPost_ret (by simp [results,Tryz.results207,go_sem]<;>rfl) rfl ?_
   exact⟨v6,rfl,ho6,step (Below.refl _ _).drew hb6⟩
  ·rw[if_neg hcp] at HD
   have KC:=hid (fun w' (hb:Below w.heap.size w w')=>CloneI_any _ l w' (HD.out.later hb) (by have:=HLL.out;omega))
   have hadd:(⟨b,o,none⟩:Addr).add (1*1)=⟨b,o+1,none⟩:=by unfold Addr.add;split<;>simp_all
   rw[Option.map_some,hadd] at KC
   clear hadd
   go_enter Tryz.func207,Tryz.ntmps207
   go_upto_region 3 with fail
   go_region_held3 (fun w'=>w'.cell? ⟨b,o,none⟩=some (.int .i64 x)) (first | exact x0 | exact(hb6.cell (lt_of_cell x0)).trans x0 | go_keep) (first
    | (go_at_call 108;refine(KC.out _ (Below.refl _ _).drew).mono ?_;rintro e w6 ⟨v6,rfl,ho6,hb6⟩))
   go_wp2
   refine bodyPost_ret (by simp [results,Tryz.results207,go_sem]<;>rfl) rfl ?_
   exact⟨v6,rfl,ho6,step (Below.refl _ _).drew hb6⟩
end Cm
end Go.Proofs.YtclcgkpfcogcdaaGreat

/- Contracts: package lock's pass, await. -/
set_option linter.unusedVariables false
set_option maxRecDepth 8000
set_option linter.unusedSimpArgs false
namespace Go.Proofs.YtclcgkpfcogcdaaGreat
open Lib (hid)
open Go.RowKit Go.Shelf
namespace Cm

def passL (k:LockV) (t:Int):List LockV × Int:=if k.line= [] then ([],0) else ([passK k t],1)
def Passed (r:List LockV × Int) (w:World) (e:Ending) (w':World):Prop:=
 ∃u n c Y,e= .returned (.tuple #[.slice u n c,.int .i64 r.2])/\vals Y=r.1/\RdX 4 cellsK w' (.slice u n c) Y/\(∀y∈Y,NewI w.heap.size w' y.lv y.line)/\Below w.heap.size w w'
set_option maxHeartbeats 2000000 in
theorem pass_any (x:LockC) (t:Int) (w:World) (hl:RdI w x.lv x.line) (h5:x.line.length<=1000) (ht:0<=t/\t<=4611686018427387904):
  Calls Tryz.prog 178 #[lockVal x,.int .i64 t] w (Passed (passL x.val t) w):=by
 obtain⟨xn,xh,xt,xl,xa,xc⟩:=x
 unfold lockVal passL LockC.val passK
 unfold LockC.lv at hl ⊢
 dsimp only at hl h5 ⊢
 have hb1:=newAlloc w (.cells #[.string (bstr xn),.int .i64 xh,.int .i64 xt,.slice xa xl.length xc] 60)
 obtain⟨c0,c1,c2,c3⟩:=box4 (Below.refl _ (w.alloc (.cells #[.string (bstr xn),.int .i64 xh,.int .i64 xt,.slice xa xl.length xc] 60)))
 obtain⟨W1,hW1⟩: ∃W1,W1=w.alloc (.cells #[.string (bstr xn),.int .i64 xh,.int .i64 xt,.slice xa xl.length xc] 60):=⟨_,rfl⟩
 rw[<-hW1] at hb1 c0 c1 c2 c3
 have HB:=hid hb1
 have KN:=hid (LineNext_any (.slice xa xl.length xc) xl W1 (hl.later hb1) h5)
 have hw1:IntKind.i64.wrap (t+1)=t+1:=by rw[IntKind.wrap_i64];omega
 clear hl hb1 ht
 match xl,KN with
 | [],KN=>
  rw[if_pos rfl]
  unfold nextL at KN
  rw[List.length_nil] at*
  go_enter Tryz.func178,Tryz.ntmps178
  go_upto_region 1 with fail
  rw[<-hW1]
  clear hW1
  go_wp2_with (go_at_call 207;refine KN.out.mono ?_;rintro e w2 ⟨v2,rfl,ho2,hb2⟩)
  go_ret2
  exact⟨_,_,_,[],rfl,rfl,RdX.nil _,(fun y hy=>by cases hy),step HB.out hb2⟩
 | c::l,KN=>
  rw[if_neg (by simp)]
  unfold nextL at KN
  dsimp only at KN
  have HCL:Hid (∀(P:Prop),P->P):=hid fun _ h=>h
  simp only[List.headD_cons,List.drop_one,List.tail_cons]
  generalize (c::l).length =L at*
  go_enter Tryz.func178,Tryz.ntmps178
  go_upto_region 1 with fail
  rw[<-hW1]
  clear hW1
  go_wp2_with (go_at_call 207;refine KN.out.mono ?_;rintro e w2 ⟨v2,rfl,ho2,hb2⟩;have HO2:=hid ho2;obtain⟨a2,d2,rfl⟩:=Rw.own_form HO2.out;have HB2:=hid hb2;have y0:=(HB2.out.cell (lt_of_cell c0)).trans c0;clear ho2 hb2)
  go_ret2
  refine⟨_,_,_,[(⟨xn,c,t+1,l,a2,d2⟩:LockC)],rfl,rfl,RdX.one (heap_alloc_new w2 _) rfl,fun y hy=>?_,step HB.out (stepAlloc HB2.out _)⟩
  rw[List.mem_singleton] at hy
  subst hy
  exact((NewI.own HO2.out).later (newAlloc w2 _)).lower HB.out.size
end Cm
end Go.Proofs.YtclcgkpfcogcdaaGreat

/- Contracts: package lock's await. -/
set_option linter.unusedVariables false
set_option maxRecDepth 8000
set_option linter.unusedSimpArgs false
namespace Go.Proofs.YtclcgkpfcogcdaaGreat
open Lib (hid)
open Go.RowKit Go.Shelf
namespace Cm

theorem set_split {α:Type} (l:List α) (k:Nat) (h:k<l.length) (y:α):l.take k++([y]++l.drop (k+1))=l.set k y:=by
 rw[List.set_eq_take_append_cons_drop,if_pos h]
 rfl
def awaitK (l:List LockV) (k:Nat) (x:LockV) (c:Int):List LockV × Int × Int:=
 if (aheadL x.line c).2=true then (l,(aheadL x.line c).1,10) else
 if 3<=x.line.length then ([],0,5) else (l.set k ⟨x.name,x.holder,x.token,x.line++ [c]⟩,x.line.length,10)
set_option maxHeartbeats 4000000 in
theorem await_any (v:Value) (L:List LockC) (k:Nat) (c:Int) (w:World) (h:RdK w v L) (hk:k<L.length) (h5:L.length<=1000) (h6: ∀x∈L,x.line.length<=1000) (hc:clientF c=true):
  Calls Tryz.prog 203 #[v,.int .i64 (k:Int),.int .i64 c] w (GetsT (awaitK (vals L) k L[k].val c) w):=by
 have hm:=h.len
 have KC:Hid (∀w',Below w.heap.size w w'->Calls Tryz.prog 221 #[v] w' (MadeC (vals L) w')):=hid fun w' hb=>copies_any _ _ w' (h.later hb) h5 h6
 have KR:Hid (∀(w':World) (u:Value) (y:LockC),Below w.heap.size w w'->RdX 4 cellsK w' u [y]->NewI w.heap.size w' y.lv y.line->Calls Tryz.prog 204 #[v,.int .i64 (k:Int),u] w' (MadeT w.heap.size ((vals L).set k y.val) w')):=hid fun w' u y hb hu hy=>by
  have:=replaced_any w.heap.size v u L [y] k w' hk (h.later hb) h5 h6 hu (by simp) (fun z hz=>by rw[List.mem_singleton] at hz;subst hz;exact hy) hb.size
  have e:vals [y]= [y.val]:=rfl
  rw[e,set_split _ _ (by rw[vals_length];exact hk)] at this
  exact this
 have hxl:RdI w L[k].lv L[k].line :=h.line _ (List.getElem_mem hk)
 obtain⟨a,cap,rfl⟩:=h.form
 obtain⟨b,o,rfl,hcell⟩:=rdk_at h.row k hk
 have HQ:=hid hcell
 clear h h6 hcell
 generalize L[k]=x at*
 generalize hN:L.length=N at*
 clear hN
 obtain⟨xn,xh,xt,xl,xa,xc⟩:=x
 unfold awaitK LockC.val
 unfold LockC.lv at HQ hxl
 dsimp only at HQ hxl ⊢
 have f1:(0:Int)<=(k:Int):=by omega
 have f2:(k:Int)<(N:Int):=by omega
 have KA:=hid (LineAhead_any (.slice xa xl.length xc) xl c w hxl)
 have KJ:Hid (∀w',Below w.heap.size w w'->Calls Tryz.prog 224 #[.slice xa xl.length xc,.int .i64 c] w' (GetsJ (joinL xl c) w')):=hid fun w' hb=>LineJoin_any _ xl c w' (hxl.later hb)
 obtain⟨q0,q1,q2,q3⟩:=HQ.out w (Below.refl _ _)
 have hhas:(aheadL xl c).2=hasL xl c:=aheadL_has xl c
 generalize aheadL xl c=r at KA hhas ⊢
 obtain⟨p,d⟩:=r
 dsimp only at hhas ⊢
 unfold StandsB at KA
 dsimp only at KA
 clear hxl
 cases d with
 | true=>
  rw[if_pos rfl]
  clear KJ KR HQ hhas
  generalize vals L=V at*
  go_enter Tryz.func203,Tryz.ntmps203
  go_wp2_with (first
   | (go_at_call 223;refine KA.out.mono ?_;rintro e w2 ⟨rfl,hb2⟩;have HB2:=hid hb2;clear hb2)
   | (go_at_call 221;refine(KC.out _ HB2.out).mono ?_;rintro e w3 ⟨v3,M3,rfl,hm3,ho3,hb3⟩))
  refine bodyPost_ret (by simp [results,Tryz.results203,go_sem]<;>rfl) rfl ?_
  exact⟨v3,M3,rfl,hm3,ho3.n.lower HB2.out.size,step HB2.out hb3⟩
 | false=>
  rw[if_neg (by simp)]
  have hj:joinL xl c=if 3<=xl.length then ([],0,5) else (xl++ [c],(xl.length:Int),0):=by
   unfold joinL
   rw[if_neg (by rw[hc];simp),if_neg (by rw[<-hhas];simp)]
  rw[hj] at KJ
  clear hhas hj KC hc
  by_cases h3:3<=xl.length
  ·rw[if_pos h3]
   rw[if_pos h3] at KJ
   clear KR h3
   generalize vals L=V at*
   generalize xl.length=XN at*
   go_enter Tryz.func203,Tryz.ntmps203
   go_wp2_with (first
    | (go_at_call 223;refine KA.out.mono ?_;rintro e w2 ⟨rfl,hb2⟩;have HB2:=hid hb2;obtain⟨y0,y1,y2,y3⟩:=HQ.out w2 hb2;clear hb2)
    | (go_at_call 224;refine(KJ.out _ HB2.out).mono ?_;rintro e w3 ⟨v3,rfl,ho3,hb3⟩))
   refine bodyPost_ret (by simp [results,Tryz.results203,go_sem]<;>rfl) rfl ?_
   exact GetsT.empty rfl (step HB2.out hb3)
  ·rw[if_neg h3]
   rw[if_neg h3] at KJ
   clear h3
   generalize vals L=V at*
   obtain⟨XN,hXN⟩: ∃XN,xl.length=XN:=⟨_,rfl⟩
   rw[hXN] at KA KJ q3 HQ ⊢
   have HXN:Hid ((xl++ [c]).length =XN+1):=hid (by simp [hXN])
   clear hXN
   go_enter Tryz.func203,Tryz.ntmps203
   go_wp2_with (first
    | (go_at_call 223;refine KA.out.mono ?_;rintro e w2 ⟨rfl,hb2⟩;have HB2:=hid hb2;obtain⟨y0,y1,y2,y3⟩:=HQ.out w2 hb2;clear hb2)
    | (go_at_call 224;refine(KJ.out _ HB2.out).mono ?_;rintro e w3 ⟨v3,rfl,ho3,hb3⟩;dsimp only at ho3;rw[HXN.out] at ho3;have HO3:=hid ho3;obtain⟨a3,c3,rfl⟩:=Rw.own_form HO3.out;have HB3:=hid (step HB2.out hb3);obtain⟨z0,z1,z2,z3⟩:=HQ.out w3 HB3.out;clear ho3 hb3)
    | (go_at_call 176;refine(withLine_any xn xh xt _ _ _ _ _ _ _).mono ?_;rintro e w4 ⟨rfl,hb4⟩;have HO4:=hid (Rw.own_below HO3.out hb4);have HB4:=hid (step HB3.out hb4);clear hb4)
    | (go_at_call 204;refine(KR.out _ _ (⟨xn,xh,xt,xl++ [c],a3,c3⟩:LockC) (stepAlloc HB4.out _) (RdX.one (heap_alloc_new w4 _) (by unfold cellsK LockC.lv;dsimp only;rw[HXN.out])) (by unfold LockC.lv;dsimp only;rw[HXN.out];exact((NewI.own (by rw[HXN.out];exact HO4.out)).lower HB2.out.size).later (newAlloc w4 _))).mono ?_;rintro e w5 ⟨v5,M5,rfl,hm5,ho5,hb5⟩))
   refine bodyPost_ret (by simp [results,Tryz.results203,go_sem]<;>rfl) rfl ?_
   exact⟨v5,M5,rfl,hm5,ho5,step (stepAlloc HB4.out _) hb5⟩
end Cm
end Go.Proofs.YtclcgkpfcogcdaaGreat

/- Contracts: package lock's Take, Free. -/
set_option linter.unusedVariables false
set_option maxRecDepth 8000
set_option linter.unusedSimpArgs false
namespace Go.Proofs.YtclcgkpfcogcdaaGreat
open Lib (hid)
open Go.RowKit Go.Shelf
namespace Cm

theorem good_small {L:List LockC} {t:Int} (h:Good (vals L) t):L.length<=4/\ ∀x∈L,x.line.length<=3:=by
 refine⟨by have:=h.len;rw[vals_length] at this;exact this,fun x hx=>?_⟩
 have h1:=h.rk.one x.val (List.mem_map.2 ⟨x,hx,rfl⟩)
 have h2:=((oneK_iff _).1 h1).2.2.2.1
 exact((rightL_iff _).1 h2).1
theorem idx_two (l:List LockV) (n:List UInt8):idxI (isNm n) l= -1\/ ∃k:Nat,∃hk:k<l.length,idxI (isNm n) l=(k:Int):=by
 by_cases h:idxI (isNm n) l<0
 ·have:=idxI_ge (isNm n) l
  exact .inl (by omega)
 ·obtain⟨k,hk,e,_⟩:=idx_some n l h
  exact .inr ⟨k,hk,e⟩
theorem getK_at (L:List LockC) (k:Nat) (hk:k<L.length):getK (vals L) (k:Int)=L[k].val :=by
 unfold getK
 rw[Int.toNat_natCast,List.getD_eq_getElem?_getD,List.getElem?_eq_getElem (by rw[vals_length];exact hk),Option.getD_some,vals_get L k hk]
theorem take_hit (L:List LockC) (n:List UInt8) (c t:Int) (wt:Bool) (k:Nat) (hk:k<L.length) (hi:idxI (isNm n) (vals L)=(k:Int)):
  takeK (vals L) n c t wt=if L[k].holder =c then ([],0,7) else if wt=false then ([],0,8) else awaitK (vals L) k L[k].val c:=by
 unfold takeK awaitK
 rw[hi,if_neg (by omega),getK_at L k hk,Int.toNat_natCast]
 rfl
set_option maxHeartbeats 4000000 in
theorem LckTake_any (v:Value) (L:List LockC) (n:List UInt8) (c t:Int) (wt:Bool) (w:World) (h:RdK w v L) (hg:Good (vals L) t) (hn:nameF n=true) (hc:clientF c=true) (ht:t<2305843009213694000):
  Calls Tryz.prog 167 #[v,.string (bstr n),.int .i64 c,.int .i64 t,.bool wt] w (GetsT (takeK (vals L) n c t wt) w):=by
 obtain⟨s1,s2⟩:=good_small hg
 have h5:L.length<=1000:=by omega
 have h6: ∀x∈L,x.line.length<=1000:=fun x hx=>by have:=s2 x hx;omega
 have hp:=hg.pos
 have hm:=h.len
 have hw1:IntKind.i64.wrap (t+1)=t+1:=by rw[IntKind.wrap_i64];omega
 have KI:=hid (indexOfK_any v L n w h.row)
 rcases idx_two (vals L) n with hi | ⟨k,hk,hi⟩
 ·have KA:Hid (∀w',Below w.heap.size w w'->Calls Tryz.prog 202 #[v,.agg #[.string (bstr n),.int .i64 c,.int .i64 (t+1),.slice none 0 0]] w' (GetsB (if 4<=L.length then ([],5) else (putK ⟨n,c,t+1,[]⟩ (vals L),0)) w')):=hid fun w' hb=>add_any v L n c (t+1) w' (h.later hb) h5 h6 hi
  have e:takeK (vals L) n c t wt=((if 4<=L.length then ([],(5:Int)) else (putK ⟨n,c,t+1,[]⟩ (vals L),0)).1,0,(if 4<=L.length then ([],(5:Int)) else (putK ⟨n,c,t+1,[]⟩ (vals L),0)).2):=by
   unfold takeK
   rw[hi,if_pos (by omega),vals_length]
   split<;>rfl
  rw[e]
  rw[hi] at KI
  clear e hi
  obtain⟨a,cap,rfl⟩:=h.form
  clear h h6 s2 hg
  generalize (if 4<=L.length then (([]:List LockV),(5:Int)) else (putK ⟨n,c,t+1,[]⟩ (vals L),0))=R at KA ⊢
  obtain⟨R1,R2⟩:=R
  unfold GetsB at KA
  dsimp only at KA ⊢
  generalize L.length=N at*
  go_enter Tryz.func167,Tryz.ntmps167
  go_wp2_with (first
   | (go_at_call 201;refine KI.out.mono ?_;rintro e w2 ⟨rfl,hb2⟩;have HB2:=hid hb2;clear hb2)
   | (go_at_call 202;refine(KA.out _ HB2.out).mono ?_;rintro e w3 ⟨v3,M3,rfl,hm3,ho3,hb3⟩))
  refine bodyPost_ret (by simp [results,Tryz.results167,go_sem]<;>rfl) rfl ?_
  exact⟨v3,M3,rfl,hm3,ho3.lower HB2.out.size,step HB2.out hb3⟩
 ·have hk':k<L.length:=by rw[vals_length] at hk;exact hk
  rw[take_hit L n c t wt k hk' hi]
  rw[hi] at KI
  have KW:Hid (∀w',Below w.heap.size w w'->Calls Tryz.prog 203 #[v,.int .i64 (k:Int),.int .i64 c] w' (GetsT (awaitK (vals L) k L[k].val c) w')):=hid fun w' hb=>await_any v L k c w' (h.later hb) hk' h5 h6 hc
  obtain⟨a,cap,rfl⟩:=h.form
  obtain⟨b,o,rfl,hcell⟩:=rdk_at h.row k hk'
  have HQ:=hid hcell
  clear h h6 s2 hg hcell hi hk
  generalize awaitK (vals L) k L[k].val c=R at KW ⊢
  generalize L[k]=x at HQ ⊢
  obtain⟨xn,xh,xt,xl,xa,xc⟩:=x
  unfold LockC.lv at HQ
  dsimp only at HQ ⊢
  generalize L.length=N at*
  have f1:(0:Int)<=(k:Int):=by omega
  have f2:(k:Int)<(N:Int):=by omega
  have f3:decide ((k:Int)<0)=false:=by simp
  by_cases e1:xh=c
  ·rw[if_pos e1]
   have d1:(xh==c)=true:=by simpa using e1
   clear e1 KW
   go_enter Tryz.func167,Tryz.ntmps167
   go_wp2_with (go_at_call 201;refine KI.out.mono ?_;rintro e w2 ⟨rfl,hb2⟩;have HB2:=hid hb2;obtain⟨y0,y1,y2,y3⟩:=HQ.out w2 hb2;clear hb2)
   refine bodyPost_ret (by simp [results,Tryz.results167,go_sem]<;>rfl) rfl ?_
   exact GetsT.empty rfl HB2.out
  rw[if_neg e1]
  have d1:(xh==c)=false:=by simpa using e1
  clear e1
  cases wt with
  | false=>
   rw[if_pos rfl]
   clear KW
   go_enter Tryz.func167,Tryz.ntmps167
   go_wp2_with (go_at_call 201;refine KI.out.mono ?_;rintro e w2 ⟨rfl,hb2⟩;have HB2:=hid hb2;obtain⟨y0,y1,y2,y3⟩:=HQ.out w2 hb2;clear hb2)
   refine bodyPost_ret (by simp [results,Tryz.results167,go_sem]<;>rfl) rfl ?_
   exact GetsT.empty rfl HB2.out
  | true=>
   rw[if_neg (by simp)]
   go_enter Tryz.func167,Tryz.ntmps167
   go_wp2_with (first
    | (go_at_call 201;refine KI.out.mono ?_;rintro e w2 ⟨rfl,hb2⟩;have HB2:=hid hb2;obtain⟨y0,y1,y2,y3⟩:=HQ.out w2 hb2;clear hb2)
    | (go_at_call 203;refine(KW.out _ HB2.out).mono ?_;rintro e w3 ⟨v3,M3,rfl,hm3,ho3,hb3⟩))
   refine bodyPost_ret (by simp [results,Tryz.results167,go_sem]<;>rfl) rfl ?_
   exact⟨v3,M3,rfl,hm3,ho3.lower HB2.out.size,step HB2.out hb3⟩
end Cm
end Go.Proofs.YtclcgkpfcogcdaaGreat
