/- Texts laid together by program. -/
import Derived.Test.YthpknaieimlmnaaGreatQ9
/- Contracts: padlockref6's Copy: locks in new memory, lines of their own. -/
set_option linter.unusedVariables false
set_option maxRecDepth 8000
set_option linter.unusedSimpArgs false
namespace Go.Proofs.YthpknaieimlmnaaGreat
open Lib (hid)
open Go.RowKit
namespace Cm

theorem infoK:(Tryz.prog.info? 69).map (fun i=>(i.zero,i.size,i.bytes))=some (some (.agg #[.string ⟨#[]⟩,.int .i64 0,.int .i64 0,.slice none 0 0]),4,56):=by kernel_rfl
structure OwnD (base:Nat) (w:World) (v:Value) (M:List LockC):Prop where
 row:w.ownsRow base 69 4 v M.length (flatX cellsK M)
 line: ∀x∈M,w.ownsRow base 3 1 x.lv x.line.length (flatX cellsI x.line)
 sep:M.Pairwise fun x y=>Rw.Apart x.lv y.lv
theorem OwnD.nil (base:Nat) (w:World):OwnD base w (.slice none 0 0) []:=⟨World.ownsRow_nil _ _ _ _,(fun x hx=>by cases hx),List.Pairwise.nil⟩
theorem OwnD.rd {base:Nat} {w:World} {v:Value} {M:List LockC} (h:OwnD base w v M):RdK w v M:=⟨RdX.own cellsK_length h.row,fun x hx=>RdX.own cellsI_length (h.line x hx)⟩
theorem OwnD.later {base:Nat} {w w':World} {v:Value} {M:List LockC} (h:OwnD base w v M) (hb:Below w.heap.size w w'):OwnD base w' v M:=⟨Rw.own_below h.row hb,fun x hx=>Rw.own_below (h.line x hx) hb,h.sep⟩
theorem OwnD.lower {base base':Nat} {w:World} {v:Value} {M:List LockC} (h:OwnD base w v M) (hb:base'<=base):OwnD base' w v M:=⟨own_lowerX h.row hb,fun x hx=>own_lowerX (h.line x hx) hb,h.sep⟩
theorem OwnD.push {base base':Nat} {wr w3 w6:World} {m v':Value} {M:List LockC} {x:LockC} (h:OwnD base wr m M) (hb:Below wr.heap.size wr w3)
  (hl:w3.ownsRow base' 3 1 x.lv x.line.length (flatX cellsI x.line)) (h1:wr.heap.size<=base') (hbs:base<=base') (hg:w3.grownBy w6 m.ownBlock)
  (ho:w6.ownsRow base 69 4 v' (M++ [x]).length (flatX cellsK (M++ [x]))):OwnD base w6 v' (M++ [x]):=by
 have hm:=(h.later hb).row
 refine⟨ho,fun y hy=>?_,List.pairwise_append.2 ⟨h.sep,List.pairwise_singleton _ _,fun a ha b hb'=>?_⟩⟩
 ·rcases List.mem_append.1 hy with q | q
  ·have hy':=(h.later hb).line y q
   exact Rw.own_other hy' hg (own_types hm hy' (by decide))
  ·rw[List.mem_singleton] at q
   subst q
   exact own_lowerX (Rw.own_other hl hg (own_types hm hl (by decide))) hbs
 ·rw[List.mem_singleton] at hb'
  subst hb'
  intro g q1 q2
  have a1:=(Rw.own_lt (h.line a ha) g q1).2
  have a2:=(Rw.own_lt hl g q2).1
  omega
def MadeC (l:List LockV) (w:World) (e:Ending) (w':World):Prop:=
 ∃v M,e= .returned v/\vals M=l/\OwnD w.heap.size w' v M/\Below w.heap.size w w'
set_option maxHeartbeats 4000000 in
theorem CopyK_any (v:Value) (L:List LockC) (w:World) (h:RdK w v L) (h5:L.length<=1000) (h6: ∀x∈L,x.line.length<=1000):Calls Tryz.prog 31 #[v] w (MadeC (vals L) w):=by
 have hm:=h.len
 obtain⟨a,cap,rfl⟩:=h.form
 have HA:=hid (fun i hi=>rdk_at h.row i hi)
 have HL:Hid (∀i (hi:i<L.length) (w':World),Below w.heap.size w w'->RdI w' L[i].lv L[i].line /\L[i].line.length <=1000):=hid fun i hi w' hb=>⟨(h.line _ (List.getElem_mem hi)).later hb,h6 _ (List.getElem_mem hi)⟩
 have HV:Hid (∀i (hi:i<L.length),vals (L.take (i+1))=vals (L.take i)++ [L[i].val]):=hid fun i hi=>by
  rw[List.take_succ_eq_append_getElem hi]
  unfold vals
  rw[List.map_append]
  rfl
 clear h h6
 obtain⟨N,hN⟩: ∃N,L.length=N:=⟨_,rfl⟩
 have HLL:=hid hN
 rw[hN] at hm h5 ⊢
 clear hN
 obtain⟨i0,hi,hz0,hz1,hz2⟩:=info_parts infoN
 obtain⟨i1,hi',hz0',hz1',hz2'⟩:=info_parts infoK
 go_enter Tryz.func31,Tryz.ntmps31
 go_wp2
 go_loopw [3,4] (fun m i wr=> ∃(k:Nat) (M:List LockC),k<=N/\i= .int .i64 k/\M.length=k/\Hid (vals M=vals (L.take k))/\Hid (OwnD w.heap.size wr m M)/\Hid (Below w.heap.size w wr)) (fun _ i _=>N - (intOf i).toNat)
 case atStart=>exact⟨0,[],by omega,rfl,rfl,hid rfl,hid (OwnD.nil _ _),hid (Below.refl _ _)⟩
 case round=>
  obtain⟨k,M,hk,rfl,hMk,HM,HO,HB⟩:=hrel
  by_cases hlt:k<N
  ·have hkl:k<L.length:=by rw[HLL.out];exact hlt
   obtain⟨b,o,rfl,hc⟩:=HA.out k hkl
   obtain⟨q0,q1,q2,q3⟩:=hc _ HB.out
   have hl:=HL.out k hkl
   have hv:=HV.out k hkl
   clear hc HA HL HV
   generalize L[k]=x at q0 q1 q2 q3 hl hv
   obtain⟨xn,xh,xt,xl,xa,xc⟩:=x
   unfold LockC.lv at q3 hl
   unfold LockC.val at hv
   dsimp only at q0 q1 q2 q3 hl hv
   obtain⟨W1,hW1⟩: ∃W1,W1=wr.alloc (.cells #[.string (bstr xn),.int .i64 xh,.int .i64 xt,.slice xa xl.length xc] 69):=⟨_,rfl⟩
   have HB1:Hid (Below wr.heap.size wr W1):=hid (by rw[hW1];exact newAlloc _ _)
   have hsz:W1.heap.size=wr.heap.size+1:=by rw[hW1];simp
   have HR:=hid ((hl _ (step (step HB.out HB1.out) (newAlloc W1 (.cells #[] 3)))).1)
   have hll:=(hl _ HB.out).2
   have HVV:=hid hv
   obtain⟨z0,z1,z2,z3⟩:=box4 (Below.refl _ (wr.alloc (.cells #[.string (bstr xn),.int .i64 xh,.int .i64 xt,.slice xa xl.length xc] 69)))
   rw[<-hW1] at z0 z1 z2 z3
   have zf: ∀j,W1.frozen? ⟨wr.heap.size,j,none⟩=false:=fun j=>by rw[hW1];simp [go_sem]
   clear hl hv
   go_upto_region 6 with fail
   rw[<-hW1]
   have z3':(W1.alloc (.cells #[] 3)).cell? ⟨wr.heap.size,3,none⟩=some (.slice xa xl.length xc):=((newAlloc W1 (.cells #[] 3)).cell (p:=⟨wr.heap.size,3,none⟩) (by rw[hsz];exact Nat.lt_succ_self _)).trans z3
   have hbl:wr.heap.size<W1.heap.size:=by omega
   clear hW1 hsz
   go_upto_region 7 with (at_builtin;refine wpList_append_rdx cellsI_length (by omega) cellsI_one rfl (.tmp 16) (.tmp 18) 34 rfl W1.heap.size 3 i0 _ 8 Tryz.underlying34 hi hz0 hz1 hz2 rfl _ 0 [] rfl (own_new W1 _ 1 _ _ rfl (Nat.le_refl _)) _ xl rfl (HR.out) (by unfold maxLen;omega) (by omega) (newAlloc W1 (.cells #[] 3)).size ?_;intro v1 w2 hown2 hgrow2;have HB2:Hid (Below W1.heap.size W1 w2):=hid ((newAlloc W1 (.cells #[] 3)).grown hgrow2 (newAlloc W1 (.cells #[] 3)).size (fun k hk=>by cases hk;exact Nat.le_refl _));have HO2:Hid (w2.ownsRow W1.heap.size 3 1 v1 xl.length (flatX cellsI xl)):=hid (by simpa using hown2);obtain⟨ya,yc,rfl⟩:=Rw.own_form HO2.out;have y3:=(HB2.out.cell (p:=⟨wr.heap.size,3,none⟩) hbl).trans z3;have yf:=(HB2.out.frozen (p:=⟨wr.heap.size,3,none⟩) hbl).trans (zf 3);clear hown2 hgrow2)
   obtain⟨W3,hW3⟩: ∃W3,W3=w2.setCell ⟨wr.heap.size,3,none⟩ (.slice ya xl.length yc):=⟨_,rfl⟩
   have y0:=(HB2.out.cell (p:=⟨wr.heap.size,0,none⟩) hbl).trans z0
   have y1:=(HB2.out.cell (p:=⟨wr.heap.size,1,none⟩) hbl).trans z1
   have y2:=(HB2.out.cell (p:=⟨wr.heap.size,2,none⟩) hbl).trans z2
   have t0:W3.cell? ⟨wr.heap.size,0,none⟩=some (.string (bstr xn)):=by rw[hW3];simp [go_sem,y0]
   have t1:W3.cell? ⟨wr.heap.size,1,none⟩=some (.int .i64 xh):=by rw[hW3];simp [go_sem,y1]
   have t2:W3.cell? ⟨wr.heap.size,2,none⟩=some (.int .i64 xt):=by rw[hW3];simp [go_sem,y2]
   have t3:W3.cell? ⟨wr.heap.size,3,none⟩=some (.slice ya xl.length yc):=by rw[hW3];simp [go_sem,y3,yf]
   have HB3:Hid (Below wr.heap.size wr W3):=hid (by rw[hW3];exact(step HB1.out HB2.out).setCell (Nat.le_refl _) _)
   have HO3:Hid (W3.ownsRow W1.heap.size 3 1 (.slice ya xl.length yc) xl.length (flatX cellsI xl)):=hid (by rw[hW3];exact ownsRow_setCell_below HO2.out hbl _)
   have HM3:Hid (W3.ownsRow w.heap.size 69 4 u3 M.length (flatX cellsK M)):=hid (HO.out.later HB3.out).row
   rw[<-hW3]
   clear hW3 y0 y1 y2 y3 yf z0 z1 z2 z3 z3' zf HO2 HB2 HR HB1
   have hb3:=HB3.out.size
   have hbw:=HB.out.size
   have HBL:=hid (Nat.le_of_lt hbl)
   clear hbl
   go_wp2_with (at_builtin;refine wpList_append_one_gr cellsK_length (by omega) rfl (.tmp 21) (.tmp 23) 25 rfl 69 i1 _ 56 Tryz.underlying25 hi' hz0' hz1' hz2' rfl #[.string (bstr xn),.int .i64 xh,.int .i64 xt,.slice ya xl.length yc] (⟨xn,xh,xt,xl,ya,yc⟩:LockC) rfl (cellsK_one _) M w.heap.size u3 rfl rfl HM3.out (by unfold maxLen;omega) (by omega) (by omega) ?_;intro v6 w6 ho6 hg6 _;have HO6:Hid (OwnD w.heap.size w6 v6 (M++ [⟨xn,xh,xt,xl,ya,yc⟩])):=hid (HO.out.push (x:=⟨xn,xh,xt,xl,ya,yc⟩) (stepAlloc HB3.out _) (Rw.own_alloc HO3.out _) HBL.out (Nat.le_trans hbw HBL.out) hg6 ho6);have HB6:Hid (Below w.heap.size w w6):=hid ((step HB.out (stepAlloc HB3.out _)).grown hg6 (by simp;omega) (fun g hg=>(Rw.own_lt HM3.out g hg).1));clear ho6 hg6)
   go_roundw
   case rel=>exact⟨k+1,M++ [⟨xn,xh,xt,xl,ya,yc⟩],by omega,by go_num,by simp;omega,hid (by rw[HVV.out,<-HM.out];unfold vals;rw[List.map_append];rfl),HO6,HB6⟩
   case measure=>simp [intOf];omega
  ·obtain rfl:k=N:=by omega
   go_wp2
   go_ret
   have hM:=HM.out
   rw[<-HLL.out,List.take_length] at hM
   exact⟨_,M,rfl,hM,HO.out,HB.out⟩
end Cm
end Go.Proofs.YthpknaieimlmnaaGreat
