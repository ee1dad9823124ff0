/- Texts laid together by program. -/
import Derived.Test.YtclcgkpfcogcdaaGreatQ12
import Derived.Test.YtclcgkpfcogcdaaGreatQ13
import Derived.Deep.RegionHeld3
/- Contracts: slices.Clone over what is held; package memo's copyOf, copies. -/
set_option linter.unusedVariables false
set_option maxRecDepth 8000
set_option linter.unusedSimpArgs false
namespace Go.Proofs.YtclcgkpfcogcdaaGreat
open Lib (hid)
open Go.RowKit Go.Shelf
namespace Cm

def MadeH (l:List GrantV) (w:World) (e:Ending) (w':World):Prop:=
 ∃v,e= .returned v/\w'.ownsRow w.heap.size 57 2 v l.length (flatX cellsG l)/\Below w.heap.size w w'
theorem RdH.x {w:World} {x:Addr} {n cap:Nat} {l:List GrantV} (h:RdH w (.slice (some x) n cap) l):RdX 2 cellsG w (.slice (some x) n cap) l:=by
 obtain⟨a',cap',hv,h1,h2,h3,h4⟩:=h.ex
 cases hv
 refine⟨some x,cap,rfl,h1,h2,(fun q=>by cases q),fun y hy hp=>?_⟩
 obtain⟨hs,hc⟩:=h4 y hy hp
 refine⟨hs,fun i hi j u hu=>?_⟩
 obtain⟨c1,c2⟩:=hc i hi
 match j,hu with
 | 0,hu=>cases hu;exact c1
 | 1,hu=>cases hu;exact c2
theorem CloneH_any (v:Value) (l:List GrantV) (w:World) (h:RdH w v l) (h5:l.length<=1000000):
  Calls Tryz.prog 110 #[v] w (MadeH l w):=by
 obtain⟨i0,hi,hz0,hz1,hz2⟩:=info_parts infoG8
 have heq: ∀w a n c,(binOp .eql 34 (.slice a n c) (.slice none 0 0)).run Tryz.prog w= .ok (.bool a.isNone) w:=fun w a n c=>Lib.run_eql_slice_nil w 34 57 a n c 0 0 Tryz.underlying34
 obtain⟨a,cap,rfl, -, -,hn, -⟩:=h.ex
 cases a with
 | none=>
  have hl:l= []:=hn rfl
  subst hl
  clear h hn
  go_enter Tryz.func110,Tryz.ntmps110
  go_wp2
  go_ret
  exact⟨_,rfl,World.ownsRow_nil _ _ _ _,Below.refl _ _⟩
 | some ad=>
  have HR2:=hid (fun o=>h.x.later (newAlloc w o))
  clear h hn
  go_enter Tryz.func110,Tryz.ntmps110
  go_wp2_with (at_builtin;refine wpList_append_rdx cellsG_length (by omega) cellsG_one rfl _ _ 34 rfl w.heap.size 57 i0 _ 24 Tryz.underlying34 hi hz0 hz1 hz2 rfl _ 0 [] rfl (own_new w _ 2 _ _ rfl (Nat.le_refl _)) _ l rfl (HR2.out _) (by unfold maxLen;omega) (by omega) (newAlloc w (.cells #[] 57)).size ?_;intro v1 w2 hown2 hgrow2)
  go_ret
  refine⟨_,rfl,by simpa using hown2,(newAlloc w (.cells #[] 57)).grown hgrow2 (newAlloc w (.cells #[] 57)).size (fun k hk=>?_)⟩
  cases hk
  exact Nat.le_refl _
def IsCopyM (x:AnsV) (w:World) (e:Ending) (w':World):Prop:=
 ∃a c,e= .returned (.agg #[.int .i64 x.client,.int .i64 x.seq,.int .i64 x.rep.code,.int .i64 x.rep.session,.int .i64 x.rep.ahead,.slice a x.rep.held.length c])/\w'.ownsRow w.heap.size 57 2 (.slice a x.rep.held.length c) x.rep.held.length (flatX cellsG x.rep.held)/\Below w.heap.size w w'
set_option maxHeartbeats 2000000 in
theorem copyOfM_any (x:MemC) (w:World) (hl:RdH w x.hv x.m.rep.held) (h5:x.m.rep.held.length<=1000):Calls Tryz.prog 114 #[memVal x] w (IsCopyM x.m w):=by
 obtain⟨⟨xc,xs,xk,xn,xd,xl⟩,xa,xp⟩:=x
 unfold memVal IsCopyM
 unfold MemC.hv at hl ⊢
 dsimp only at hl h5 ⊢
 have hb1:=newAlloc w (.cells #[.int .i64 xc,.int .i64 xs,.int .i64 xk,.int .i64 xn,.int .i64 xd,.slice xa xl.length xp] 51)
 obtain⟨c0,c1,c2,c3,c4,c5⟩:=box6 (Below.refl _ (w.alloc (.cells #[.int .i64 xc,.int .i64 xs,.int .i64 xk,.int .i64 xn,.int .i64 xd,.slice xa xl.length xp] 51)))
 have cf:=free6m (Below.refl _ (w.alloc (.cells #[.int .i64 xc,.int .i64 xs,.int .i64 xk,.int .i64 xn,.int .i64 xd,.slice xa xl.length xp] 51)))
 obtain⟨W1,hW1⟩: ∃W1,W1=w.alloc (.cells #[.int .i64 xc,.int .i64 xs,.int .i64 xk,.int .i64 xn,.int .i64 xd,.slice xa xl.length xp] 51):=⟨_,rfl⟩
 rw[<-hW1] at hb1 c0 c1 c2 c3 c4 c5 cf
 have hs:W1.heap.size=w.heap.size+1:=by rw[hW1];simp
 have hb2:=newAlloc W1 (.cells #[.int .i64 0,.int .i64 0,.int .i64 0,.int .i64 0,.int .i64 0,.slice none 0 0] 51)
 have k0:=(hb2.cell (lt_of_cell c0)).trans c0
 have k1:=(hb2.cell (lt_of_cell c1)).trans c1
 have k2:=(hb2.cell (lt_of_cell c2)).trans c2
 have k3:=(hb2.cell (lt_of_cell c3)).trans c3
 have k4:=(hb2.cell (lt_of_cell c4)).trans c4
 have k5:=(hb2.cell (lt_of_cell c5)).trans c5
 have kf: ∀k,(W1.alloc (.cells #[.int .i64 0,.int .i64 0,.int .i64 0,.int .i64 0,.int .i64 0,.slice none 0 0] 51)).frozen? ⟨w.heap.size,k,none⟩=false:=fun k=>(hb2.frozen (p:=⟨w.heap.size,k,none⟩) (show w.heap.size< _ from lt_of_cell c0)).trans (cf k)
 obtain⟨d0,d1,d2,d3,d4,d5⟩:=box6 (Below.refl _ (W1.alloc (.cells #[.int .i64 0,.int .i64 0,.int .i64 0,.int .i64 0,.int .i64 0,.slice none 0 0] 51)))
 have df:=free6m (Below.refl _ (W1.alloc (.cells #[.int .i64 0,.int .i64 0,.int .i64 0,.int .i64 0,.int .i64 0,.slice none 0 0] 51)))
 obtain⟨W2,hW2⟩: ∃W2,W2=W1.alloc (.cells #[.int .i64 0,.int .i64 0,.int .i64 0,.int .i64 0,.int .i64 0,.slice none 0 0] 51):=⟨_,rfl⟩
 rw[<-hW2] at hb2 k0 k1 k2 k3 k4 k5 kf d0 d1 d2 d3 d4 d5 df
 rw[hs] at d0 d1 d2 d3 d4 d5 df
 have HB:=hid (step hb1 hb2)
 have hs2:W2.heap.size=w.heap.size+2:=by rw[hW2];simp [hs]
 have HS2:=hid hs2
 have HQ:Hid (∀w',Below W2.heap.size W2 w'->(w'.cell? ⟨w.heap.size,0,none⟩=some (.int .i64 xc)/\w'.cell? ⟨w.heap.size,1,none⟩=some (.int .i64 xs)/\w'.cell? ⟨w.heap.size,2,none⟩=some (.int .i64 xk)/\w'.cell? ⟨w.heap.size,3,none⟩=some (.int .i64 xn)/\w'.cell? ⟨w.heap.size,4,none⟩=some (.int .i64 xd)/\w'.cell? ⟨w.heap.size,5,none⟩=some (.slice xa xl.length xp))/\ ∀k,w'.frozen? ⟨w.heap.size,k,none⟩=false):=hid fun w' hb=>⟨⟨(hb.cell (lt_of_cell k0)).trans k0,(hb.cell (lt_of_cell k1)).trans k1,(hb.cell (lt_of_cell k2)).trans k2,(hb.cell (lt_of_cell k3)).trans k3,(hb.cell (lt_of_cell k4)).trans k4,(hb.cell (lt_of_cell k5)).trans k5⟩,fun k=>(hb.frozen (p:=⟨w.heap.size,k,none⟩) (show w.heap.size< _ from lt_of_cell k0)).trans (kf k)⟩
 have HD:Hid (∀w',Below W2.heap.size W2 w'->(w'.cell? ⟨w.heap.size+1,0,none⟩=some (.int .i64 0)/\w'.cell? ⟨w.heap.size+1,1,none⟩=some (.int .i64 0)/\w'.cell? ⟨w.heap.size+1,2,none⟩=some (.int .i64 0)/\w'.cell? ⟨w.heap.size+1,3,none⟩=some (.int .i64 0)/\w'.cell? ⟨w.heap.size+1,4,none⟩=some (.int .i64 0)/\w'.cell? ⟨w.heap.size+1,5,none⟩=some (.slice none 0 0))/\ ∀k,w'.frozen? ⟨w.heap.size+1,k,none⟩=false):=hid fun w' hb=>⟨⟨(hb.cell (lt_of_cell d0)).trans d0,(hb.cell (lt_of_cell d1)).trans d1,(hb.cell (lt_of_cell d2)).trans d2,(hb.cell (lt_of_cell d3)).trans d3,(hb.cell (lt_of_cell d4)).trans d4,(hb.cell (lt_of_cell d5)).trans d5⟩,fun k=>(hb.frozen (p:=⟨w.heap.size+1,k,none⟩) (show w.heap.size+1< _ from lt_of_cell d0)).trans (df k)⟩
 have KC:Hid (∀w',Below W2.heap.size W2 w'->Calls Tryz.prog 110 #[.slice xa xl.length xp] w' (MadeH xl w')):=hid fun w' hb=>CloneH_any _ xl w' (hl.later (step HB.out hb)) (by omega)
 clear hb1 hb2 c0 c1 c2 c3 c4 c5 cf k0 k1 k2 k3 k4 k5 kf d0 d1 d2 d3 d4 d5 df hl
 obtain⟨L,hL⟩: ∃L,xl.length=L:=⟨_,rfl⟩
 have HL:=hid hL
 rw[hL] at h5 HQ KC ⊢
 rw[hL] at hW1
 clear hL
 go_enter Tryz.func114,Tryz.ntmps114
 go_upto_region 1 with fail
 rw[<-hW1,<-hW2]
 clear hW1 hW2 hs hs2
 obtain⟨⟨k0,k1,k2,k3,k4,k5⟩, -⟩:=HQ.out _ (Below.refl _ W2)
 go_upto_region 2 with (go_at_call 110;refine(KC.out _ (Below.refl _ _)).mono ?_;rintro e w6 ⟨v6,rfl,ho6,hb6⟩;have HO6:=hid ho6;obtain⟨a6,c6,rfl⟩:=Rw.own_form HO6.out;have HB6:=hid hb6;obtain⟨⟨p0,p1,p2,p3,p4,p5⟩,pf⟩:=HQ.out _ hb6;clear ho6 hb6)
 obtain⟨W7,hW7⟩: ∃W7,W7=w6.setCell ⟨w.heap.size,5,none⟩ (.slice a6 xl.length c6):=⟨_,rfl⟩
 obtain⟨⟨y0,y1,y2,y3,y4,y5⟩,yf⟩:=HD.out _ HB6.out
 have t0:W7.cell? ⟨w.heap.size,0,none⟩=some (.int .i64 xc):=by rw[hW7];simp [go_sem,p0]
 have t1:W7.cell? ⟨w.heap.size,1,none⟩=some (.int .i64 xs):=by rw[hW7];simp [go_sem,p1]
 have t2:W7.cell? ⟨w.heap.size,2,none⟩=some (.int .i64 xk):=by rw[hW7];simp [go_sem,p2]
 have t3:W7.cell? ⟨w.heap.size,3,none⟩=some (.int .i64 xn):=by rw[hW7];simp [go_sem,p3]
 have t4:W7.cell? ⟨w.heap.size,4,none⟩=some (.int .i64 xd):=by rw[hW7];simp [go_sem,p4]
 have t5:W7.cell? ⟨w.heap.size,5,none⟩=some (.slice a6 xl.length c6):=by rw[hW7];simp [go_sem,p5,pf]
 have e0:W7.cell? ⟨w.heap.size+1,0,none⟩=some (.int .i64 0):=by rw[hW7];simp [go_sem,y0]
 have e1:W7.cell? ⟨w.heap.size+1,1,none⟩=some (.int .i64 0):=by rw[hW7];simp [go_sem,y1]
 have e2:W7.cell? ⟨w.heap.size+1,2,none⟩=some (.int .i64 0):=by rw[hW7];simp [go_sem,y2]
 have e3:W7.cell? ⟨w.heap.size+1,3,none⟩=some (.int .i64 0):=by rw[hW7];simp [go_sem,y3]
 have e4:W7.cell? ⟨w.heap.size+1,4,none⟩=some (.int .i64 0):=by rw[hW7];simp [go_sem,y4]
 have e5:W7.cell? ⟨w.heap.size+1,5,none⟩=some (.slice none 0 0):=by rw[hW7];simp [go_sem,y5]
 have ef: ∀k,W7.frozen? ⟨w.heap.size+1,k,none⟩=false:=fun k=>by rw[hW7];simp [go_sem,yf]
 have hs2:=HS2.out
 have hlt:w.heap.size+1<W2.heap.size:=by omega
 have hlt0:w.heap.size<W2.heap.size:=by omega
 have HO7:Hid (W7.ownsRow W2.heap.size 57 2 (.slice a6 xl.length c6) xl.length (flatX cellsG xl)):=hid (by rw[hW7];exact ownsRow_setCell_below HO6.out hlt0 _)
 have HB7:Hid (Below w.heap.size w W7):=hid (by rw[hW7];exact(step HB.out HB6.out).setCell (Nat.le_refl _) _)
 rw[<-hW7]
 clear hW7 HO6 HQ HD KC k0 k1 k2 k3 k4 k5 p0 p1 p2 p3 p4 p5 pf y0 y1 y2 y3 y4 y5 yf hs2
 go_wp2
 refine bodyPost_ret (by simp [results,Tryz.results114,go_sem,e0,e1,e2,e3,e4,e5,ef]<;>rfl) rfl ?_
 have ho:=HO7.out
 rw[HL.out] at ho ⊢
 refine⟨a6,c6,rfl,own_lowerX (ownsRow_setCell_below (ownsRow_setCell_below (ownsRow_setCell_below (ownsRow_setCell_below (ownsRow_setCell_below (ownsRow_setCell_below ho hlt _) hlt _) hlt _) hlt _) hlt _) hlt _) HB.out.size,set6m HB7.out _ (Nat.le_succ _) _ _ _ _ _ _⟩
structure OwnM (base:Nat) (w:World) (v:Value) (M:List MemC):Prop where
 row:w.ownsRow base 51 6 v M.length (flatX cellsM M)
 held: ∀x∈M,w.ownsRow base 57 2 x.hv x.m.rep.held.length (flatX cellsG x.m.rep.held)
theorem OwnM.nil (base:Nat) (w:World):OwnM base w (.slice none 0 0) []:=⟨World.ownsRow_nil _ _ _ _,fun x hx=>by cases hx⟩
theorem OwnM.rd {base:Nat} {w:World} {v:Value} {M:List MemC} (h:OwnM base w v M):RdM w v M:=⟨RdX.own cellsM_length h.row,fun x hx=>RdH.of (RdX.own cellsG_length (h.held x hx))⟩
theorem OwnM.later {base:Nat} {w w':World} {v:Value} {M:List MemC} (h:OwnM base w v M) (hb:Below w.heap.size w w'):OwnM base w' v M:=⟨Rw.own_below h.row hb,fun x hx=>Rw.own_below (h.held x hx) hb⟩
theorem OwnM.lower {base base':Nat} {w:World} {v:Value} {M:List MemC} (h:OwnM base w v M) (hb:base'<=base):OwnM base' w v M:=⟨own_lowerX h.row hb,fun x hx=>own_lowerX (h.held x hx) hb⟩
theorem OwnM.kept {base:Nat} {w w':World} {v:Value} {M:List MemC} (h:OwnM base w v M) (hg:w.grownBy w' v.ownBlock): ∀x∈M,w'.ownsRow base 57 2 x.hv x.m.rep.held.length (flatX cellsG x.m.rep.held):=
 fun x hx=>Rw.own_other (h.held x hx) hg (own_types h.row (h.held x hx) (by decide))
theorem OwnM.push {base base':Nat} {wr w3 w6:World} {m v':Value} {M:List MemC} {x:MemC} (h:OwnM base wr m M) (hb:Below wr.heap.size wr w3)
  (hl:w3.ownsRow base' 57 2 x.hv x.m.rep.held.length (flatX cellsG x.m.rep.held)) (hbs:base<=base') (hg:w3.grownBy w6 m.ownBlock)
  (ho:w6.ownsRow base 51 6 v' (M++ [x]).length (flatX cellsM (M++ [x]))):OwnM base w6 v' (M++ [x]):=by
 have hm:=h.later hb
 refine⟨ho,fun y hy=>?_⟩
 rcases List.mem_append.1 hy with q | q
 ·exact hm.kept hg y q
 ·rw[List.mem_singleton] at q
  subst q
  exact own_lowerX (Rw.own_other hl hg (own_types hm.row hl (by decide))) hbs
def MadeM (l:List AnsV) (w:World) (e:Ending) (w':World):Prop:=
 ∃v M,e= .returned v/\valsM M=l/\OwnM w.heap.size w' v M/\Below w.heap.size w w'
set_option maxHeartbeats 4000000 in
theorem copiesM_any (v:Value) (L:List MemC) (w:World) (h:RdM w v L) (h5:L.length<=1000) (h6: ∀x∈L,x.m.rep.held.length<=1000):Calls Tryz.prog 121 #[v] w (MadeM (valsM L) w):=by
 have hm:=h.len
 obtain⟨a,cap,rfl⟩:=h.form
 have HA:=hid (fun i hi=>rdm_at h.row i hi)
 have HL:Hid (∀i (hi:i<L.length) (w':World),Below w.heap.size w w'->Calls Tryz.prog 114 #[memVal L[i]] w' (IsCopyM L[i].m w')):=hid fun i hi w' hb=>copyOfM_any _ w' ((h.held _ (List.getElem_mem hi)).later hb) (h6 _ (List.getElem_mem hi))
 have HV:Hid (∀i (hi:i<L.length),valsM (L.take (i+1))=valsM (L.take i)++ [L[i].m]):=hid fun i hi=>by
  rw[List.take_succ_eq_append_getElem hi]
  unfold valsM
  rw[List.map_append]
  rfl
 clear h h6
 obtain⟨N,hN⟩: ∃N,L.length=N:=⟨_,rfl⟩
 have HLL:=hid hN
 rw[hN] at hm h5 ⊢
 clear hN
 obtain⟨i1,hi',hz0',hz1',hz2'⟩:=info_parts infoM
 go_enter Tryz.func121,Tryz.ntmps121
 go_wp2
 go_loopw [3,8] (fun m i wr=> ∃(k:Nat) (M:List MemC),k<=N/\i= .int .i64 k/\M.length=k/\Hid (valsM M=valsM (L.take k))/\Hid (OwnM w.heap.size wr m M)/\Hid (Below w.heap.size w wr)) (fun _ i _=>N - (intOf i).toNat)
 case atStart=>exact⟨0,[],by omega,rfl,rfl,hid rfl,hid (OwnM.nil _ _),hid (Below.refl _ _)⟩
 case round=>
  obtain⟨k,M,hk,rfl,hMk,HM,HO,HB⟩:=hrel
  by_cases hlt:k<N
  ·have hkl:k<L.length:=by rw[HLL.out];exact hlt
   obtain⟨b,o,rfl,hc⟩:=HA.out k hkl
   obtain⟨q0,q1,q2,q3,q4,q5⟩:=hc _ HB.out
   have hl:=HL.out k hkl
   have hv:=HV.out k hkl
   clear hc HA HL HV
   generalize L[k]=x at q0 q1 q2 q3 q4 q5 hl hv
   obtain⟨⟨xc,xs,xk,xn,xd,xl⟩,xa,xp⟩:=x
   unfold memVal MemC.hv IsCopyM at hl
   unfold MemC.hv at q5
   dsimp only at q0 q1 q2 q3 q4 q5 hl hv
   have HVV:=hid hv
   have HCC:=hid hl
   clear hl hv
   go_upto_region 5 with fail
   obtain⟨W1,hW1⟩: ∃W1,W1=wr.alloc (.cells #[.int .i64 xc,.int .i64 xs,.int .i64 xk,.int .i64 xn,.int .i64 xd,.slice xa xl.length xp] 51):=⟨_,rfl⟩
   have HB1:Hid (Below wr.heap.size wr W1):=hid (by rw[hW1];exact newAlloc _ _)
   obtain⟨z0,z1,z2,z3,z4,z5⟩:=box6 (Below.refl _ (wr.alloc (.cells #[.int .i64 xc,.int .i64 xs,.int .i64 xk,.int .i64 xn,.int .i64 xd,.slice xa xl.length xp] 51)))
   rw[<-hW1] at z0 z1 z2 z3 z4 z5 ⊢
   clear hW1 q0 q1 q2 q3 q4 q5
   have HCC:=hid (HCC.out W1 (step HB.out HB1.out))
   have hb1:=HB1.out.size
   have hbw:=HB.out.size
   go_wp2_with (first
    | (go_at_call 114;refine HCC.out.mono ?_;rintro e w3 ⟨ya,yc,rfl,hl3,hb3⟩;have HO3:=hid hl3;have HB3:=hid (step HB1.out hb3);have HM3:Hid (w3.ownsRow w.heap.size 51 6 u3 M.length (flatX cellsM M)):=hid (HO.out.later HB3.out).row;have hb3s:=hb3.size;clear hl3 hb3)
    | (at_builtin;refine wpList_append_one_gr cellsM_length (by omega) rfl (.tmp 12) (.tmp 15) 24 rfl 51 i1 _ 64 Tryz.underlying24 hi' hz0' hz1' hz2' rfl #[.int .i64 xc,.int .i64 xs,.int .i64 xk,.int .i64 xn,.int .i64 xd,.slice ya xl.length yc] (⟨⟨xc,xs,xk,xn,xd,xl⟩,ya,yc⟩:MemC) rfl (cellsM_one _) M w.heap.size u3 rfl rfl HM3.out (by unfold maxLen;omega) (by omega) (by omega) ?_;intro v6 w6 ho6 hg6 _;have HO6:Hid (OwnM w.heap.size w6 v6 (M++ [⟨⟨xc,xs,xk,xn,xd,xl⟩,ya,yc⟩])):=hid (HO.out.push (x:=⟨⟨xc,xs,xk,xn,xd,xl⟩,ya,yc⟩) (stepAlloc HB3.out _) (Rw.own_alloc HO3.out _) (Nat.le_trans hbw hb1) hg6 ho6);have HB6:Hid (Below w.heap.size w w6):=hid ((step HB.out (stepAlloc HB3.out _)).grown hg6 (by simp;omega) (fun g hg=>(Rw.own_lt HM3.out g hg).1));clear ho6 hg6))
   go_roundw
   case rel=>exact⟨k+1,M++ [⟨⟨xc,xs,xk,xn,xd,xl⟩,ya,yc⟩],by omega,by go_num,by simp;omega,hid (by rw[HVV.out,<-HM.out];unfold valsM;rw[List.map_append];rfl),HO6,HB6⟩
   case measure=>simp [intOf];omega
  ·obtain rfl:k=N:=by omega
   go_wp2
   go_ret
   have hM:=HM.out
   rw[<-HLL.out,List.take_length] at hM
   exact⟨_,M,rfl,hM,HO.out,HB.out⟩
end Cm
end Go.Proofs.YtclcgkpfcogcdaaGreat

/- States in memory: where their lists lie; what a call's result has new, and what it has of what was handed in. Contract: padlockref6's Same. -/
set_option linter.unusedVariables false
set_option maxRecDepth 8000
set_option linter.unusedSimpArgs false
namespace Go.Proofs.YtclcgkpfcogcdaaGreat
open Lib (hid)
open Go.RowKit
namespace Cm

structure StC where
 time:Int
 num:Int
 token:Int
 S:List SesV
 sa:Option Addr
 sc:Nat
 K:List LockC
 ka:Option Addr
 kc:Nat
 M:List MemC
 ma:Option Addr
 mc:Nat
def StC.sv (x:StC):Value:=.slice x.sa x.S.length x.sc
def StC.kv (x:StC):Value:=.slice x.ka x.K.length x.kc
def StC.mv (x:StC):Value:=.slice x.ma x.M.length x.mc
def StC.v (x:StC):StV:=⟨x.time,x.num,x.token,x.S,vals x.K,valsM x.M⟩
def stVal (x:StC):Value:=.agg #[.int .i64 x.time,.int .i64 x.num,.int .i64 x.token,x.sv,x.kv,x.mv]
def zeroC10:StC:=⟨0,0,0,[],none,0,[],none,0,[],none,0⟩
structure RdSt (w:World) (x:StC):Prop where
 s:RdS w x.sv x.S
 k:RdK w x.kv x.K
 m:RdM w x.mv x.M
theorem RdSt.later {w w':World} {x:StC} (h:RdSt w x) (hb:Below w.heap.size w w'):RdSt w' x:=⟨h.s.later hb,h.k.later hb,h.m.later hb⟩
theorem RdSt.zero (w:World):RdSt w zeroC10:=⟨RdX.nil w,⟨RdX.nil w,fun x hx=>by cases hx⟩,RdM.nil w⟩
structure FromS (base:Nat) (w:World) (x y:StC):Prop where
 s:(y.S=x.S/\y.sa=x.sa/\y.sc=x.sc)\/w.ownsRow base 46 3 y.sv y.S.length (flatX cellsS y.S)
 k:(y.K=x.K/\y.ka=x.ka/\y.kc=x.kc)\/OwnN base w y.kv y.K
 m:(y.M=x.M/\y.ma=x.ma/\y.mc=x.mc)\/(w.ownsRow base 51 6 y.mv y.M.length (flatX cellsM y.M)/\ ∀z∈y.M,z∈x.M\/w.ownsRow base 57 2 z.hv z.m.rep.held.length (flatX cellsG z.m.rep.held))
theorem FromS.refl (base:Nat) (w:World) (x:StC):FromS base w x x:=⟨.inl ⟨rfl,rfl,rfl⟩,.inl ⟨rfl,rfl,rfl⟩,.inl ⟨rfl,rfl,rfl⟩⟩
theorem FromS.later {base:Nat} {w w':World} {x y:StC} (h:FromS base w x y) (hb:Below w.heap.size w w'):FromS base w' x y:=
 ⟨h.s.imp id fun q=>Rw.own_below q hb,h.k.imp id fun q=>q.later hb,h.m.imp id fun q=>⟨Rw.own_below q.1 hb,fun z hz=>(q.2 z hz).imp id fun r=>Rw.own_below r hb⟩⟩
theorem FromS.lower {base base':Nat} {w:World} {x y:StC} (h:FromS base w x y) (hb:base'<=base):FromS base' w x y:=
 ⟨h.s.imp id fun q=>own_lowerX q hb,h.k.imp id fun q=>q.lower hb,h.m.imp id fun q=>⟨own_lowerX q.1 hb,fun z hz=>(q.2 z hz).imp id fun r=>own_lowerX r hb⟩⟩
theorem FromS.trans {base:Nat} {w:World} {x y z:StC} (h:FromS base w x y) (h2:FromS base w y z):FromS base w x z:=by
 refine⟨?_,?_,?_⟩
 ·rcases h2.s with ⟨q1,q2,q3⟩ | q
  ·rcases h.s with ⟨p1,p2,p3⟩ | p
   ·exact .inl ⟨q1.trans p1,q2.trans p2,q3.trans p3⟩
   ·refine .inr ?_
    unfold StC.sv at p ⊢
    rw[q1,q2,q3];exact p
  ·exact .inr q
 ·rcases h2.k with ⟨q1,q2,q3⟩ | q
  ·rcases h.k with ⟨p1,p2,p3⟩ | p
   ·exact .inl ⟨q1.trans p1,q2.trans p2,q3.trans p3⟩
   ·refine .inr ?_
    unfold StC.kv at p ⊢
    rw[q1,q2,q3];exact p
  ·exact .inr q
 ·rcases h2.m with ⟨q1,q2,q3⟩ | ⟨q,q'⟩
  ·rcases h.m with ⟨p1,p2,p3⟩ | ⟨p,p'⟩
   ·exact .inl ⟨q1.trans p1,q2.trans p2,q3.trans p3⟩
   ·refine .inr ?_
    unfold StC.mv at p ⊢
    rw[q1,q2,q3];exact⟨p,p'⟩
  ·refine .inr ⟨q,fun z hz=>?_⟩
   rcases q' z hz with r | r
   ·rcases h.m with ⟨p1,p2,p3⟩ | ⟨p,p'⟩
    ·exact .inl (p1 ▸ r)
    ·exact p' z r
   ·exact .inr r
theorem FromS.rd {base:Nat} {w:World} {x y:StC} (h:FromS base w x y) (hx:RdSt w x):RdSt w y:=by
 refine⟨?_,?_,?_⟩
 ·rcases h.s with ⟨q1,q2,q3⟩ | q
  ·have:=hx.s
   unfold StC.sv at this ⊢
   rw[q1,q2,q3];exact this
  ·exact RdX.own cellsS_length q
 ·rcases h.k with ⟨q1,q2,q3⟩ | q
  ·have:=hx.k
   unfold StC.kv at this ⊢
   rw[q1,q2,q3];exact this
  ·exact q.rd
 ·rcases h.m with ⟨q1,q2,q3⟩ | ⟨q,q'⟩
  ·have:=hx.m
   unfold StC.mv at this ⊢
   rw[q1,q2,q3];exact this
  ·refine⟨RdX.own cellsM_length q,fun z hz=>?_⟩
   rcases q' z hz with r | r
   ·exact hx.m.held z r
   ·exact RdH.of (RdX.own cellsG_length r)
theorem NewI.setBelow {base:Nat} {w:World} {u:Value} {l:List Int} (h:NewI base w u l) {g:Nat} (hg:g<base) (j:Nat) (y:Value):NewI base (w.setCell ⟨g,j,none⟩ y) u l:=by
 obtain⟨hr,ho⟩:=h
 obtain⟨a,cap,rfl,h1,h2,h3,h4⟩:=hr.ex
 refine⟨⟨a,cap,rfl,h1,h2,h3,fun x hx hp=>?_⟩,fun k hk=>?_⟩
 ·obtain⟨hs,hc⟩:=h4 x hx hp
  refine⟨hs,fun i hi n q hq=>?_⟩
  have hcell:=hc i hi n q hq
  have hk:(Value.slice a l.length cap).ownBlock =some x.block:=by subst hx;rfl
  have hne:=(ho _ hk).1
  simp only[World.cell?] at hcell ⊢
  rw[Below.heap_setCell w ⟨g,j,none⟩ y x.block (fun q=>by have:x.block=g:=q;omega)]
  exact hcell
 ·obtain⟨h5,cs,h6⟩:=ho k hk
  refine⟨h5,cs,?_⟩
  rw[Below.heap_setCell w ⟨g,j,none⟩ y k (fun q=>by have:k=g:=q;omega)]
  exact h6
theorem OwnN.setBelow {base:Nat} {w:World} {v:Value} {M:List LockC} (h:OwnN base w v M) {g:Nat} (hg:g<base) (j:Nat) (y:Value):OwnN base (w.setCell ⟨g,j,none⟩ y) v M:=
 ⟨ownsRow_setCell_below h.row hg _,fun x hx=>(h.line x hx).setBelow hg j y⟩
theorem FromS.setBelow {base:Nat} {w:World} {x y:StC} (h:FromS base w x y) {g:Nat} (hg:g<base) (j:Nat) (u:Value):FromS base (w.setCell ⟨g,j,none⟩ u) x y:=
 ⟨h.s.imp id fun q=>ownsRow_setCell_below q hg _,h.k.imp id fun q=>q.setBelow hg j u,h.m.imp id fun q=>⟨ownsRow_setCell_below q.1 hg _,fun z hz=>(q.2 z hz).imp id fun r=>ownsRow_setCell_below r hg _⟩⟩
def GetsSt (r:StV) (x:StC) (w:World) (e:Ending) (w':World):Prop:=
 ∃y:StC,e= .returned (stVal y)/\y.v=r/\FromS w.heap.size w' x y/\Below w.heap.size w w'
end Cm
end Go.Proofs.YtclcgkpfcogcdaaGreat

/- States in a box of the call's own; contract: padlockref6's drop. -/
set_option linter.unusedVariables false
set_option maxRecDepth 8000
set_option linter.unusedSimpArgs false
namespace Go.Proofs.YtclcgkpfcogcdaaGreat
open Lib (hid)
open Go.RowKit
namespace Cm

structure BoxS (w:World) (b:Nat) (x:StC):Prop where
 c0:w.cell? ⟨b,0,none⟩=some (.int .i64 x.time)
 c1:w.cell? ⟨b,1,none⟩=some (.int .i64 x.num)
 c2:w.cell? ⟨b,2,none⟩=some (.int .i64 x.token)
 c3:w.cell? ⟨b,3,none⟩=some x.sv
 c4:w.cell? ⟨b,4,none⟩=some x.kv
 c5:w.cell? ⟨b,5,none⟩=some x.mv
 fr: ∀k,w.frozen? ⟨b,k,none⟩=false
theorem BoxS.lt {w:World} {b:Nat} {x:StC} (h:BoxS w b x):b<w.heap.size:=lt_of_cell h.c0
theorem BoxS.later {w w':World} {b:Nat} {x:StC} (h:BoxS w b x) (hb:Below w.heap.size w w'):BoxS w' b x:=
 ⟨(hb.cell (lt_of_cell h.c0)).trans h.c0,(hb.cell (lt_of_cell h.c1)).trans h.c1,(hb.cell (lt_of_cell h.c2)).trans h.c2,(hb.cell (lt_of_cell h.c3)).trans h.c3,(hb.cell (lt_of_cell h.c4)).trans h.c4,(hb.cell (lt_of_cell h.c5)).trans h.c5,fun k=>(hb.frozen (p:=⟨b,k,none⟩) h.lt).trans (h.fr k)⟩
theorem BoxS.new (w:World) (x:StC) (t:TypeId):BoxS (w.alloc (.cells #[.int .i64 x.time,.int .i64 x.num,.int .i64 x.token,x.sv,x.kv,x.mv] t)) w.heap.size x:=by
 obtain⟨c0,c1,c2,c3,c4,c5⟩:=box6 (Below.refl _ (w.alloc (.cells #[.int .i64 x.time,.int .i64 x.num,.int .i64 x.token,x.sv,x.kv,x.mv] t)))
 exact⟨c0,c1,c2,c3,c4,c5,free6m (Below.refl _ _)⟩
theorem BoxS.other {w:World} {b g:Nat} {x:StC} (h:BoxS w b x) (hg:g≠b) (j:Nat) (v:Value):BoxS (w.setCell ⟨g,j,none⟩ v) b x:=by
 obtain⟨c0,c1,c2,c3,c4,c5,fr⟩:=h
 have hn: ∀k,(w.setCell ⟨g,j,none⟩ v).cell? ⟨b,k,none⟩=w.cell? ⟨b,k,none⟩:=fun k=>by
  simp only[World.cell?]
  rw[Below.heap_setCell w ⟨g,j,none⟩ v b (fun q=>hg (by have:b=g:=q;exact this.symm))]
 refine⟨(hn 0).trans c0,(hn 1).trans c1,(hn 2).trans c2,(hn 3).trans c3,(hn 4).trans c4,(hn 5).trans c5,fun k=>?_⟩
 rw[<-fr k]
 simp [go_sem]
theorem BoxS.other6 {w:World} {b g:Nat} {x:StC} (h:BoxS w b x) (hg:g≠b) (v0 v1 v2 v3 v4 v5:Value):BoxS ((((((w.setCell ⟨g,0,none⟩ v0).setCell ⟨g,1,none⟩ v1).setCell ⟨g,2,none⟩ v2).setCell ⟨g,3,none⟩ v3).setCell ⟨g,4,none⟩ v4).setCell ⟨g,5,none⟩ v5) b x:=
 (((((h.other hg 0 v0).other hg 1 v1).other hg 2 v2).other hg 3 v3).other hg 4 v4).other hg 5 v5
theorem BoxS.cells {w:World} {b:Nat} {t n k:Int} {S:List SesV} {sa:Option Addr} {sc:Nat} {K:List LockC} {ka:Option Addr} {kc:Nat} {M:List MemC} {ma:Option Addr} {mc:Nat} (h:BoxS w b ⟨t,n,k,S,sa,sc,K,ka,kc,M,ma,mc⟩):
  (w.cell? ⟨b,0,none⟩=some (.int .i64 t)/\w.cell? ⟨b,1,none⟩=some (.int .i64 n)/\w.cell? ⟨b,2,none⟩=some (.int .i64 k))/\w.cell? ⟨b,3,none⟩=some (.slice sa S.length sc)/\w.cell? ⟨b,4,none⟩=some (.slice ka K.length kc)/\w.cell? ⟨b,5,none⟩=some (.slice ma M.length mc):=
 ⟨⟨h.c0,h.c1,h.c2⟩,h.c3,h.c4,h.c5⟩
theorem BoxS.set0 {w:World} {b:Nat} {x:StC} (h:BoxS w b x) (t:Int):BoxS (w.setCell ⟨b,0,none⟩ (.int .i64 t)) b { x with time:=t } :=by
 obtain⟨c0,c1,c2,c3,c4,c5,fr⟩:=h
 refine⟨?_,?_,?_,?_,?_,?_,fun k=>?_⟩<;>simp [go_sem,c0,c1,c2,c3,c4,c5,fr]<;>rfl
theorem BoxS.set1 {w:World} {b:Nat} {x:StC} (h:BoxS w b x) (t:Int):BoxS (w.setCell ⟨b,1,none⟩ (.int .i64 t)) b { x with num:=t } :=by
 obtain⟨c0,c1,c2,c3,c4,c5,fr⟩:=h
 refine⟨?_,?_,?_,?_,?_,?_,fun k=>?_⟩<;>simp [go_sem,c0,c1,c2,c3,c4,c5,fr]<;>rfl
theorem BoxS.set2 {w:World} {b:Nat} {x:StC} (h:BoxS w b x) (t:Int):BoxS (w.setCell ⟨b,2,none⟩ (.int .i64 t)) b { x with token:=t } :=by
 obtain⟨c0,c1,c2,c3,c4,c5,fr⟩:=h
 refine⟨?_,?_,?_,?_,?_,?_,fun k=>?_⟩<;>simp [go_sem,c0,c1,c2,c3,c4,c5,fr]<;>rfl
theorem BoxS.set3 {w:World} {b:Nat} {x:StC} (h:BoxS w b x) (S:List SesV) (a:Option Addr) (c:Nat):BoxS (w.setCell ⟨b,3,none⟩ (.slice a S.length c)) b { x with S:=S,sa:=a,sc:=c } :=by
 obtain⟨c0,c1,c2,c3,c4,c5,fr⟩:=h
 refine⟨?_,?_,?_,?_,?_,?_,fun k=>?_⟩<;>simp [go_sem,c0,c1,c2,c3,c4,c5,fr]<;>rfl
theorem BoxS.set4 {w:World} {b:Nat} {x:StC} (h:BoxS w b x) (K:List LockC) (a:Option Addr) (c:Nat):BoxS (w.setCell ⟨b,4,none⟩ (.slice a K.length c)) b { x with K:=K,ka:=a,kc:=c } :=by
 obtain⟨c0,c1,c2,c3,c4,c5,fr⟩:=h
 refine⟨?_,?_,?_,?_,?_,?_,fun k=>?_⟩<;>simp [go_sem,c0,c1,c2,c3,c4,c5,fr]<;>rfl
theorem BoxS.set5 {w:World} {b:Nat} {x:StC} (h:BoxS w b x) (M:List MemC) (a:Option Addr) (c:Nat):BoxS (w.setCell ⟨b,5,none⟩ (.slice a M.length c)) b { x with M:=M,ma:=a,mc:=c } :=by
 obtain⟨c0,c1,c2,c3,c4,c5,fr⟩:=h
 refine⟨?_,?_,?_,?_,?_,?_,fun k=>?_⟩<;>simp [go_sem,c0,c1,c2,c3,c4,c5,fr]<;>rfl
end Cm
end Go.Proofs.YtclcgkpfcogcdaaGreat
