/- Texts laid together by program. -/
import Derived.Test.YtclcgkpfcogcdaaGreatQ17
import Derived.Test.YtclcgkpfcogcdaaGreatQ23
import Derived.Laws.CopyOwn
import Derived.Lib.Overlaps
import Derived.Lib.AppendZerosOnto
import Derived.Shelf.RegionOpenPlain
/- Contracts: package memo's Right, Fresh, Last. -/
set_option linter.unusedVariables false
set_option maxRecDepth 8000
set_option linter.unusedSimpArgs false
namespace Go.Proofs.YtclcgkpfcogcdaaGreat
open Lib (hid)
open Go.RowKit Go.Shelf
namespace Cm

theorem Rm.held {l:List AnsV} (h:Rm l): ∀m∈l,m.rep.held.length<=4:=fun m hm=>(mayP_bounds _ (mayA_bounds m (h.may m hm)).2.2).2.2.2.1
theorem Rm.small {L:List MemC} (h:Rm (valsM L)): ∀x∈L,x.m.rep.held.length<=1000:=fun x hx=>by
 have:=h.held x.m (List.mem_map.2 ⟨x,hx,rfl⟩)
 omega
theorem idxM_cases (l:List AnsV) (c:Int):(idxI (isCl c) l= -1/\lastM l c=(zeroM,false))\/ ∃k:Nat,∃hk:k<l.length,idxI (isCl c) l=(k:Int)/\l[k].client =c/\lastM l c=(l[k],true):=by
 rcases idx_casesG (isCl c) l with h | ⟨k,hk,h,_⟩
 ·exact .inl ⟨h,last_miss l c h⟩
 ·obtain⟨hk',q1,q2⟩:=last_hit l c k h
  exact .inr ⟨k,hk',h,q1,q2⟩
set_option maxHeartbeats 2000000 in
theorem MemFresh_any (v:Value) (L:List MemC) (c s:Int) (w:World) (h:RdM w v L) (hr:Rm (valsM L)):Calls Tryz.prog 58 #[v,.int .i64 c,.int .i64 s] w (SaysI (freshM (valsM L) c s) w):=by
 have hm:=h.len
 have KI:=hid (indexOfM_any v L c w h.row)
 unfold freshM
 rcases idxM_cases (valsM L) c with ⟨hi,hl⟩ | ⟨k,hk,hi, -,hl⟩
 ·rw[hl,if_pos rfl]
  rw[hi] at KI
  obtain⟨a,cap,rfl⟩:=h.form
  clear h hr hi hl
  generalize L.length=N at*
  go_enter Tryz.func58,Tryz.ntmps58
  go_wp2_with (go_at_call 113;refine KI.out.mono ?_;rintro e w2 ⟨rfl,hb2⟩)
  go_ret
  exact⟨rfl,hb2⟩
 ·have hk':k<L.length:=by rw[valsM_length] at hk;exact hk
  rw[hl,if_neg (by simp),valsM_get L k hk']
  dsimp only
  rw[hi] at KI
  obtain⟨a,cap,rfl⟩:=h.form
  obtain⟨b,o,rfl,hcell⟩:=rdm_at h.row k hk'
  have HQ:=hid hcell
  clear h hr hi hl hcell
  generalize L[k]=x at*
  obtain⟨⟨xc,xs,xk,xn,xd,xl⟩,xa,xp⟩:=x
  dsimp only at HQ ⊢
  generalize L.length=N at*
  have f1:(0:Int)<=(k:Int):=by omega
  have f2:(k:Int)<(N:Int):=by omega
  have f3:decide ((k:Int)<0)=false:=by simp
  by_cases h1:xs<s
  ·rw[if_pos h1]
   have d1:decide (xs<s)=true:=decide_eq_true h1
   clear h1
   go_enter Tryz.func58,Tryz.ntmps58
   go_wp2_with (go_at_call 113;refine KI.out.mono ?_;rintro e w2 ⟨rfl,hb2⟩;obtain⟨z0,z1, -⟩:=HQ.out w2 hb2)
   go_ret
   exact⟨rfl,hb2⟩
  rw[if_neg h1]
  have d1:decide (xs<s)=false:=decide_eq_false h1
  clear h1
  by_cases h2:xs=s
  ·rw[if_pos h2]
   have d2:(xs==s)=true:=by simpa using h2
   clear h2
   go_enter Tryz.func58,Tryz.ntmps58
   go_wp2_with (go_at_call 113;refine KI.out.mono ?_;rintro e w2 ⟨rfl,hb2⟩;obtain⟨z0,z1, -⟩:=HQ.out w2 hb2)
   go_ret
   exact⟨rfl,hb2⟩
  ·rw[if_neg h2]
   have d2:(xs==s)=false:=by simpa using h2
   clear h2
   go_enter Tryz.func58,Tryz.ntmps58
   go_wp2_with (go_at_call 113;refine KI.out.mono ?_;rintro e w2 ⟨rfl,hb2⟩;obtain⟨z0,z1, -⟩:=HQ.out w2 hb2)
   go_ret
   exact⟨rfl,hb2⟩
end Cm
end Go.Proofs.YtclcgkpfcogcdaaGreat

/- Contracts: Last of both sides, with whose what the memo holds is (made by tools/gen_memq.py). -/
set_option linter.unusedVariables false
set_option maxRecDepth 8000
set_option linter.unusedSimpArgs false
namespace Go.Proofs.YtclcgkpfcogcdaaGreat
open Lib (hid)
open Go.RowKit
namespace Cm

def GetsMX (L:List MemC) (r:AnsV × Bool) (w:World) (e:Ending) (w':World):Prop:=
 ∃x:MemC,e= .returned (.tuple #[memVal x,.bool r.2])/\x.m=r.1/\(x∈L\/w'.ownsRow w.heap.size 57 2 x.hv x.m.rep.held.length (flatX cellsG x.m.rep.held))/\Below w.heap.size w w'
set_option maxHeartbeats 2000000 in
theorem RefLast_x (v:Value) (L:List MemC) (c:Int) (w:World) (h:RdM w v L):Calls Tryz.prog 24 #[v,.int .i64 c] w (GetsMX L (lastM (valsM L) c) w):=by
 have hm:=h.len
 obtain⟨a,cap,rfl⟩:=h.form
 have HA:=hid (fun i hi=>rdm_at h.row i hi)
 have HH:Hid (∀i (hi:i<L.length),L[i]∈L):=hid fun i hi=>List.getElem_mem hi
 have hb1:=newAlloc w (.cells #[.int .i64 0,.int .i64 0,.int .i64 0,.int .i64 0,.int .i64 0,.slice none 0 0] 51)
 obtain⟨c0,c1,c2,c3,c4,c5⟩:=box6 (Below.refl _ (w.alloc (.cells #[.int .i64 0,.int .i64 0,.int .i64 0,.int .i64 0,.int .i64 0,.slice none 0 0] 51)))
 have cf:=free6m (Below.refl _ (w.alloc (.cells #[.int .i64 0,.int .i64 0,.int .i64 0,.int .i64 0,.int .i64 0,.slice none 0 0] 51)))
 obtain⟨W1,hW1⟩: ∃W1,W1=w.alloc (.cells #[.int .i64 0,.int .i64 0,.int .i64 0,.int .i64 0,.int .i64 0,.slice none 0 0] 51):=⟨_,rfl⟩
 rw[<-hW1] at hb1 c0 c1 c2 c3 c4 c5 cf
 have HB:=hid hb1
 have HI:Hid (∀k (hk:k<L.length),L[k].m.client =c->(∀j (hj:j<k),(L[j]'(by omega)).m.client ≠c)->lastM (valsM L) c=(L[k].m,true)):=hid fun k hk hc hb=>by
  have e:idxI (isCl c) (valsM L)=k:=idxI_hit _ _ k (by rw[valsM_length];exact hk) (by rw[valsM_get L k hk];unfold isCl;exact decide_eq_true hc) (fun j hj=>by rw[valsM_get L j (by omega)];unfold isCl;exact decide_eq_false (hb j hj))
  obtain⟨hk',_,he⟩:=last_hit _ _ _ e
  rw[he,valsM_get L k hk]
 have HMS:Hid ((∀j (hj:j<L.length),L[j].m.client ≠c)->lastM (valsM L) c=(zeroM,false)):=hid fun hb=>last_miss _ _ (idxI_miss _ _ fun j hj=>by
  rw[valsM_length] at hj
  rw[valsM_get L j hj];unfold isCl;exact decide_eq_false (hb j hj))
 clear h hb1
 obtain⟨N,hN⟩: ∃N,L.length=N:=⟨_,rfl⟩
 have HLL:=hid hN
 rw[hN] at hm ⊢
 clear hN
 go_enter Tryz.func24,Tryz.ntmps24
 go_upto_region 1 with fail
 rw[<-hW1]
 clear hW1
 go_wp2
 go_loop [6] (fun i=> ∃k:Nat,k<=N/\i= .int .i64 k/\Hid (∀j (hj:j<k) (hl:j<L.length),L[j].m.client ≠c)) (fun i=>N - (intOf i).toNat)
 case atStart=>exact⟨0,by omega,rfl,hid (fun j hj=>absurd hj (Nat.not_lt_zero _))⟩
 case round=>
  obtain⟨k,hk,rfl,HJ⟩:=hrel
  by_cases hlt:k<N
  ·have hkl:k<L.length:=by rw[HLL.out];exact hlt
   obtain⟨b,o,rfl,hc⟩:=HA.out k hkl
   obtain⟨q0,q1,q2,q3,q4,q5⟩:=hc W1 HB.out
   have hi:=fun q=>HI.out k hkl q (fun j hj=>HJ.out j hj (by omega))
   have hh:=HH.out k hkl
   have HN:Hid (L[k].m.client ≠c-> ∀j (hj:j<k+1) (hl:j<L.length),L[j].m.client ≠c):=hid (fun q j hj hl=>by
    by_cases e:j=k
    ·subst e;exact q
    ·exact HJ.out j (by omega) hl)
   clear HA HI HMS HH hc
   generalize L[k]=x at q0 q1 q2 q3 q4 q5 hi hh HN
   obtain⟨⟨xc,xs,xk,xn,xd,xl⟩,xa,xp⟩:=x
   unfold MemC.hv at q5
   dsimp only at q0 q1 q2 q3 q4 q5 hi HN
   have HHH:=hid hh
   obtain⟨XN,hXN⟩: ∃XN,xl.length=XN:=⟨_,rfl⟩
   have HXN:=hid hXN
   rw[hXN] at q5
   clear hXN hh
   by_cases e1:xc=c
   ·have d1:(xc==c)=true:=by simpa using e1
    have H:=hid (hi e1)
    clear hi e1 HN
    go_wp2
    refine bodyPost_ret (by simp [results,Tryz.results24,go_sem,c0,c1,c2,c3,c4,c5,cf]<;>rfl) rfl ?_
    have hbf:=set6m HB.out w.heap.size (Nat.le_refl _) (.int .i64 xc) (.int .i64 xs) (.int .i64 xk) (.int .i64 xn) (.int .i64 xd) (.slice xa XN xp)
    refine⟨⟨⟨xc,xs,xk,xn,xd,xl⟩,xa,xp⟩,?_,by rw[H.out],Or.inl HHH.out,hbf⟩
    unfold memVal MemC.hv
    dsimp only
    rw[HXN.out,H.out]
   ·have d1:(xc==c)=false:=by simpa using e1
    have H:=hid (HN.out e1)
    clear hi e1 HN HHH
    go_wp2
    go_round
    case rel=>exact⟨k+1,by omega,by go_num,H⟩
    case measure=>simp [intOf];omega
  ·obtain rfl:k=N:=by omega
   have H:=hid (HMS.out (fun j hj=>HJ.out j (by rw[<-HLL.out];exact hj) hj))
   clear HI HMS HH
   go_wp2
   refine bodyPost_ret (by simp [results,Tryz.results24,go_sem,c0,c1,c2,c3,c4,c5,cf]<;>rfl) rfl ?_
   have hbf:=set6m HB.out w.heap.size (Nat.le_refl _) (.int .i64 0) (.int .i64 0) (.int .i64 0) (.int .i64 0) (.int .i64 0) (.slice none 0 0)
   rw[H.out]
   exact⟨⟨zeroM,none,0⟩,rfl,rfl,Or.inr (World.ownsRow_nil _ _ _ _),hbf⟩
set_option maxHeartbeats 2000000 in
theorem MemLast_x (v:Value) (L:List MemC) (c:Int) (w:World) (h:RdM w v L) (hr:Rm (valsM L)):Calls Tryz.prog 59 #[v,.int .i64 c] w (GetsMX L (lastM (valsM L) c) w):=by
 have hm:=h.len
 have hB:=newAlloc w (.cells #[.int .i64 0,.int .i64 0,.int .i64 0,.int .i64 0,.int .i64 0,.slice none 0 0] 51)
 obtain⟨c0,c1,c2,c3,c4,c5⟩:=box6 (Below.refl _ (w.alloc (.cells #[.int .i64 0,.int .i64 0,.int .i64 0,.int .i64 0,.int .i64 0,.slice none 0 0] 51)))
 have cf:=free6m (Below.refl _ (w.alloc (.cells #[.int .i64 0,.int .i64 0,.int .i64 0,.int .i64 0,.int .i64 0,.slice none 0 0] 51)))
 obtain⟨W1,hW1⟩: ∃W1,W1=w.alloc (.cells #[.int .i64 0,.int .i64 0,.int .i64 0,.int .i64 0,.int .i64 0,.slice none 0 0] 51):=⟨_,rfl⟩
 have hs1:W1.heap.size=w.heap.size+1:=by rw[hW1];simp
 have HS1:=hid hs1
 rw[<-hW1] at hB c0 c1 c2 c3 c4 c5 cf
 clear hs1
 have HB:=hid hB
 have KI:=hid (indexOfM_any v L c W1 (h.row.later hB))
 have HD:Hid (∀w',Below W1.heap.size W1 w'->(w'.cell? ⟨w.heap.size,0,none⟩=some (.int .i64 0)/\w'.cell? ⟨w.heap.size,1,none⟩=some (.int .i64 0)/\w'.cell? ⟨w.heap.size,2,none⟩=some (.int .i64 0)/\w'.cell? ⟨w.heap.size,3,none⟩=some (.int .i64 0)/\w'.cell? ⟨w.heap.size,4,none⟩=some (.int .i64 0)/\w'.cell? ⟨w.heap.size,5,none⟩=some (.slice none 0 0))/\ ∀k,w'.frozen? ⟨w.heap.size,k,none⟩=false):=hid fun w' hb=>⟨⟨(hb.cell (lt_of_cell c0)).trans c0,(hb.cell (lt_of_cell c1)).trans c1,(hb.cell (lt_of_cell c2)).trans c2,(hb.cell (lt_of_cell c3)).trans c3,(hb.cell (lt_of_cell c4)).trans c4,(hb.cell (lt_of_cell c5)).trans c5⟩,fun k=>(hb.frozen (p:=⟨w.heap.size,k,none⟩) (show w.heap.size< _ from lt_of_cell c0)).trans (cf k)⟩
 rcases idxM_cases (valsM L) c with ⟨hi,hl⟩ | ⟨k,hk,hi, -,hl⟩
 ·rw[hl]
  rw[hi] at KI
  obtain⟨a,cap,rfl⟩:=h.form
  clear h hr c0 c1 c2 c3 c4 c5 cf hB hi hl
  generalize L.length=N at*
  go_enter Tryz.func59,Tryz.ntmps59
  go_upto_region 1 with fail
  rw[<-hW1]
  clear hW1
  go_wp2_with (go_at_call 113;refine KI.out.mono ?_;rintro e w2 ⟨rfl,hb2⟩;obtain⟨⟨y0,y1,y2,y3,y4,y5⟩,yf⟩:=HD.out _ hb2;have HB2:=hid (step HB.out hb2);clear hb2)
  refine bodyPost_ret (by simp [results,Tryz.results59,go_sem,y0,y1,y2,y3,y4,y5,yf]<;>rfl) rfl ?_
  exact⟨⟨zeroM,none,0⟩,rfl,rfl,Or.inr (World.ownsRow_nil _ _ _ _),set6m HB2.out _ (Nat.le_refl _) _ _ _ _ _ _⟩
 ·have hk':k<L.length:=by rw[valsM_length] at hk;exact hk
  rw[hl,valsM_get L k hk']
  rw[hi] at KI
  have KC:Hid (∀w',Below w.heap.size w w'->Calls Tryz.prog 114 #[memVal L[k]] w' (IsCopyM L[k].m w')):=hid fun w' hb=>copyOfM_any _ w' ((h.held _ (List.getElem_mem hk')).later hb) (hr.small _ (List.getElem_mem hk'))
  obtain⟨a,cap,rfl⟩:=h.form
  obtain⟨b,o,rfl,hcell⟩:=rdm_at h.row k hk'
  have HQ:=hid hcell
  clear h hr c0 c1 c2 c3 c4 c5 cf hB hi hl hcell
  generalize L[k]=x at*
  obtain⟨⟨xc,xs,xk,xn,xd,xl⟩,xa,xp⟩:=x
  unfold memVal MemC.hv IsCopyM at KC
  unfold MemC.hv at HQ
  dsimp only at HQ KC
  generalize L.length=N at*
  have f1:(0:Int)<=(k:Int):=by omega
  have f2:(k:Int)<(N:Int):=by omega
  have f3:decide ((k:Int)<0)=false:=by simp
  go_enter Tryz.func59,Tryz.ntmps59
  go_upto_region 1 with fail
  rw[<-hW1]
  clear hW1
  go_wp2_with (first
   | (go_at_call 113;refine KI.out.mono ?_;rintro e w2 ⟨rfl,hb2⟩;have HB2:=hid hb2;have HB20:=hid (step HB.out hb2);obtain⟨z0,z1,z2,z3,z4,z5⟩:=HQ.out w2 HB20.out;clear hb2)
   | (go_at_call 114;refine(KC.out _ HB20.out).mono ?_;rintro e w3 ⟨a3,p3,rfl,ho3,hb3⟩;have HO3:=hid ho3;have HB3:=hid (step HB20.out hb3);obtain⟨⟨y0,y1,y2,y3,y4,y5⟩,yf⟩:=HD.out _ (step HB2.out hb3);clear hb3 ho3))
  refine bodyPost_ret (by simp [results,Tryz.results59,go_sem,y0,y1,y2,y3,y4,y5,yf]<;>rfl) rfl ?_
  have hlt:w.heap.size<w2.heap.size:=by have:=HB2.out.size;rw[HS1.out] at this;omega
  exact⟨⟨⟨xc,xs,xk,xn,xd,xl⟩,a3,p3⟩,rfl,rfl,Or.inr (own_lowerX (ownsRow_setCell_below (ownsRow_setCell_below (ownsRow_setCell_below (ownsRow_setCell_below (ownsRow_setCell_below (ownsRow_setCell_below HO3.out hlt _) hlt _) hlt _) hlt _) hlt _) hlt _) HB20.out.size),set6m HB3.out _ (Nat.le_refl _) _ _ _ _ _ _⟩
end Cm
end Go.Proofs.YtclcgkpfcogcdaaGreat

/- Contract: slices.Insert of one lock. The laws of a copy of elements of more than one cell. -/
set_option linter.unusedVariables false
set_option maxRecDepth 8000
set_option linter.unusedSimpArgs false
namespace Go.Proofs.YtclcgkpfcogcdaaGreat
open Lib (hid)
open Go.RowKit Go.Shelf

section
variable {P : Program}
theorem run_copy_rowN (w:World) (dT sT ty elem:TypeId) (g o dLen dCap:Nat) (a:Addr) (sLen sCap sz:Nat) (cur:Array Value) (t:TypeId) (cs:List Value)
  (hu:P.underlying dT=some (.slice elem)) (hs:(P.info? elem).map (·.size)=some sz)
  (hg:w.heap[g]?=some (.cells cur t (0,0))) (hn:cs.length=Nat.min sLen dLen*sz)
  (hsrc: ∀j v,cs[j]?=some v->w.cell? (a.add j)=some v) (hfit:o+cs.length<=cur.size) (h1: ∀v∈cs,v.oneCell'=true):
  (Builtin.copy_ #[dT,sT] ty #[.slice (some ⟨g,o,none⟩) dLen dCap,.slice (some a) sLen sCap]).run P w=
   .ok (goInt (Nat.min sLen dLen)) (w.setRow g (cur.toList.take o++cs++cur.toList.drop (o+cs.length)).toArray):=by
 have hl:=run_loadCells_list (P:=P) w a cs hsrc
 have hst:=run_storeCells_at P g o t cs 0 cur w hg (by simpa using hfit) h1
 cases hq:P.info? elem with
 | none=>simp [hq] at hs
 | some i=>
  have hi:i.size=sz:=by simpa [hq] using hs
  simp [Builtin.copy_,run_underlying hu,Builtin.lenOf,Builtin.firstCells,sizeOf,typeInfo,hq,hi,<-hn,hl,hst]
theorem grown_setRow (w:World) (g:Nat) (cs:Array Value):w.grownBy (w.setRow g cs) (some g):=⟨rfl,rfl,rfl,by simp [World.setRow],fun k hk hne=>setRow_other w g k cs (fun e=>hne (by rw[e]))⟩
theorem wpList_copy_N {w:World} {ops:Array Oper} {rest:List Oper} {o:Oper} {a:Act} {Q:Exit->Act->World->Prop} (hgd:o.guard=none) (d s:Operand) (dT sT:TypeId)
  (ho:o.op= .call { callee:=.builtin .copy,args:=#[d,s],argTypes:=#[dT,sT] }) (elem:TypeId) (sz:Nat) (hu:P.underlying dT=some (.slice elem)) (hsz:(P.info? elem).map (·.size)=some sz)
  (g off dLen dCap:Nat) (ad:Addr) (sLen sCap:Nat) (hd:a.eval d= .slice (some ⟨g,off,none⟩) dLen dCap) (hs:a.eval s= .slice (some ad) sLen sCap)
  (cur:List Value) (t:TypeId) (hg:w.heap[g]?=some (.cells cur.toArray t (0,0))) (cs:List Value) (hn:cs.length=Nat.min sLen dLen*sz)
  (hsrc: ∀j v,cs[j]?=some v->w.cell? (ad.add j)=some v) (hfit:off+cs.length<=cur.length) (h1: ∀v∈cs,v.oneCell'=true)
  (h: ∀w',Hid (w'.heap[g]?=some (.cells (splice cur off cs).toArray t (0,0)))->Hid (w.grownBy w' (some g))-> ∀r,wpList P ops Q rest (a.put o.dst r) w'):wpList P ops Q (o::rest) a w:=by
 refine wpList_plain hgd fun K hK=>?_
 have hrun:=run_copy_rowN (P:=P) w dT sT o.type elem g off dLen dCap ad sLen sCap sz cur.toArray t cs hu hsz hg hn hsrc (by simpa using hfit) h1
 unfold Oper.wp
 simp [execOp,ho,resolve,invoke,builtin,hd,hs,hrun,Result.andThen]
 exact hK _ _ (h _ (hid (by simpa [splice] using setRow_heap w g _ _ t _ hg)) (hid (grown_setRow _ _ _)) _)
theorem step_copy_N {ops:Array Oper} {o:Oper} {a:Act} {w:World} {K:Act->World->Prop} {Q:Exit->Act->World->Prop} {E:Prop} (hgd:o.guard=none) (d s:Operand) (dT sT:TypeId)
  (ho:o.op= .call { callee:=.builtin .copy,args:=#[d,s],argTypes:=#[dT,sT] }) (elem:TypeId) (sz:Nat) (hu:P.underlying dT=some (.slice elem)) (hsz:(P.info? elem).map (·.size)=some sz)
  (g off dLen dCap:Nat) (ad:Addr) (sLen sCap:Nat) (hd:a.eval d= .slice (some ⟨g,off,none⟩) dLen dCap) (hs:a.eval s= .slice (some ad) sLen sCap)
  (cur:List Value) (t:TypeId) (hg:w.heap[g]?=some (.cells cur.toArray t (0,0))) (cs:List Value) (hn:cs.length=Nat.min sLen dLen*sz)
  (hsrc: ∀j v,cs[j]?=some v->w.cell? (ad.add j)=some v) (hfit:off+cs.length<=cur.length) (h1: ∀v∈cs,v.oneCell'=true)
  (h: ∀w',Hid (w'.heap[g]?=some (.cells (splice cur off cs).toArray t (0,0)))->Hid (w.grownBy w' (some g))-> ∀r,K (a.put o.dst r) w'):
  if Region.wanted o (yielded ops a.tmps)=true then Oper.wp P o a w K Q else E:=by
 have hw:Region.wanted o (yielded ops a.tmps)=true:=by simp [Region.wanted,hgd]
 rw[if_pos hw]
 have hrun:=run_copy_rowN (P:=P) w dT sT o.type elem g off dLen dCap ad sLen sCap sz cur.toArray t cs hu hsz hg hn hsrc (by simpa using hfit) h1
 unfold Oper.wp
 simp [execOp,ho,resolve,invoke,builtin,hd,hs,hrun,Result.andThen]
 exact h _ (hid (by simpa [splice] using setRow_heap w g _ _ t _ hg)) (hid (grown_setRow _ _ _)) _
end

theorem splice_in {α:Type} (A D E Y:List α) (h:Y.length<=E.length):splice (splice (A++(D++E)) (A.length+Y.length) D) A.length Y=A++(Y++(D++E.drop Y.length)):=by
 have e1:(A++(D++E)).drop (A.length+Y.length+D.length)=E.drop Y.length:=by
  rw[List.drop_append,List.drop_append]
  simp only[List.drop_eq_nil_of_le (show A.length<=A.length+Y.length+D.length by omega),List.drop_eq_nil_of_le (show D.length<=A.length+Y.length+D.length - A.length by omega),List.nil_append]
  congr 1
  omega
 have hl:((A++(D++E)).take (A.length+Y.length)).length =A.length+Y.length:=by rw[List.length_take];simp;omega
 unfold splice
 rw[e1]
 generalize hX:(A++(D++E)).take (A.length+Y.length)=X at hl
 have e2:X.take A.length=A:=by rw[<-hX,List.take_take,Nat.min_eq_left (by omega),List.take_left'];rfl
 rw[List.take_append_of_le_length (by omega),e2,<-hl,List.drop_left']
 rfl
theorem splice_new {α:Type} (A Z Y D:List α):splice (splice (A++Z) A.length Y) (A.length+Y.length) D=A++(Y++(D++Z.drop (Y.length+D.length))):=by
 have e1:splice (A++Z) A.length Y=(A++Y)++Z.drop Y.length:=by
  unfold splice
  rw[List.take_left',List.drop_append]
  ·simp
  ·rfl
 rw[e1]
 unfold splice
 rw[show A.length+Y.length=(A++Y).length by simp,List.take_left',List.drop_append,List.drop_drop]
 ·simp
 ·rfl
namespace Cm
theorem grown_below {w w':World} (h:Below w.heap.size w w') (row:Option Nat):w.grownBy w' row:=⟨h.os,h.tape,h.output,h.size,fun k hk _=>h.block k hk⟩
theorem grown_trans {w w1 w2:World} {row:Option Nat} (h:w.grownBy w1 row) (h2:w1.grownBy w2 row):w.grownBy w2 row:=
 ⟨h2.os.trans h.os,h2.tape.trans h.tape,h2.output.trans h.output,Nat.le_trans h.size h2.size,fun k hk hne=>(h2.block k (Nat.lt_of_lt_of_le hk h.size) hne).trans (h.block k hk hne)⟩
theorem add_at (g j:Nat):(⟨g,0,none⟩:Addr).add j=⟨g,j,none⟩:=by unfold Addr.add;split<;>simp_all
theorem shape_at {w:World} {g:Nat} {cs:Array Value} {t:TypeId} (h:w.heap[g]?=some (.cells cs t (0,0))):w.shape? g=some (t,cs.size):=by
 simp [World.shape?,h]
theorem frozen_at {w:World} {g o:Nat} {cs:Array Value} {t:TypeId} (h:w.heap[g]?=some (.cells cs t (0,0))):w.frozen? ⟨g,o,none⟩=false:=by
 simp [World.frozen?,h]
end Cm
end Go.Proofs.YtclcgkpfcogcdaaGreat

/- Contracts: package lock's copies. -/
set_option linter.unusedVariables false
set_option maxRecDepth 8000
set_option linter.unusedSimpArgs false
namespace Go.Proofs.YtclcgkpfcogcdaaGreat
open Lib (hid)
open Go.RowKit Go.Shelf
namespace Cm

set_option maxHeartbeats 4000000 in
theorem copies_any (v:Value) (L:List LockC) (w:World) (h:RdK w v L) (h5:L.length<=1000) (h6: ∀x∈L,x.line.length<=1000):Calls Tryz.prog 221 #[v] w (MadeC (vals L) w):=by
 have hm:=h.len
 obtain⟨a,cap,rfl⟩:=h.form
 have HA:=hid (fun i hi=>rdk_at h.row i hi)
 have HL:Hid (∀i (hi:i<L.length) (w':World),Below w.heap.size w w'->Calls Tryz.prog 235 #[lockVal L[i]] w' (IsCopy L[i] w')):=hid fun i hi w' hb=>copyOf_any _ w' ((h.line _ (List.getElem_mem hi)).later hb) (h6 _ (List.getElem_mem hi))
 have HV:Hid (∀i (hi:i<L.length),vals (L.take (i+1))=vals (L.take i)++ [L[i].val]):=hid fun i hi=>by
  rw[List.take_succ_eq_append_getElem hi]
  unfold vals
  rw[List.map_append]
  rfl
 clear h h6
 obtain⟨N,hN⟩: ∃N,L.length=N:=⟨_,rfl⟩
 have HLL:=hid hN
 rw[hN] at hm h5 ⊢
 clear hN
 obtain⟨i1,hi',hz0',hz1',hz2'⟩:=info_parts infoK
 go_enter Tryz.func221,Tryz.ntmps221
 go_wp2
 go_loopw [3,8] (fun m i wr=> ∃(k:Nat) (M:List LockC),k<=N/\i= .int .i64 k/\M.length=k/\Hid (vals M=vals (L.take k))/\Hid (OwnD w.heap.size wr m M)/\Hid (Below w.heap.size w wr)) (fun _ i _=>N - (intOf i).toNat)
 case atStart=>exact⟨0,[],by omega,rfl,rfl,hid rfl,hid (OwnD.nil _ _),hid (Below.refl _ _)⟩
 case round=>
  obtain⟨k,M,hk,rfl,hMk,HM,HO,HB⟩:=hrel
  by_cases hlt:k<N
  ·have hkl:k<L.length:=by rw[HLL.out];exact hlt
   obtain⟨b,o,rfl,hc⟩:=HA.out k hkl
   obtain⟨q0,q1,q2,q3⟩:=hc _ HB.out
   have hl:=HL.out k hkl
   have hv:=HV.out k hkl
   clear hc HA HL HV
   generalize L[k]=x at q0 q1 q2 q3 hl hv
   obtain⟨xn,xh,xt,xl,xa,xc⟩:=x
   unfold lockVal LockC.lv IsCopy at hl
   unfold LockC.lv at q3
   unfold LockC.val at hv
   dsimp only at q0 q1 q2 q3 hl hv
   have HVV:=hid hv
   have HCC:=hid hl
   clear hl hv
   go_upto_region 5 with fail
   obtain⟨W1,hW1⟩: ∃W1,W1=wr.alloc (.cells #[.string (bstr xn),.int .i64 xh,.int .i64 xt,.slice xa xl.length xc] 60):=⟨_,rfl⟩
   have HB1:Hid (Below wr.heap.size wr W1):=hid (by rw[hW1];exact newAlloc _ _)
   obtain⟨z0,z1,z2,z3⟩:=box4 (Below.refl _ (wr.alloc (.cells #[.string (bstr xn),.int .i64 xh,.int .i64 xt,.slice xa xl.length xc] 60)))
   rw[<-hW1] at z0 z1 z2 z3 ⊢
   clear hW1 q0 q1 q2 q3
   have HCC:=hid (HCC.out W1 (step HB.out HB1.out))
   have hb1:=HB1.out.size
   have hbw:=HB.out.size
   go_wp2_with (first
    | (go_at_call 235;refine HCC.out.mono ?_;rintro e w3 ⟨ya,yc,rfl,hl3,hb3⟩;have HO3:=hid hl3;have HB3:=hid (step HB1.out hb3);have HM3:Hid (w3.ownsRow w.heap.size 60 4 u3 M.length (flatX cellsK M)):=hid (HO.out.later HB3.out).row;have hb3s:=hb3.size;clear hl3 hb3)
    | (at_builtin;refine wpList_append_one_gr cellsK_length (by omega) rfl (.tmp 12) (.tmp 15) 23 rfl 60 i1 _ 56 Tryz.underlying23 hi' hz0' hz1' hz2' rfl #[.string (bstr xn),.int .i64 xh,.int .i64 xt,.slice ya xl.length yc] (⟨xn,xh,xt,xl,ya,yc⟩:LockC) rfl (cellsK_one _) M w.heap.size u3 rfl rfl HM3.out (by unfold maxLen;omega) (by omega) (by omega) ?_;intro v6 w6 ho6 hg6 _;have HO6:Hid (OwnD w.heap.size w6 v6 (M++ [⟨xn,xh,xt,xl,ya,yc⟩])):=hid (HO.out.push (x:=⟨xn,xh,xt,xl,ya,yc⟩) (stepAlloc HB3.out _) (Rw.own_alloc HO3.out _) hb1 (Nat.le_trans hbw hb1) hg6 ho6);have HB6:Hid (Below w.heap.size w w6):=hid ((step HB.out (stepAlloc HB3.out _)).grown hg6 (by simp;omega) (fun g hg=>(Rw.own_lt HM3.out g hg).1));clear ho6 hg6))
   go_roundw
   case rel=>exact⟨k+1,M++ [⟨xn,xh,xt,xl,ya,yc⟩],by omega,by go_num,by simp;omega,hid (by rw[HVV.out,<-HM.out];unfold vals;rw[List.map_append];rfl),HO6,HB6⟩
   case measure=>simp [intOf];omega
  ·obtain rfl:k=N:=by omega
   go_wp2
   go_ret
   have hM:=HM.out
   rw[<-HLL.out,List.take_length] at hM
   exact⟨_,M,rfl,hM,HO.out,HB.out⟩
end Cm
end Go.Proofs.YtclcgkpfcogcdaaGreat
