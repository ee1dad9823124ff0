/- Texts laid together by program. -/
import Derived.Test.YthpknaieimlmnaaGreatQ9
import Derived.Test.YthpknaieimlmnaaGreatQ15
import Derived.Shelf.Abstract
import Derived.Deep.RegionHeld3
/- Contracts: slices.IndexFunc over memos, whatever the test; package memo's closures, indexOf, placeOf. -/
set_option linter.unusedVariables false
set_option maxRecDepth 8000
set_option linter.unusedSimpArgs false
namespace Go.Proofs.YthpknaieimlmnaaGreat
open Lib (hid)
open Go.RowKit Go.Shelf
namespace Cm

set_option maxHeartbeats 2000000 in
theorem IdxM_any (p:MemC->Bool) (g:Nat) (lb:Array Value) (eg: ∀args w,(callFunc g args).run Tryz.prog w= .ok (.enter g args) w) (v:Value) (l:List MemC) (w:World) (h:RdX 6 cellsM w v l)
  (hp: ∀(W:World) (x:MemC),Below w.heap.size w W->Calls Tryz.prog g (#[memVal x]++lb) W (SaysB (p x) W)):
  Calls Tryz.prog 166 #[v,.func (.func g) #[] lb] w (SaysI (idxI p l) w):=by
 have hm:=h.len
 obtain⟨a,cap,rfl⟩:=h.form
 have HA:=hid (fun i hi=>rdm_at h i hi)
 have HP:=hid hp
 have HH:=hid (idxI_hit p l)
 have HM:=hid (idxI_miss p l)
 clear h hp
 obtain⟨L,hL⟩: ∃L,l.length=L:=⟨_,rfl⟩
 have HLL:=hid hL
 rw[hL] at hm ⊢
 clear hL
 go_enter Tryz.func166,Tryz.ntmps166
 go_wp2
 go_loopg [5,8] L (fun gg _ s8 wr=> ∃kk:Nat,kk<=L/\L - kk<=gg/\s8= .int .i64 kk/\Hid (Below w.heap.size w wr)/\Hid (∀j (hj:j<kk) (hl:j<l.length),p l[j]=false))
 case atStart=>exact⟨0,Nat.zero_le _,by omega,rfl,hid (Below.refl _ w),hid (fun j hj=>absurd hj (Nat.not_lt_zero _))⟩
 case round=>
  obtain⟨kk,hkk,hg,rfl,HB,HJ⟩:=hrel
  by_cases hlt:kk<L
  ·have hkl:kk<l.length:=by rw[HLL.out];exact hlt
   obtain⟨b,o,rfl,hc⟩:=HA.out kk hkl
   obtain⟨q0,q1,q2,q3,q4,q5⟩:=hc _ HB.out
   have hcall:=HP.out wr l[kk] HB.out
   have HI:Hid (p l[kk]=true->idxI p l=kk):=hid (fun q=>HH.out kk hkl q (fun j hj=>HJ.out j hj (by omega)))
   have HN:Hid (p l[kk]=false-> ∀j (hj:j<kk+1) (hl:j<l.length),p l[j]=false):=hid (fun q j hj hl=>by
    by_cases e:j=kk
    ·subst e;exact q
    ·exact HJ.out j (by omega) hl)
   clear hc HH HM HA HP
   generalize l[kk]=x at q0 q1 q2 q3 q4 q5 hcall HI HN
   obtain⟨⟨xc,xs,xk,xn,xd,xl⟩,xa,xp⟩:=x
   unfold MemC.hv at q5
   unfold memVal MemC.hv at hcall
   dsimp only at q0 q1 q2 q3 q4 q5 hcall
   cases hq:p ⟨⟨xc,xs,xk,xn,xd,xl⟩,xa,xp⟩ with
   | true=>
    rw[hq] at hcall
    have HC:=hid hcall
    have HI:=hid (HI.out hq)
    clear hcall hq HN
    go_wp2_with (go_at_fn g;refine HC.out.mono ?_;rintro e w' ⟨rfl,hb'⟩)
    go_ret
    exact⟨by rw[HI.out];rfl,step HB.out hb'⟩
   | false=>
    rw[hq] at hcall
    have HC:=hid hcall
    have HN:=hid (HN.out hq)
    clear hcall hq HI
    go_wp2_with (go_at_fn g;refine HC.out.mono ?_;rintro e w' ⟨rfl,hb'⟩)
    go_roundg (L - (kk+1))
    case measure=>omega
    case rel=>exact⟨kk+1,by omega,by omega,by go_num,hid (step HB.out hb'),HN⟩
  ·obtain rfl:kk=L:=by omega
   have hmiss:=HM.out (fun j hj=>HJ.out j (by rw[<-HLL.out];exact hj) hj)
   have HMM:=hid hmiss
   clear hmiss HM HH HP
   go_wp2
   go_ret
   exact⟨by rw[HMM.out];rfl,HB.out⟩
theorem indexM1_any (x:MemC) (w:World) (b:Nat) (c:Int) (hb:w.cell? ⟨b,0,none⟩=some (.int .i64 c)):
  Calls Tryz.prog 167 #[memVal x,.pointer (some ⟨b,0,none⟩)] w (SaysB (isCl c x.m) w):=by
 obtain⟨⟨xc,xs,xk,xn,xd,xl⟩,xa,xp⟩:=x
 unfold memVal MemC.hv isCl
 dsimp only
 have HB:=hid (newAlloc w (.cells #[.int .i64 xc,.int .i64 xs,.int .i64 xk,.int .i64 xn,.int .i64 xd,.slice xa xl.length xp] 61))
 obtain⟨y0,y1,y2,y3,y4,y5⟩:=box6 (Below.refl _ (w.alloc (.cells #[.int .i64 xc,.int .i64 xs,.int .i64 xk,.int .i64 xn,.int .i64 xd,.slice xa xl.length xp] 61)))
 have z1:=(HB.out.cell (lt_of_cell hb)).trans hb
 clear hb
 generalize xl.length=N at*
 go_enter Tryz.func167,Tryz.ntmps167
 go_wp2
 go_ret
 exact⟨by simp<;>rfl,HB.out⟩
theorem placeM1_any (x:MemC) (w:World) (b:Nat) (c:Int) (hb:w.cell? ⟨b,0,none⟩=some (.int .i64 c)):
  Calls Tryz.prog 177 #[memVal x,.pointer (some ⟨b,0,none⟩)] w (SaysB (decide (c<x.m.client)) w):=by
 obtain⟨⟨xc,xs,xk,xn,xd,xl⟩,xa,xp⟩:=x
 unfold memVal MemC.hv
 dsimp only
 have HB:=hid (newAlloc w (.cells #[.int .i64 xc,.int .i64 xs,.int .i64 xk,.int .i64 xn,.int .i64 xd,.slice xa xl.length xp] 61))
 obtain⟨y0,y1,y2,y3,y4,y5⟩:=box6 (Below.refl _ (w.alloc (.cells #[.int .i64 xc,.int .i64 xs,.int .i64 xk,.int .i64 xn,.int .i64 xd,.slice xa xl.length xp] 61)))
 have z1:=(HB.out.cell (lt_of_cell hb)).trans hb
 clear hb
 generalize xl.length=N at*
 go_enter Tryz.func177,Tryz.ntmps177
 go_wp2
 go_ret
 exact⟨by simp<;>rfl,HB.out⟩
theorem enters_indexM: ∀args w,(callFunc 167 args).run Tryz.prog w= .ok (.enter 167 args) w:=enters_of Tryz.func167 (by kernel_rfl) rfl
theorem enters_placeM: ∀args w,(callFunc 177 args).run Tryz.prog w= .ok (.enter 177 args) w:=enters_of Tryz.func177 (by kernel_rfl) rfl
theorem idx_valsM (p:AnsV->Bool) (l:List MemC):idxI p (valsM l)=idxI (fun x:MemC=>p x.m) l:=by
 unfold idxI valsM
 rw[List.findIdx_map,List.length_map]
 rfl
theorem indexOfM_any (v:Value) (l:List MemC) (c:Int) (w:World) (h:RdX 6 cellsM w v l):Calls Tryz.prog 113 #[v,.int .i64 c] w (SaysI (idxI (isCl c) (valsM l)) w):=by
 rw[idx_valsM]
 have hmf: ∀(fn:Fn) (first cap:Array Value) (w:World),(Instr.makeFunc fn first cap).run Tryz.prog w= .ok (.func fn first cap) w:=fun _ _ _ _=>rfl
 have HI:=hid (IdxM_any (fun x=>isCl c x.m) 167 #[.pointer (some ⟨w.heap.size,0,none⟩)] enters_indexM v l (w.alloc (.cells #[.int .i64 c] 3)) (h.later (newAlloc _ _))
  (fun W x hb=>indexM1_any x W w.heap.size c (box1k_at w _ _ W hb)))
 have HB:=hid (newAlloc w (.cells #[.int .i64 c] 3))
 obtain⟨a,cap,rfl⟩:=h.form
 clear h
 generalize idxI (fun x:MemC=>isCl c x.m) l=r at HI ⊢
 generalize l.length=L at*
 go_enter Tryz.func113,Tryz.ntmps113
 go_wp2_with (go_at_call 166;refine HI.out.mono ?_;rintro e w' ⟨rfl,hb'⟩)
 go_ret
 exact⟨rfl,step HB.out hb'⟩
theorem placeM_le (c:Int) (l:List AnsV):placeM c l<=l.length:=List.findIdx_le_length
theorem placeOfM_any (v:Value) (l:List MemC) (c:Int) (w:World) (h:RdX 6 cellsM w v l):Calls Tryz.prog 124 #[v,.int .i64 c] w (SaysI (placeM c (valsM l):Int) w):=by
 have hmf: ∀(fn:Fn) (first cap:Array Value) (w:World),(Instr.makeFunc fn first cap).run Tryz.prog w= .ok (.func fn first cap) w:=fun _ _ _ _=>rfl
 have HI:=hid (IdxM_any (fun x=>decide (c<x.m.client)) 177 #[.pointer (some ⟨w.heap.size,0,none⟩)] enters_placeM v l (w.alloc (.cells #[.int .i64 c] 3)) (h.later (newAlloc _ _))
  (fun W x hb=>placeM1_any x W w.heap.size c (box1k_at w _ _ W hb)))
 have HB:=hid (newAlloc w (.cells #[.int .i64 c] 3))
 have hpl:l.findIdx (fun x:MemC=>decide (c<x.m.client))=placeM c (valsM l):=by
  unfold placeM valsM
  rw[List.findIdx_map]
  rfl
 have hm:=h.len
 have hle:placeM c (valsM l)<=l.length:=by have:=placeM_le c (valsM l);rw[valsM_length] at this;exact this
 obtain⟨a,cap,rfl⟩:=h.form
 clear h
 by_cases hq:placeM c (valsM l)<l.length
 ·have e:idxI (fun x:MemC=>decide (c<x.m.client)) l=(placeM c (valsM l):Int):=by unfold idxI;rw[hpl];exact if_pos hq
  rw[e] at HI
  clear e hq hpl
  generalize placeM c (valsM l)=r at HI hle ⊢
  generalize l.length=L at*
  go_enter Tryz.func124,Tryz.ntmps124
  go_wp2_with (go_at_call 166;refine HI.out.mono ?_;rintro e w' ⟨rfl,hb'⟩)
  go_ret
  exact⟨rfl,step HB.out hb'⟩
 ·have e:idxI (fun x:MemC=>decide (c<x.m.client)) l= -1:=by unfold idxI;rw[hpl];exact if_neg hq
  have e2:placeM c (valsM l)=l.length:=by omega
  rw[e] at HI
  rw[e2]
  clear e hq e2 hle hpl
  generalize l.length=L at*
  go_enter Tryz.func124,Tryz.ntmps124
  go_wp2_with (go_at_call 166;refine HI.out.mono ?_;rintro e w' ⟨rfl,hb'⟩)
  go_ret
  exact⟨rfl,step HB.out hb'⟩
end Cm
end Go.Proofs.YthpknaieimlmnaaGreat

/- Contracts: slices.Clone over what is held; package memo's copyOf, copies. -/
set_option linter.unusedVariables false
set_option maxRecDepth 8000
set_option linter.unusedSimpArgs false
namespace Go.Proofs.YthpknaieimlmnaaGreat
open Lib (hid)
open Go.RowKit Go.Shelf
namespace Cm

def MadeH (l:List GrantV) (w:World) (e:Ending) (w':World):Prop:=
 ∃v,e= .returned v/\w'.ownsRow w.heap.size 67 2 v l.length (flatX cellsG l)/\Below w.heap.size w w'
theorem RdH.x {w:World} {x:Addr} {n cap:Nat} {l:List GrantV} (h:RdH w (.slice (some x) n cap) l):RdX 2 cellsG w (.slice (some x) n cap) l:=by
 obtain⟨a',cap',hv,h1,h2,h3,h4⟩:=h.ex
 cases hv
 refine⟨some x,cap,rfl,h1,h2,(fun q=>by cases q),fun y hy hp=>?_⟩
 obtain⟨hs,hc⟩:=h4 y hy hp
 refine⟨hs,fun i hi j u hu=>?_⟩
 obtain⟨c1,c2⟩:=hc i hi
 match j,hu with
 | 0,hu=>cases hu;exact c1
 | 1,hu=>cases hu;exact c2
theorem CloneH_any (v:Value) (l:List GrantV) (w:World) (h:RdH w v l) (h5:l.length<=1000000):
  Calls Tryz.prog 105 #[v] w (MadeH l w):=by
 obtain⟨i0,hi,hz0,hz1,hz2⟩:=info_parts infoG8
 have heq: ∀w a n c,(binOp .eql 42 (.slice a n c) (.slice none 0 0)).run Tryz.prog w= .ok (.bool a.isNone) w:=fun w a n c=>Lib.run_eql_slice_nil w 42 67 a n c 0 0 Tryz.underlying42
 obtain⟨a,cap,rfl, -, -,hn, -⟩:=h.ex
 cases a with
 | none=>
  have hl:l= []:=hn rfl
  subst hl
  clear h hn
  go_enter Tryz.func105,Tryz.ntmps105
  go_wp2
  go_ret
  exact⟨_,rfl,World.ownsRow_nil _ _ _ _,Below.refl _ _⟩
 | some ad=>
  have HR2:=hid (fun o=>h.x.later (newAlloc w o))
  clear h hn
  go_enter Tryz.func105,Tryz.ntmps105
  go_wp2_with (at_builtin;refine wpList_append_rdx cellsG_length (by omega) cellsG_one rfl _ _ 42 rfl w.heap.size 67 i0 _ 24 Tryz.underlying42 hi hz0 hz1 hz2 rfl _ 0 [] rfl (own_new w _ 2 _ _ rfl (Nat.le_refl _)) _ l rfl (HR2.out _) (by unfold maxLen;omega) (by omega) (newAlloc w (.cells #[] 67)).size ?_;intro v1 w2 hown2 hgrow2)
  go_ret
  refine⟨_,rfl,by simpa using hown2,(newAlloc w (.cells #[] 67)).grown hgrow2 (newAlloc w (.cells #[] 67)).size (fun k hk=>?_)⟩
  cases hk
  exact Nat.le_refl _
def IsCopyM (x:AnsV) (w:World) (e:Ending) (w':World):Prop:=
 ∃a c,e= .returned (.agg #[.int .i64 x.client,.int .i64 x.seq,.int .i64 x.rep.code,.int .i64 x.rep.session,.int .i64 x.rep.ahead,.slice a x.rep.held.length c])/\w'.ownsRow w.heap.size 67 2 (.slice a x.rep.held.length c) x.rep.held.length (flatX cellsG x.rep.held)/\Below w.heap.size w w'
set_option maxHeartbeats 2000000 in
theorem copyOfM_any (x:MemC) (w:World) (hl:RdH w x.hv x.m.rep.held) (h5:x.m.rep.held.length<=1000):Calls Tryz.prog 114 #[memVal x] w (IsCopyM x.m w):=by
 obtain⟨⟨xc,xs,xk,xn,xd,xl⟩,xa,xp⟩:=x
 unfold memVal IsCopyM
 unfold MemC.hv at hl ⊢
 dsimp only at hl h5 ⊢
 have hb1:=newAlloc w (.cells #[.int .i64 xc,.int .i64 xs,.int .i64 xk,.int .i64 xn,.int .i64 xd,.slice xa xl.length xp] 61)
 obtain⟨c0,c1,c2,c3,c4,c5⟩:=box6 (Below.refl _ (w.alloc (.cells #[.int .i64 xc,.int .i64 xs,.int .i64 xk,.int .i64 xn,.int .i64 xd,.slice xa xl.length xp] 61)))
 have cf:=free6m (Below.refl _ (w.alloc (.cells #[.int .i64 xc,.int .i64 xs,.int .i64 xk,.int .i64 xn,.int .i64 xd,.slice xa xl.length xp] 61)))
 obtain⟨W1,hW1⟩: ∃W1,W1=w.alloc (.cells #[.int .i64 xc,.int .i64 xs,.int .i64 xk,.int .i64 xn,.int .i64 xd,.slice xa xl.length xp] 61):=⟨_,rfl⟩
 rw[<-hW1] at hb1 c0 c1 c2 c3 c4 c5 cf
 have hs:W1.heap.size=w.heap.size+1:=by rw[hW1];simp
 have hb2:=newAlloc W1 (.cells #[.int .i64 0,.int .i64 0,.int .i64 0,.int .i64 0,.int .i64 0,.slice none 0 0] 61)
 have k0:=(hb2.cell (lt_of_cell c0)).trans c0
 have k1:=(hb2.cell (lt_of_cell c1)).trans c1
 have k2:=(hb2.cell (lt_of_cell c2)).trans c2
 have k3:=(hb2.cell (lt_of_cell c3)).trans c3
 have k4:=(hb2.cell (lt_of_cell c4)).trans c4
 have k5:=(hb2.cell (lt_of_cell c5)).trans c5
 have kf: ∀k,(W1.alloc (.cells #[.int .i64 0,.int .i64 0,.int .i64 0,.int .i64 0,.int .i64 0,.slice none 0 0] 61)).frozen? ⟨w.heap.size,k,none⟩=false:=fun k=>(hb2.frozen (p:=⟨w.heap.size,k,none⟩) (show w.heap.size< _ from lt_of_cell c0)).trans (cf k)
 obtain⟨d0,d1,d2,d3,d4,d5⟩:=box6 (Below.refl _ (W1.alloc (.cells #[.int .i64 0,.int .i64 0,.int .i64 0,.int .i64 0,.int .i64 0,.slice none 0 0] 61)))
 have df:=free6m (Below.refl _ (W1.alloc (.cells #[.int .i64 0,.int .i64 0,.int .i64 0,.int .i64 0,.int .i64 0,.slice none 0 0] 61)))
 obtain⟨W2,hW2⟩: ∃W2,W2=W1.alloc (.cells #[.int .i64 0,.int .i64 0,.int .i64 0,.int .i64 0,.int .i64 0,.slice none 0 0] 61):=⟨_,rfl⟩
 rw[<-hW2] at hb2 k0 k1 k2 k3 k4 k5 kf d0 d1 d2 d3 d4 d5 df
 rw[hs] at d0 d1 d2 d3 d4 d5 df
 have HB:=hid (step hb1 hb2)
 have hs2:W2.heap.size=w.heap.size+2:=by rw[hW2];simp [hs]
 have HS2:=hid hs2
 have HQ:Hid (∀w',Below W2.heap.size W2 w'->(w'.cell? ⟨w.heap.size,0,none⟩=some (.int .i64 xc)/\w'.cell? ⟨w.heap.size,1,none⟩=some (.int .i64 xs)/\w'.cell? ⟨w.heap.size,2,none⟩=some (.int .i64 xk)/\w'.cell? ⟨w.heap.size,3,none⟩=some (.int .i64 xn)/\w'.cell? ⟨w.heap.size,4,none⟩=some (.int .i64 xd)/\w'.cell? ⟨w.heap.size,5,none⟩=some (.slice xa xl.length xp))/\ ∀k,w'.frozen? ⟨w.heap.size,k,none⟩=false):=hid fun w' hb=>⟨⟨(hb.cell (lt_of_cell k0)).trans k0,(hb.cell (lt_of_cell k1)).trans k1,(hb.cell (lt_of_cell k2)).trans k2,(hb.cell (lt_of_cell k3)).trans k3,(hb.cell (lt_of_cell k4)).trans k4,(hb.cell (lt_of_cell k5)).trans k5⟩,fun k=>(hb.frozen (p:=⟨w.heap.size,k,none⟩) (show w.heap.size< _ from lt_of_cell k0)).trans (kf k)⟩
 have HD:Hid (∀w',Below W2.heap.size W2 w'->(w'.cell? ⟨w.heap.size+1,0,none⟩=some (.int .i64 0)/\w'.cell? ⟨w.heap.size+1,1,none⟩=some (.int .i64 0)/\w'.cell? ⟨w.heap.size+1,2,none⟩=some (.int .i64 0)/\w'.cell? ⟨w.heap.size+1,3,none⟩=some (.int .i64 0)/\w'.cell? ⟨w.heap.size+1,4,none⟩=some (.int .i64 0)/\w'.cell? ⟨w.heap.size+1,5,none⟩=some (.slice none 0 0))/\ ∀k,w'.frozen? ⟨w.heap.size+1,k,none⟩=false):=hid fun w' hb=>⟨⟨(hb.cell (lt_of_cell d0)).trans d0,(hb.cell (lt_of_cell d1)).trans d1,(hb.cell (lt_of_cell d2)).trans d2,(hb.cell (lt_of_cell d3)).trans d3,(hb.cell (lt_of_cell d4)).trans d4,(hb.cell (lt_of_cell d5)).trans d5⟩,fun k=>(hb.frozen (p:=⟨w.heap.size+1,k,none⟩) (show w.heap.size+1< _ from lt_of_cell d0)).trans (df k)⟩
 have KC:Hid (∀w',Below W2.heap.size W2 w'->Calls Tryz.prog 105 #[.slice xa xl.length xp] w' (MadeH xl w')):=hid fun w' hb=>CloneH_any _ xl w' (hl.later (step HB.out hb)) (by omega)
 clear hb1 hb2 c0 c1 c2 c3 c4 c5 cf k0 k1 k2 k3 k4 k5 kf d0 d1 d2 d3 d4 d5 df hl
 obtain⟨L,hL⟩: ∃L,xl.length=L:=⟨_,rfl⟩
 have HL:=hid hL
 rw[hL] at h5 HQ KC ⊢
 rw[hL] at hW1
 clear hL
 go_enter Tryz.func114,Tryz.ntmps114
 go_upto_region 1 with fail
 rw[<-hW1,<-hW2]
 clear hW1 hW2 hs hs2
 obtain⟨⟨k0,k1,k2,k3,k4,k5⟩, -⟩:=HQ.out _ (Below.refl _ W2)
 go_upto_region 2 with (go_at_call 105;refine(KC.out _ (Below.refl _ _)).mono ?_;rintro e w6 ⟨v6,rfl,ho6,hb6⟩;have HO6:=hid ho6;obtain⟨a6,c6,rfl⟩:=Rw.own_form HO6.out;have HB6:=hid hb6;obtain⟨⟨p0,p1,p2,p3,p4,p5⟩,pf⟩:=HQ.out _ hb6;clear ho6 hb6)
 obtain⟨W7,hW7⟩: ∃W7,W7=w6.setCell ⟨w.heap.size,5,none⟩ (.slice a6 xl.length c6):=⟨_,rfl⟩
 obtain⟨⟨y0,y1,y2,y3,y4,y5⟩,yf⟩:=HD.out _ HB6.out
 have t0:W7.cell? ⟨w.heap.size,0,none⟩=some (.int .i64 xc):=by rw[hW7];simp [go_sem,p0]
 have t1:W7.cell? ⟨w.heap.size,1,none⟩=some (.int .i64 xs):=by rw[hW7];simp [go_sem,p1]
 have t2:W7.cell? ⟨w.heap.size,2,none⟩=some (.int .i64 xk):=by rw[hW7];simp [go_sem,p2]
 have t3:W7.cell? ⟨w.heap.size,3,none⟩=some (.int .i64 xn):=by rw[hW7];simp [go_sem,p3]
 have t4:W7.cell? ⟨w.heap.size,4,none⟩=some (.int .i64 xd):=by rw[hW7];simp [go_sem,p4]
 have t5:W7.cell? ⟨w.heap.size,5,none⟩=some (.slice a6 xl.length c6):=by rw[hW7];simp [go_sem,p5,pf]
 have e0:W7.cell? ⟨w.heap.size+1,0,none⟩=some (.int .i64 0):=by rw[hW7];simp [go_sem,y0]
 have e1:W7.cell? ⟨w.heap.size+1,1,none⟩=some (.int .i64 0):=by rw[hW7];simp [go_sem,y1]
 have e2:W7.cell? ⟨w.heap.size+1,2,none⟩=some (.int .i64 0):=by rw[hW7];simp [go_sem,y2]
 have e3:W7.cell? ⟨w.heap.size+1,3,none⟩=some (.int .i64 0):=by rw[hW7];simp [go_sem,y3]
 have e4:W7.cell? ⟨w.heap.size+1,4,none⟩=some (.int .i64 0):=by rw[hW7];simp [go_sem,y4]
 have e5:W7.cell? ⟨w.heap.size+1,5,none⟩=some (.slice none 0 0):=by rw[hW7];simp [go_sem,y5]
 have ef: ∀k,W7.frozen? ⟨w.heap.size+1,k,none⟩=false:=fun k=>by rw[hW7];simp [go_sem,yf]
 have hs2:=HS2.out
 have hlt:w.heap.size+1<W2.heap.size:=by omega
 have hlt0:w.heap.size<W2.heap.size:=by omega
 have HO7:Hid (W7.ownsRow W2.heap.size 67 2 (.slice a6 xl.length c6) xl.length (flatX cellsG xl)):=hid (by rw[hW7];exact ownsRow_setCell_below HO6.out hlt0 _)
 have HB7:Hid (Below w.heap.size w W7):=hid (by rw[hW7];exact(step HB.out HB6.out).setCell (Nat.le_refl _) _)
 rw[<-hW7]
 clear hW7 HO6 HQ HD KC k0 k1 k2 k3 k4 k5 p0 p1 p2 p3 p4 p5 pf y0 y1 y2 y3 y4 y5 yf hs2
 go_wp2
 refine bodyPost_ret (by simp [results,Tryz.results114,go_sem,e0,e1,e2,e3,e4,e5,ef]<;>rfl) rfl ?_
 have ho:=HO7.out
 rw[HL.out] at ho ⊢
 refine⟨a6,c6,rfl,own_lowerX (ownsRow_setCell_below (ownsRow_setCell_below (ownsRow_setCell_below (ownsRow_setCell_below (ownsRow_setCell_below (ownsRow_setCell_below ho hlt _) hlt _) hlt _) hlt _) hlt _) hlt _) HB.out.size,set6m HB7.out _ (Nat.le_succ _) _ _ _ _ _ _⟩
structure OwnM (base:Nat) (w:World) (v:Value) (M:List MemC):Prop where
 row:w.ownsRow base 61 6 v M.length (flatX cellsM M)
 held: ∀x∈M,w.ownsRow base 67 2 x.hv x.m.rep.held.length (flatX cellsG x.m.rep.held)
theorem OwnM.nil (base:Nat) (w:World):OwnM base w (.slice none 0 0) []:=⟨World.ownsRow_nil _ _ _ _,fun x hx=>by cases hx⟩
theorem OwnM.rd {base:Nat} {w:World} {v:Value} {M:List MemC} (h:OwnM base w v M):RdM w v M:=⟨RdX.own cellsM_length h.row,fun x hx=>RdH.of (RdX.own cellsG_length (h.held x hx))⟩
theorem OwnM.later {base:Nat} {w w':World} {v:Value} {M:List MemC} (h:OwnM base w v M) (hb:Below w.heap.size w w'):OwnM base w' v M:=⟨Rw.own_below h.row hb,fun x hx=>Rw.own_below (h.held x hx) hb⟩
theorem OwnM.lower {base base':Nat} {w:World} {v:Value} {M:List MemC} (h:OwnM base w v M) (hb:base'<=base):OwnM base' w v M:=⟨own_lowerX h.row hb,fun x hx=>own_lowerX (h.held x hx) hb⟩
theorem OwnM.kept {base:Nat} {w w':World} {v:Value} {M:List MemC} (h:OwnM base w v M) (hg:w.grownBy w' v.ownBlock): ∀x∈M,w'.ownsRow base 67 2 x.hv x.m.rep.held.length (flatX cellsG x.m.rep.held):=
 fun x hx=>Rw.own_other (h.held x hx) hg (own_types h.row (h.held x hx) (by decide))
theorem OwnM.push {base base':Nat} {wr w3 w6:World} {m v':Value} {M:List MemC} {x:MemC} (h:OwnM base wr m M) (hb:Below wr.heap.size wr w3)
  (hl:w3.ownsRow base' 67 2 x.hv x.m.rep.held.length (flatX cellsG x.m.rep.held)) (hbs:base<=base') (hg:w3.grownBy w6 m.ownBlock)
  (ho:w6.ownsRow base 61 6 v' (M++ [x]).length (flatX cellsM (M++ [x]))):OwnM base w6 v' (M++ [x]):=by
 have hm:=h.later hb
 refine⟨ho,fun y hy=>?_⟩
 rcases List.mem_append.1 hy with q | q
 ·exact hm.kept hg y q
 ·rw[List.mem_singleton] at q
  subst q
  exact own_lowerX (Rw.own_other hl hg (own_types hm.row hl (by decide))) hbs
def MadeM (l:List AnsV) (w:World) (e:Ending) (w':World):Prop:=
 ∃v M,e= .returned v/\valsM M=l/\OwnM w.heap.size w' v M/\Below w.heap.size w w'
set_option maxHeartbeats 4000000 in
theorem copiesM_any (v:Value) (L:List MemC) (w:World) (h:RdM w v L) (h5:L.length<=1000) (h6: ∀x∈L,x.m.rep.held.length<=1000):Calls Tryz.prog 121 #[v] w (MadeM (valsM L) w):=by
 have hm:=h.len
 obtain⟨a,cap,rfl⟩:=h.form
 have HA:=hid (fun i hi=>rdm_at h.row i hi)
 have HL:Hid (∀i (hi:i<L.length) (w':World),Below w.heap.size w w'->Calls Tryz.prog 114 #[memVal L[i]] w' (IsCopyM L[i].m w')):=hid fun i hi w' hb=>copyOfM_any _ w' ((h.held _ (List.getElem_mem hi)).later hb) (h6 _ (List.getElem_mem hi))
 have HV:Hid (∀i (hi:i<L.length),valsM (L.take (i+1))=valsM (L.take i)++ [L[i].m]):=hid fun i hi=>by
  rw[List.take_succ_eq_append_getElem hi]
  unfold valsM
  rw[List.map_append]
  rfl
 clear h h6
 obtain⟨N,hN⟩: ∃N,L.length=N:=⟨_,rfl⟩
 have HLL:=hid hN
 rw[hN] at hm h5 ⊢
 clear hN
 obtain⟨i1,hi',hz0',hz1',hz2'⟩:=info_parts infoM
 go_enter Tryz.func121,Tryz.ntmps121
 go_wp2
 go_loopw [3,8] (fun m i wr=> ∃(k:Nat) (M:List MemC),k<=N/\i= .int .i64 k/\M.length=k/\Hid (valsM M=valsM (L.take k))/\Hid (OwnM w.heap.size wr m M)/\Hid (Below w.heap.size w wr)) (fun _ i _=>N - (intOf i).toNat)
 case atStart=>exact⟨0,[],by omega,rfl,rfl,hid rfl,hid (OwnM.nil _ _),hid (Below.refl _ _)⟩
 case round=>
  obtain⟨k,M,hk,rfl,hMk,HM,HO,HB⟩:=hrel
  by_cases hlt:k<N
  ·have hkl:k<L.length:=by rw[HLL.out];exact hlt
   obtain⟨b,o,rfl,hc⟩:=HA.out k hkl
   obtain⟨q0,q1,q2,q3,q4,q5⟩:=hc _ HB.out
   have hl:=HL.out k hkl
   have hv:=HV.out k hkl
   clear hc HA HL HV
   generalize L[k]=x at q0 q1 q2 q3 q4 q5 hl hv
   obtain⟨⟨xc,xs,xk,xn,xd,xl⟩,xa,xp⟩:=x
   unfold memVal MemC.hv IsCopyM at hl
   unfold MemC.hv at q5
   dsimp only at q0 q1 q2 q3 q4 q5 hl hv
   have HVV:=hid hv
   have HCC:=hid hl
   clear hl hv
   go_upto_region 5 with fail
   obtain⟨W1,hW1⟩: ∃W1,W1=wr.alloc (.cells #[.int .i64 xc,.int .i64 xs,.int .i64 xk,.int .i64 xn,.int .i64 xd,.slice xa xl.length xp] 61):=⟨_,rfl⟩
   have HB1:Hid (Below wr.heap.size wr W1):=hid (by rw[hW1];exact newAlloc _ _)
   obtain⟨z0,z1,z2,z3,z4,z5⟩:=box6 (Below.refl _ (wr.alloc (.cells #[.int .i64 xc,.int .i64 xs,.int .i64 xk,.int .i64 xn,.int .i64 xd,.slice xa xl.length xp] 61)))
   rw[<-hW1] at z0 z1 z2 z3 z4 z5 ⊢
   clear hW1 q0 q1 q2 q3 q4 q5
   have HCC:=hid (HCC.out W1 (step HB.out HB1.out))
   have hb1:=HB1.out.size
   have hbw:=HB.out.size
   go_wp2_with (first
    | (go_at_call 114;refine HCC.out.mono ?_;rintro e w3 ⟨ya,yc,rfl,hl3,hb3⟩;have HO3:=hid hl3;have HB3:=hid (step HB1.out hb3);have HM3:Hid (w3.ownsRow w.heap.size 61 6 u3 M.length (flatX cellsM M)):=hid (HO.out.later HB3.out).row;have hb3s:=hb3.size;clear hl3 hb3)
    | (at_builtin;refine wpList_append_one_gr cellsM_length (by omega) rfl (.tmp 12) (.tmp 15) 26 rfl 61 i1 _ 64 Tryz.underlying26 hi' hz0' hz1' hz2' rfl #[.int .i64 xc,.int .i64 xs,.int .i64 xk,.int .i64 xn,.int .i64 xd,.slice ya xl.length yc] (⟨⟨xc,xs,xk,xn,xd,xl⟩,ya,yc⟩:MemC) rfl (cellsM_one _) M w.heap.size u3 rfl rfl HM3.out (by unfold maxLen;omega) (by omega) (by omega) ?_;intro v6 w6 ho6 hg6 _;have HO6:Hid (OwnM w.heap.size w6 v6 (M++ [⟨⟨xc,xs,xk,xn,xd,xl⟩,ya,yc⟩])):=hid (HO.out.push (x:=⟨⟨xc,xs,xk,xn,xd,xl⟩,ya,yc⟩) (stepAlloc HB3.out _) (Rw.own_alloc HO3.out _) (Nat.le_trans hbw hb1) hg6 ho6);have HB6:Hid (Below w.heap.size w w6):=hid ((step HB.out (stepAlloc HB3.out _)).grown hg6 (by simp;omega) (fun g hg=>(Rw.own_lt HM3.out g hg).1));clear ho6 hg6))
   go_roundw
   case rel=>exact⟨k+1,M++ [⟨⟨xc,xs,xk,xn,xd,xl⟩,ya,yc⟩],by omega,by go_num,by simp;omega,hid (by rw[HVV.out,<-HM.out];unfold valsM;rw[List.map_append];rfl),HO6,HB6⟩
   case measure=>simp [intOf];omega
  ·obtain rfl:k=N:=by omega
   go_wp2
   go_ret
   have hM:=HM.out
   rw[<-HLL.out,List.take_length] at hM
   exact⟨_,M,rfl,hM,HO.out,HB.out⟩
end Cm
end Go.Proofs.YthpknaieimlmnaaGreat
