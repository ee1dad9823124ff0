/- Texts laid together by program. -/
import Derived.Test.YtheenjkmglmihaaQ15
import Derived.Test.YtheenjkmglmihaaQ18
import Derived.Laws.StructEq
import Derived.ProofKit
import Derived.OpenShut
import Derived.Deep.Strs
import Derived.Deep.Slices
import Derived.Lib.SmallJoins
/- The statements' own helpers of layer 16: Great, Same, awake. -/
set_option linter.unusedVariables false
set_option maxRecDepth 8000
set_option linter.unusedSimpArgs false
namespace Go.Proofs.Ytheenjkmglmihaa
open Lib (hid)
open Go.RowKit
namespace Pl
open Cm Ac

set_option maxHeartbeats 4000000 in
theorem GreatP_any (p:PromC) (w:World) (h:RdV w p.u p.votes):Calls Try.prog 8 #[promVal p] w (fun e w'=>(∃b,e= .returned (.bool b))/\Below w.heap.size w w'):=by
 obtain⟨pw,pd,pv,ps,pt,l,a,cap⟩:=p
 unfold PromC.u at h
 unfold promVal PromC.u
 dsimp only at h ⊢
 have HB:=hid (newAlloc w (.cells #[.int .i64 pw,.int .i64 pd,.int .i64 pv,.int .i64 ps,.int .i64 pt,.slice a l.length cap] 29))
 have hm:=h.len
 obtain⟨_,_,hv,hlc,hcm, -⟩:=h.row.ex
 cases hv
 have HA:=hid (fun i hi=>rdv_at h.row i hi)
 have HR:=hid h.reqs
 clear h
 obtain⟨N,hn⟩: ∃N,l.length=N:=⟨_,rfl⟩
 have HN:=hid hn
 rw[hn] at hm hlc HB ⊢
 clear hn
 by_cases hg:30<N
 ·have d:decide (30<(N:Int))=true:=by simp;omega
  go_enter Try.func8,Try.ntmps8
  go_wp2
  go_ret
  exact⟨⟨_,rfl⟩,HB.out⟩
 have d:decide (30<(N:Int))=false:=by simp;omega
 have HBX:Hid (∀w',Below (w.alloc (.cells #[.int .i64 pw,.int .i64 pd,.int .i64 pv,.int .i64 ps,.int .i64 pt,.slice a N cap] 29)).heap.size (w.alloc (.cells #[.int .i64 pw,.int .i64 pd,.int .i64 pv,.int .i64 ps,.int .i64 pt,.slice a N cap] 29)) w'->w'.cell? ⟨w.heap.size,4+1,none⟩=some (.slice a N cap)):=hid (fun w' hb=>(box6p hb).2.2.2.2.2)
 go_enter Try.func8,Try.ntmps8
 go_upto_region 3 with fail
 generalize w.alloc (.cells #[.int .i64 pw,.int .i64 pd,.int .i64 pv,.int .i64 ps,.int .i64 pt,.slice a N cap] 29)=W at HB HBX ⊢
 go_wp2
 go_loopw [3,8] (fun i _ wr=> ∃j:Nat,j<=N/\i= .int .i64 (j:Int)/\Hid (Below W.heap.size W wr)) (fun i _ _=>N - (intOf i).toNat)
 case atStart=>exact⟨0,by omega,rfl,hid (Below.refl _ _)⟩
 case round=>
  obtain⟨j,hj,rfl,HBR⟩:=hrel
  have hbx:=HBX.out _ HBR.out
  by_cases hlt:j<N
  case neg=>
   obtain rfl:j=N:=by omega
   go_wp2
   go_ret
   exact⟨⟨_,rfl⟩,step HB.out HBR.out⟩
  have hjl:j<l.length:=by rw[HN.out];exact hlt
  obtain⟨b,o,rfl,hc⟩:=HA.out j hjl
  obtain⟨-, -,q2,q3,q4,q5,q6,q7⟩:=hc _ (step HB.out HBR.out)
  have hr:=HR.out l[j] (mem_get hjl)
  obtain⟨x,hx⟩: ∃x,l[j]=x:=⟨_,rfl⟩
  rw[hx] at q2 q3 q4 q5 q6 q7 hr
  clear hc hx hjl
  have CG:=hid (fun w' (hb:Below w.heap.size w w')=>Great_any x.bat x.u w' (hr.later hb))
  clear hr
  obtain⟨xs,xb,⟨xf,xv,xtv,xts,xt,xr⟩,xa,xc⟩:=x
  unfold VoteC.u at q7 CG
  unfold batVal at CG
  dsimp only at q2 q3 q4 q5 q6 q7 CG
  generalize greatB ⟨xf,xv,xtv,xts,xt,xr⟩=G at CG
  generalize xr.length=xn at*
  have hj0:(0:Int)<=(j:Int):=by omega
  have hj1:(j:Int)<(N:Int):=by omega
  cases G
  case true=>
   go_wp2_with (go_at_call 20;refine(CG.out _ (step HB.out HBR.out)).mono ?_;rintro e w2 ⟨rfl,hb2⟩)
   go_ret
   exact⟨⟨_,rfl⟩,step (step HB.out HBR.out) hb2⟩
  go_wp2_with (go_at_call 20;refine(CG.out _ (step HB.out HBR.out)).mono ?_;rintro e w2 ⟨rfl,hb2⟩)
  go_roundw
  case rel=>exact⟨j+1,by omega,by go_num,hid (step HBR.out hb2)⟩
  case measure=>simp [intOf];omega
set_option maxHeartbeats 4000000 in
theorem Same_one (p:PlanV) (La Lb:List BatC) (va vb:Option Addr) (ca cb:Nat) (w:World) (ha:RdB w (.slice va La.length ca) La) (hb:RdB w (.slice vb Lb.length cb) Lb) (e:valsB La=valsB Lb):
  Calls Try.prog 13 #[planVal p (.slice va La.length ca),planVal p (.slice vb Lb.length cb)] w (SaysB true w):=by
 obtain⟨pd,pt,ps,pm,pb,pe,pf,pl⟩:=p
 unfold planVal
 dsimp only
 have hbn:=stepAlloc (newAlloc w (.cells #[.int .i64 pd,.int .i64 pt,.int .i64 ps,.int .i64 pm,.slice va La.length ca,.int .i64 pe,.int .i64 pf,.int .i64 pl] 32)) (.cells #[.int .i64 pd,.int .i64 pt,.int .i64 ps,.int .i64 pm,.slice vb Lb.length cb,.int .i64 pe,.int .i64 pf,.int .i64 pl] 36)
 have CS:=hid (SameBatches_any _ _ La Lb _ (ha.later hbn) (hb.later hbn))
 rw[e,(sameBs_iff _ _).2 rfl] at CS
 have HB:=hid hbn
 have hx1:=cells_later (alloc_atB w (.cells #[.int .i64 pd,.int .i64 pt,.int .i64 ps,.int .i64 pm,.slice va La.length ca,.int .i64 pe,.int .i64 pf,.int .i64 pl] 32) _ rfl) (newAlloc _ (.cells #[.int .i64 pd,.int .i64 pt,.int .i64 ps,.int .i64 pm,.slice vb Lb.length cb,.int .i64 pe,.int .i64 pf,.int .i64 pl] 36))
 have hx2:=alloc_atB (w.alloc (.cells #[.int .i64 pd,.int .i64 pt,.int .i64 ps,.int .i64 pm,.slice va La.length ca,.int .i64 pe,.int .i64 pf,.int .i64 pl] 32)) (.cells #[.int .i64 pd,.int .i64 pt,.int .i64 ps,.int .i64 pm,.slice vb Lb.length cb,.int .i64 pe,.int .i64 pf,.int .i64 pl] 36) (w.heap.size+1) (by simp)
 have HX1:=hid hx1
 have HX2:=hid hx2
 clear ha hb e hbn hx1 hx2
 generalize La.length=na at*
 generalize Lb.length=nb at*
 have e1:(pd==pd)=true:=by simp
 have e2:(pt==pt)=true:=by simp
 have e3:(ps==ps)=true:=by simp
 have e4:(pm==pm)=true:=by simp
 have e5:(pe==pe)=true:=by simp
 have e6:(pf==pf)=true:=by simp
 have e7:(pl==pl)=true:=by simp
 go_enter Try.func13,Try.ntmps13
 go_upto_region 1 with fail
 generalize (w.alloc (.cells #[.int .i64 pd,.int .i64 pt,.int .i64 ps,.int .i64 pm,.slice va na ca,.int .i64 pe,.int .i64 pf,.int .i64 pl] 32)).alloc (.cells #[.int .i64 pd,.int .i64 pt,.int .i64 ps,.int .i64 pm,.slice vb nb cb,.int .i64 pe,.int .i64 pf,.int .i64 pl] 36)=W at CS HB HX1 HX2 ⊢
 have c0:=cell_at HX1.out 0
 have c1:=cell_at HX1.out 1
 have c2:=cell_at HX1.out 2
 have c3:=cell_at HX1.out 3
 have c4:=cell_at HX1.out 4
 have c5:=cell_at HX1.out 5
 have c6:=cell_at HX1.out 6
 have c7:=cell_at HX1.out 7
 have d0:=cell_at HX2.out 0
 have d1:=cell_at HX2.out 1
 have d2:=cell_at HX2.out 2
 have d3:=cell_at HX2.out 3
 have d4:=cell_at HX2.out 4
 have d5:=cell_at HX2.out 5
 have d6:=cell_at HX2.out 6
 have d7:=cell_at HX2.out 7
 simp at c0 c1 c2 c3 c4 c5 c6 c7 d0 d1 d2 d3 d4 d5 d6 d7
 go_wp2_with (go_at_call 15;refine CS.out.mono ?_;rintro e w2 ⟨rfl,hb2⟩;have HB2:=hid (step HB.out hb2);have hx1:=cells_later HX1.out hb2;have hx2:=cells_later HX2.out hb2;clear c0 c1 c2 c3 c4 c5 c6 c7 d0 d1 d2 d3 d4 d5 d6 d7;have c5:=cell_at hx1 5;have c6:=cell_at hx1 6;have c7:=cell_at hx1 7;have d5:=cell_at hx2 5;have d6:=cell_at hx2 6;have d7:=cell_at hx2 7;simp at c5 c6 c7 d5 d6 d7;clear hx1 hx2 hb2)
 go_ret
 exact⟨by simp,HB2.out⟩
def p16:PromV:=⟨2,4,1,3,9,[]⟩
def pl16:PlanV:=⟨4,1,3,9,[],1,3,9⟩
theorem make16:makeF [p16]=(pl16,0):=by rfl
theorem may16:mayP ⟨0,0,0,0,0,[]⟩=true:=by rfl
set_option maxHeartbeats 8000000 in
theorem awake16_ok (w:World):Calls Try.prog 7 #[] w (SaysB true w):=by
 have hlit:RdP (w.alloc (.cells #[.int .i64 2,.int .i64 4,.int .i64 1,.int .i64 3,.int .i64 9,.slice none 0 0] 29)) (.slice (some ⟨w.heap.size,0,none⟩) 1 1) [⟨2,4,1,3,9,[],none,0⟩]:=by
  have h:=World.ownsRow_lit (base:=w.heap.size) (e:=29) (size:=6) w #[.int .i64 2,.int .i64 4,.int .i64 1,.int .i64 3,.int .i64 9,.slice none 0 0] 1 (Nat.le_refl _) (by unfold maxLen;omega) (by simp)
  exact⟨RdX.own (l:= [⟨2,4,1,3,9,[],none,0⟩]) cellsP_length h,fun x hx=>by rw[List.mem_singleton] at hx;rw[hx];exact RdV.nil _⟩
 have C1:=hid (Make_any _ _ _ hlit (by decide))
 rw[show makeF (valsP [⟨2,4,1,3,9,[],none,0⟩])=(pl16,0) from make16] at C1
 have HB1:=hid (newAlloc w (.cells #[.int .i64 2,.int .i64 4,.int .i64 1,.int .i64 3,.int .i64 9,.slice none 0 0] 29))
 have C2:=hid (fun W=>Make_any (.slice none 0 0) [] W (RdP.nil W) (by decide))
 rw[show makeF (valsP [])=(zeroL,6) from rfl] at C2
 have C3:=hid (fun W=>MayP_any ⟨0,0,0,0,0,[],none,0⟩ W (RdV.nil W))
 rw[show mayP (PromC.val ⟨0,0,0,0,0,[],none,0⟩)=true from may16] at C3
 unfold GivesP planVal at C1 C2
 unfold pl16 at C1
 unfold zeroL at C2
 unfold promVal PromC.u at C3
 dsimp only[List.length_nil] at C1 C2 C3
 clear hlit
 go_enter Try.func7,Try.ntmps7
 go_upto_region 2 with (go_at_call 11;refine C1.out.mono ?_;rintro e w2 ⟨va,vc,Lb,rfl,hvb, -,hb2⟩;have hlb:Lb.length=0:=(by have:=congrArg List.length hvb;rw[valsB_length] at this;exact this);rw[hlb];have HB2:=hid (step HB1.out hb2);clear hvb hlb hb2)
 have hbp:=newAlloc w2 (.cells #[.int .i64 4,.int .i64 1,.int .i64 3,.int .i64 9,.slice va 0 vc,.int .i64 1,.int .i64 3,.int .i64 9] 32)
 have HX3:Hid (HeapAt (w2.alloc (.cells #[.int .i64 4,.int .i64 1,.int .i64 3,.int .i64 9,.slice va 0 vc,.int .i64 1,.int .i64 3,.int .i64 9] 32)) w2.heap.size (.cells #[.int .i64 4,.int .i64 1,.int .i64 3,.int .i64 9,.slice va 0 vc,.int .i64 1,.int .i64 3,.int .i64 9] 32)):=hid (alloc_atB _ _ _ rfl)
 have HB3:=hid (step HB2.out hbp)
 generalize w2.alloc (.cells #[.int .i64 4,.int .i64 1,.int .i64 3,.int .i64 9,.slice va 0 vc,.int .i64 1,.int .i64 3,.int .i64 9] 32)=W3 at HX3 HB3 ⊢
 generalize w2.heap.size=g3 at HX3 ⊢
 clear hbp
 go_upto_region 3 with (go_at_call 11;refine(C2.out _).mono ?_;rintro e w4 ⟨vd,ve,Ld,rfl,hvb, -,hb4⟩;have HB4:=hid (step HB3.out hb4);have HX4:=hid (HX3.out.later hb4);clear hvb hb4)
 have hbp:=newAlloc w4 (.cells #[.int .i64 0,.int .i64 0,.int .i64 0,.int .i64 0,.slice vd Ld.length ve,.int .i64 0,.int .i64 0,.int .i64 0] 32)
 have HX5:=hid (HX4.out.later hbp)
 have HB5:=hid (step HB4.out hbp)
 generalize w4.alloc (.cells #[.int .i64 0,.int .i64 0,.int .i64 0,.int .i64 0,.slice vd Ld.length ve,.int .i64 0,.int .i64 0,.int .i64 0] 32)=W5 at HX5 HB5 ⊢
 clear hbp
 have c0:=cell_at HX5.out 0
 have c1:=cell_at HX5.out 1
 have c2:=cell_at HX5.out 2
 have c3:=cell_at HX5.out 3
 have c4:=cell_at HX5.out 4
 have c5:=cell_at HX5.out 5
 have c6:=cell_at HX5.out 6
 have c7:=cell_at HX5.out 7
 simp at c0 c1 c2 c3 c4 c5 c6 c7
 go_wp2_with (go_at_call 9;refine(C3.out _).mono ?_;rintro e w6 ⟨rfl,hb6⟩;have HB6:=hid (step HB5.out hb6);clear hb6)
 go_ret
 exact⟨by simp,HB6.out⟩
end Pl
end Go.Proofs.Ytheenjkmglmihaa

/- Arguments that are batches, tips, opened. -/
set_option linter.unusedVariables false
set_option maxRecDepth 8000
set_option linter.unusedSimpArgs false
namespace Go.Proofs.Ytheenjkmglmihaa
open Lib (hid)
open Go.RowKit Go.ChangeShapes Go.WideShapes Go.Deep
namespace Cm

theorem list_ofB {α:Type} {P:Nat->α->Prop} : ∀n,(∀i,i<n-> ∃g,P i g)-> ∃l:List α,l.length=n/\ ∀i (h:i<l.length),P i l[i]
 | 0,_=>⟨[],rfl,fun i h=>absurd h (Nat.not_lt_zero _)⟩
 | n+1,h=>by
  obtain⟨l,hl,hp⟩:=list_ofB n (fun i hi=>h i (by omega))
  obtain⟨g,hg⟩:=h n (by omega)
  refine⟨l++ [g],by simp [hl],fun i hi=>?_⟩
  rw[List.length_append,List.length_singleton,hl] at hi
  by_cases q:i<n
  ·rw[List.getElem_append_left (by omega)]
   exact hp i (by omega)
  ·obtain rfl:i=n:=by omega
   rw[List.getElem_append_right (by omega)]
   simpa [hl] using hg
section
variable {H : Type} {enc : TypeId × Value → H} {W : World} {base : Nat} {sp : Nat → Bool} {held : Bool}
theorem trod_struct5B {P:Program} {t:TypeId} {f0 f1 f2 f3 f4:Field} {fuel:Nat} {cs:List Value} {x:DataW H × List MemPlace} (ht:P.underlying t=some (.struct #[f0,f1,f2,f3,f4])) (h:DataW.trod enc P W base sp held fuel t cs=some x):
  ∃y0 y1 y2 y3 y4 n,cs.length=P.cellsOf t/\DataW.trod enc P W base sp held n f0.type ((cs.drop f0.offset).take (P.cellsOf f0.type))=some y0/\
   DataW.trod enc P W base sp held n f1.type ((cs.drop f1.offset).take (P.cellsOf f1.type))=some y1/\DataW.trod enc P W base sp held n f2.type ((cs.drop f2.offset).take (P.cellsOf f2.type))=some y2/\
   DataW.trod enc P W base sp held n f3.type ((cs.drop f3.offset).take (P.cellsOf f3.type))=some y3/\DataW.trod enc P W base sp held n f4.type ((cs.drop f4.offset).take (P.cellsOf f4.type))=some y4:=by
 obtain⟨xs,n,_,rfl,hl,hlen,hf⟩:=DataW.trod_struct ht h
 match xs,hlen with
 | [y0,y1,y2,y3,y4],_=>exact⟨y0,y1,y2,y3,y4,n,hl,by simpa using hf 0 f0 rfl,by simpa using hf 1 f1 rfl,by simpa using hf 2 f2 rfl,by simpa using hf 3 f3 rfl,by simpa using hf 4 f4 rfl⟩
theorem tip_cells {fuel:Nat} {cs:List Value} {x:DataW H × List MemPlace} (h:DataW.trod enc Try.prog W base sp held fuel 26 cs=some x):
  ∃p:Int × Int,cs= [.int .i64 p.1,.int .i64 p.2]:=by
 have hce:Try.prog.cellsOf 26=2:=by kernel_rfl
 obtain⟨y0,y1,n',_,hlen,t0,t1⟩:=trod_struct2 Try.underlying26 h
 rw[hce] at hlen
 match cs,hlen with
 | [c0,c1],_=>
  obtain⟨d,e0,_⟩:=DataW.trod_int Try.underlying3 t0
  obtain⟨m,e1,_⟩:=DataW.trod_int Try.underlying3 t1
  have e0':c0= .int .i64 d:=by injection e0
  have e1':c1= .int .i64 m:=by injection e1
  exact⟨(d,m),by rw[e0',e1']⟩
end

section
variable {H : Type} {enc : TypeId × Value → H} {W : World}
theorem req_cellsB {fuel:Nat} {cs:List Value} {x:DataW H × List MemPlace} (h:DataW.trod enc Try.prog W 0 (fun _=>true) true fuel 77 cs=some x): ∃r:ReqV,cs=cellsR r:=req_cells h
theorem reqs_of {fuel:Nat} {cs:List Value} {x:DataW H × List MemPlace} (h:DataW.trod enc Try.prog W 0 (fun _=>true) true fuel 45 cs=some x): ∃v l,cs= [v]/\RdR W v l:=by
 rcases open_slice Try.underlying45 h with ⟨h0,_⟩ | ⟨ad,len,cap,m,n,D,Pl,h0,_,hl,hm,hmm,_,hi⟩
 ·exact⟨_,[],h0,RdX.nil W⟩
 ·have hce:Try.prog.cellsOf 77=5:=by kernel_rfl
  have hm':m=cap:=by rw[hmm];rfl
  subst hm'
  clear hmm
  have key: ∀i,i<len-> ∃g:ReqV,∀k u,(cellsR g)[k]?=some u->W.cell? (ad.add (i*5+k))=some u:=by
   intro i hil
   obtain⟨cs',hc,ht⟩:=hi i (by omega)
   rw[hce] at hc
   obtain⟨y,rfl⟩:=req_cellsB ht
   obtain⟨_,hcl,hat⟩:=World.cells?_some hc
   refine⟨y,fun k u hk=>?_⟩
   have hks:k<(cellsR y).length :=(List.getElem?_eq_some_iff.1 hk).1
   have a0:=hat k (by rw[cellsR_length] at hks;exact hks)
   rw[Go.Deep.add_add] at a0
   rw[<-hk,<-a0]
  obtain⟨l,hll,hp⟩:=list_ofB len key
  refine⟨_,l,h0,some ad,m,by rw[hll],by omega,hm,(fun q=>by cases q),fun x hx hne=>?_⟩
  cases hx
  obtain⟨b,o,spot⟩:=ad
  have hpos:0<l.length:=List.length_pos_iff.2 hne
  have h0l:0<(cellsR l[0]).length :=by rw[cellsR_length];omega
  have hc:=hp 0 hpos 0 _ (List.getElem?_eq_getElem h0l)
  have hspot:spot=none:=by simpa [Addr.add] using World.cell?_spot hc
  subst hspot
  refine⟨rfl,fun i hil k u hu=>?_⟩
  have hadd: ∀j,(⟨b,o,none⟩:Addr).add j=⟨b,o+j,none⟩:=fun j=>by unfold Addr.add;split<;>simp_all
  have:=hp i hil k u hu
  rw[hadd] at this
  exact this
theorem list6B {α:Type} {cs:List α} (h:cs.length=6): ∃c0 c1 c2 c3 c4 c5,cs= [c0,c1,c2,c3,c4,c5]:=by
 match cs,h with
 | [c0,c1,c2,c3,c4,c5],_=>exact⟨c0,c1,c2,c3,c4,c5,rfl⟩
theorem bat_cells {fuel:Nat} {cs:List Value} {x:DataW H × List MemPlace} (h:DataW.trod enc Try.prog W 0 (fun _=>true) true fuel 47 cs=some x):
  ∃(b:BatV) (v:Value),cs= [.bool b.fill,.int .i64 b.view,.int .i64 b.tv,.int .i64 b.ts,.int .i64 b.time,v]/\RdR W v b.reqs:=by
 have hce:Try.prog.cellsOf 47=6:=by kernel_rfl
 have hct:Try.prog.cellsOf 26=2:=by kernel_rfl
 have hcr:Try.prog.cellsOf 45=1:=by kernel_rfl
 obtain⟨y0,y1,y2,y3,y4,n',hlen,t0,t1,t2,t3,t4⟩:=trod_struct5B Try.underlying47 h
 rw[hce] at hlen
 obtain⟨c0,c1,c2,c3,c4,c5,rfl⟩:=list6B hlen
 obtain⟨d,e0,_⟩:=DataW.trod_bool Try.underlying4 t0
 obtain⟨m,e1,_⟩:=DataW.trod_int Try.underlying3 t1
 obtain⟨p,hp⟩:=tip_cells t2
 rw[hct] at hp
 obtain⟨q,e3,_⟩:=DataW.trod_int Try.underlying3 t3
 obtain⟨v,l,e4,hl⟩:=reqs_of t4
 rw[hcr] at e4
 have e0':c0= .bool d:=by injection e0
 have e1':c1= .int .i64 m:=by injection e1
 have e2': [c2,c3]= [.int .i64 p.1,.int .i64 p.2]:=hp
 have e3':c4= .int .i64 q:=by injection e3
 have e4':c5=v:=by injection e4
 have e5:c2= .int .i64 p.1:=by injection e2'
 have e6:c3= .int .i64 p.2:=by injection e2' with _ h;injection h
 exact⟨⟨d,m,p.1,p.2,q,l⟩,v,by rw[e0',e1',e5,e6,e3',e4'],hl⟩
end
end Cm
end Go.Proofs.Ytheenjkmglmihaa

/- Arguments that are slices of promises, opened. -/
set_option linter.unusedVariables false
set_option maxRecDepth 8000
set_option linter.unusedSimpArgs false
namespace Go.Proofs.Ytheenjkmglmihaa
open Lib (hid)
open Go.RowKit Go.ChangeShapes Go.WideShapes Go.Deep
namespace Pl
open Cm Ac

section
variable {H : Type} {enc : TypeId × Value → H} {W : World}

theorem slice_ofN {α:Type} {sz:Nat} {f:α->List Value} {t e:TypeId} (hu:Try.prog.underlying t=some (.slice e)) (hce:Try.prog.cellsOf e=sz) (hsz:0<sz) (hf: ∀x,(f x).length =sz)
  (hel: ∀fuel cs x,DataW.trod enc Try.prog W 0 (fun _=>true) true fuel e cs=some x-> ∃y:α,cs=f y)
  {fuel:Nat} {cs:List Value} {x:DataW H × List MemPlace} (h:DataW.trod enc Try.prog W 0 (fun _=>true) true fuel t cs=some x): ∃v l,cs= [v]/\RdX sz f W v l:=by
 rcases open_slice hu h with ⟨h0,_⟩ | ⟨ad,len,cap,m,n,D,Pl,h0,_,hl,hm,hmm,hx,hi⟩
 ·exact⟨_,[],h0,RdX.nil W⟩
 ·have hm':m=cap:=by rw[hmm];rfl
  subst hm'
  clear hmm
  have key: ∀i,i<len-> ∃g:α,∀k u,(f g)[k]?=some u->W.cell? (ad.add (i*sz+k))=some u:=by
   intro i hil
   obtain⟨cs',hc,ht⟩:=hi i (by omega)
   rw[hce] at hc
   obtain⟨y,rfl⟩:=hel _ _ _ ht
   obtain⟨_,hcl,hat⟩:=World.cells?_some hc
   refine⟨y,fun k u hk=>?_⟩
   have hks:k<(f y).length :=(List.getElem?_eq_some_iff.1 hk).1
   have a0:=hat k (by rw[hf] at hks;exact hks)
   rw[Go.Deep.add_add] at a0
   rw[<-hk,<-a0]
  obtain⟨l,hll,hp⟩:=list_ofB len key
  refine⟨_,l,h0,some ad,m,by rw[hll],by omega,hm,(fun q=>by cases q),fun x hx hne=>?_⟩
  cases hx
  obtain⟨b,o,spot⟩:=ad
  have hpos:0<l.length:=List.length_pos_iff.2 hne
  have h0l:0<(f l[0]).length :=by rw[hf];exact hsz
  have hc:=hp 0 hpos 0 _ (List.getElem?_eq_getElem h0l)
  have hspot:spot=none:=by simpa [Addr.add] using World.cell?_spot hc
  subst hspot
  refine⟨rfl,fun i hil k u hu=>?_⟩
  have hadd: ∀j,(⟨b,o,none⟩:Addr).add j=⟨b,o+j,none⟩:=fun j=>by unfold Addr.add;split<;>simp_all
  have:=hp i hil k u hu
  rw[hadd] at this
  exact this
theorem RdX.mapN {α β:Type} {sz:Nat} {f:β->List Value} (g:α->β) {w:World} {v:Value} {l:List α} (h:RdX sz (fun x=>f (g x)) w v l):RdX sz f w v (l.map g):=by
 obtain⟨a,cap,hv,h1,h2,h3,h4⟩:=h.ex
 refine⟨a,cap,by rw[List.length_map];exact hv,by rw[List.length_map];exact h1,h2,fun q=>by obtain⟨q1,q2⟩:=h3 q;subst q1;exact⟨rfl,q2⟩,fun x hx hp=>?_⟩
 obtain⟨hs,hc⟩:=h4 x hx (fun q=>hp (by rw[q];rfl))
 refine⟨hs,fun i hi k u hu=>?_⟩
 rw[List.length_map] at hi
 rw[List.getElem_map] at hu
 exact hc i hi k u hu
theorem list8P {α:Type} {cs:List α} (h:cs.length=8): ∃c0 c1 c2 c3 c4 c5 c6 c7,cs= [c0,c1,c2,c3,c4,c5,c6,c7]:=by
 match cs,h with
 | [c0,c1,c2,c3,c4,c5,c6,c7],_=>exact⟨c0,c1,c2,c3,c4,c5,c6,c7,rfl⟩
theorem vote_cells {fuel:Nat} {cs:List Value} {x:DataW H × List MemPlace} (h:DataW.trod enc Try.prog W 0 (fun _=>true) true fuel 49 cs=some x): ∃a: {a:VoteC // RdR W a.u a.bat.reqs},cs=cellsV a.1:=by
 have hce:Try.prog.cellsOf 49=8:=by kernel_rfl
 have hcb:Try.prog.cellsOf 47=6:=by kernel_rfl
 obtain⟨xs,n',_,hx,hlen,hxl,hfi⟩:=DataW.trod_struct Try.underlying49 h
 match xs,hxl with
 | [y0,y1,y2],_=>
  have t0:=hfi 0 _ rfl
  have t1:=hfi 1 _ rfl
  have t2:=hfi 2 _ rfl
  simp only[List.getElem?_cons_zero,List.getElem?_cons_succ] at t0 t1 t2
  rw[hce] at hlen
  obtain⟨c0,c1,c2,c3,c4,c5,c6,c7,rfl⟩:=list8P hlen
  obtain⟨d,e0,_⟩:=DataW.trod_int Try.underlying3 t0
  obtain⟨m,e1,_⟩:=DataW.trod_int Try.underlying3 t1
  obtain⟨b,v,e2,hr⟩:=bat_cells t2
  change List.take (Try.prog.cellsOf 47) (List.drop 2 [c0,c1,c2,c3,c4,c5,c6,c7])= _ at e2
  rw[hcb] at e2
  have e2': [c2,c3,c4,c5,c6,c7]= [.bool b.fill,.int .i64 b.view,.int .i64 b.tv,.int .i64 b.ts,.int .i64 b.time,v]:=e2
  have e0':c0= .int .i64 d:=by injection e0
  have e1':c1= .int .i64 m:=by injection e1
  obtain⟨va,vc,rfl⟩:=hr.form
  injection e2' with f2 e2'
  injection e2' with f3 e2'
  injection e2' with f4 e2'
  injection e2' with f5 e2'
  injection e2' with f6 e2'
  injection e2' with f7 e2'
  exact⟨⟨⟨d,m,b,va,vc⟩,hr⟩,by rw[e0',e1',f2,f3,f4,f5,f6,f7];rfl⟩
theorem prom_cells {fuel:Nat} {cs:List Value} {x:DataW H × List MemPlace} (h:DataW.trod enc Try.prog W 0 (fun _=>true) true fuel 29 cs=some x): ∃a: {a:PromC // RdV W a.u a.votes},cs=cellsP a.1:=by
 have hce:Try.prog.cellsOf 29=6:=by kernel_rfl
 have hct:Try.prog.cellsOf 26=2:=by kernel_rfl
 have hcv:Try.prog.cellsOf 27=1:=by kernel_rfl
 obtain⟨y0,y1,y2,y3,y4,n',hlen,t0,t1,t2,t3,t4⟩:=trod_struct5B Try.underlying29 h
 rw[hce] at hlen
 obtain⟨c0,c1,c2,c3,c4,c5,rfl⟩:=list6B hlen
 obtain⟨d,e0,_⟩:=DataW.trod_int Try.underlying3 t0
 obtain⟨m,e1,_⟩:=DataW.trod_int Try.underlying3 t1
 obtain⟨p,hp⟩:=tip_cells t2
 rw[hct] at hp
 obtain⟨q,e3,_⟩:=DataW.trod_int Try.underlying3 t3
 obtain⟨v,l,e4,hl⟩:=slice_ofN (f:=fun a: {a:VoteC // RdR W a.u a.bat.reqs} =>cellsV a.1) Try.underlying27 (show Try.prog.cellsOf 49=8 by kernel_rfl) (by omega) (fun a=>cellsV_length a.1) (fun _ _ _ h=>vote_cells h) t4
 rw[hcv] at e4
 have e0':c0= .int .i64 d:=by injection e0
 have e1':c1= .int .i64 m:=by injection e1
 have e2': [c2,c3]= [.int .i64 p.1,.int .i64 p.2]:=hp
 have e3':c4= .int .i64 q:=by injection e3
 have e4':c5=v:=by injection e4
 have e5:c2= .int .i64 p.1:=by injection e2'
 have e6:c3= .int .i64 p.2:=by injection e2' with _ h;injection h
 have hrv:RdV W v (l.map Subtype.val):=⟨RdX.mapN (f:=cellsV) Subtype.val hl,fun y hy=>by
  obtain⟨z,_,rfl⟩:=List.mem_map.1 hy
  exact z.2⟩
 obtain⟨va,vc,rfl⟩:=hrv.form
 exact⟨⟨⟨d,m,p.1,p.2,q,l.map Subtype.val,va,vc⟩,hrv⟩,by rw[e0',e1',e5,e6,e3',e4'];rfl⟩
def PromsC:Type:=List PromC × Value
def promsVal (a:PromsC):Value:=a.2
def promsOk (w:World) (a:PromsC):Prop:=RdP w a.2 a.1
theorem open_proms {r:Reach} {b0:Nat} {v:Value} {d:DataW H} {p:List MemPlace} (hv:Value.okWide Try.prog W r b0 22 v) (h:DataW.Trod enc Try.prog W 0 (fun _=>true) true 22 v d p): ∃a:PromsC,v=promsVal a/\promsOk W a:=by
 obtain⟨a,len,cap,rfl⟩:=okWide_slice Try.underlying22 hv
 obtain⟨m,hm⟩:=h
 obtain⟨u,l,hu,hl⟩:=slice_ofN (f:=fun a: {a:PromC // RdV W a.u a.votes} =>cellsP a.1) Try.underlying22 (show Try.prog.cellsOf 29=6 by kernel_rfl) (by omega) (fun a=>cellsP_length a.1) (fun _ _ _ h=>prom_cells h) hm
 have:Value.slice a len cap=u:=by simpa [Value.cells] using hu
 subst this
 refine⟨(l.map Subtype.val,_),rfl,RdX.mapN (f:=cellsP) Subtype.val hl,fun x hx=>?_⟩
 obtain⟨y,_,rfl⟩:=List.mem_map.1 hx
 exact y.2
end
end Pl
end Go.Proofs.Ytheenjkmglmihaa
