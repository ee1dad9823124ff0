/- Texts laid together by program. -/
import Derived.Test.YtmodbbmdkealdaaV10
import Derived.Lib.QuietBelow
import Derived.ProofKit
import Derived.OpenShut
import Derived.Deep.Strs
import Derived.Deep.Slices
import Derived.Lib.SmallJoins
import Derived.SizedLaws
/- Contract of layer 14's awake. -/
set_option linter.unusedVariables false
set_option maxRecDepth 8000
set_option linter.unusedSimpArgs false
namespace Go.Proofs.Ytmodbbmdkealdaa
open Lib (hid)
open Go.RowKit
namespace Ac
open Cm

theorem prom3:promF newA 3=(⟨3,0,[]⟩,0):=by rfl
theorem acc2:accF ⟨3,0,[]⟩ 2 1 fillB=(⟨3,0,[]⟩,11):=by rfl
theorem acc3:accF ⟨3,0,[]⟩ 3 1 fillB=(⟨3,0,[⟨1,3,fillB⟩]⟩,0):=by rfl
theorem step_gr {B:Nat} {a w w':World} {g:Nat} (h:Below B a w) (hg:w.grownBy w' (some g)) (hB:B<=g) (hs:B<=w.heap.size):Below B a w':=
 h.grown hg hs (fun k hk=>by cases hk;exact hB)
set_option maxHeartbeats 4000000 in
theorem awake14_ok (w:World):Calls Try.prog 9 #[] w (SaysB true w):=by
 have CN:=hid (New_any w)
 have CP:=hid (fun(w':World) h=>Promise_any w.heap.size (w.heap.size+1) newA 3 w' h)
 have CA:=hid (fun(w':World) h=>Accept_any w.heap.size (w.heap.size+1) ⟨3,0,[]⟩ 2 1 fillB (.slice none 0 0) w' h (by have:=newA_good.prom 3;rw[prom3] at this;exact this) (RdX.nil _) (by intro q;cases q))
 have CB:=hid (fun(w':World) h=>Accept_any w.heap.size (w.heap.size+1) ⟨3,0,[]⟩ 3 1 fillB (.slice none 0 0) w' h (by have:=newA_good.prom 3;rw[prom3] at this;exact this) (RdX.nil _) (by intro q;cases q))
 have hg3:Good ⟨3,0,[⟨1,3,fillB⟩]⟩:=by
  have h1:=newA_good.prom 3
  rw[prom3] at h1
  have h2:=h1.acc 3 1 fillB
  rw[acc3] at h2
  exact h2
 have CV:=hid (fun(w':World) h=>Votes_any w.heap.size (w.heap.size+1) ⟨3,0,[⟨1,3,fillB⟩]⟩ w' h hg3)
 have CL:=hid (fun(w':World) h=>Ballot_any w.heap.size (w.heap.size+1) ⟨3,0,[⟨1,3,fillB⟩]⟩ w' h)
 rw[prom3] at CP
 rw[acc2] at CA
 rw[acc3] at CB
 unfold batVal fillB at CA CB
 dsimp only at CA CB
 clear hg3
 go_enter Try.func9,Try.ntmps9
 obtain⟨g,hgw⟩: ∃g,w.heap.size=g:=⟨_,rfl⟩
 rw[hgw] at CN CP CA CB CV CL
 have HGW:=hid hgw
 clear hgw
 go_upto_region 6 with (first
  | (go_at_call 10;refine CN.out.mono ?_;rintro e w1 ⟨rfl,hw⟩;have HA1:Hid (HasA w1 g (g+1) newA):=hid (HasA.new (by rw[hw];exact alloc_atB _ _ _ HGW.out) (by omega) (by rw[hw];simp [HGW.out]));have HB1:Hid (Below w.heap.size w w1):=hid (by rw[hw];exact newAlloc _ _);clear hw)
  | (go_at_call 12;refine(CP.out _ HA1.out).mono ?_;rintro e w2 ⟨rfl,ha,hg⟩;have HA2:=hid ha;have HB2:=hid (step_gr HB1.out hg (by rw[HGW.out];exact Nat.le_refl _) HB1.out.size);clear ha hg;dsimp only)
  | (go_at_call 14;refine(CA.out _ HA2.out).mono ?_;rintro e w3 ⟨rfl,ha,hg⟩;have HA3:=hid ha;have HB3:=hid (step_gr HB2.out hg (by rw[HGW.out];exact Nat.le_refl _) HB2.out.size);clear ha hg;dsimp only))
 go_wp2_with (first
  | (go_at_call 14;refine(CB.out _ HA3.out).mono ?_;rintro e w4 ⟨rfl,ha,hg⟩;have HA4:=hid ha;have HB4:=hid (step_gr HB3.out hg (by rw[HGW.out];exact Nat.le_refl _) HB3.out.size);clear ha hg;dsimp only)
  | (go_at_call 21;refine(CV.out _ HA4.out).mono ?_;rintro e w5 ⟨v,L,rfl,hL,ho,hb⟩;have HA5:=hid (HA4.out.later hb);have HB5:=hid (step HB4.out hb);have hlen:L.length=1:=(by rw[<-valsV_length,hL];rfl);obtain⟨va,vc,hv⟩:=ho.rd.form;rw[hlen] at hv;subst hv;clear ho hb hL)
  | (go_at_call 18;refine(CL.out _ HA5.out).mono ?_;rintro e w6 ⟨rfl,rfl⟩;dsimp only))
 go_ret
 exact⟨rfl,HB5.out⟩
end Ac
end Go.Proofs.Ytmodbbmdkealdaa

/- Contract: the document's SameVotes. -/
set_option linter.unusedVariables false
set_option maxRecDepth 8000
set_option linter.unusedSimpArgs false
namespace Go.Proofs.Ytmodbbmdkealdaa
open Lib (hid)
open Go.RowKit
namespace Ac
open Cm

set_option maxHeartbeats 4000000 in
theorem SameVotes_any (u v:Value) (l m:List VoteC) (w:World) (h:RdV w u l) (h2:RdV w v m):
  Calls Try.prog 20 #[u,v] w (SaysB (sameVs (valsV l) (valsV m)) w):=by
 have hm:=h.len
 have hm2:=h2.len
 obtain⟨a,cap,rfl⟩:=h.form
 obtain⟨a2,cap2,rfl⟩:=h2.form
 by_cases hn:l.length=m.length
 ·have HA:=hid (fun i hi=>rdv_at h.row i hi)
  have HA2:=hid (fun i hi=>rdv_at h2.row i hi)
  have HR:=hid (fun i (hi:i<l.length)=>h.reqs l[i] (List.getElem_mem hi))
  have HR2:=hid (fun i (hi:i<m.length)=>h2.reqs m[i] (List.getElem_mem hi))
  have HD:Hid (∀i (ha:i<l.length) (hb:i<m.length),sameVs ((valsV l).drop i) ((valsV m).drop i)=(eqVt l[i].val m[i].val && sameVs ((valsV l).drop (i+1)) ((valsV m).drop (i+1)))):=hid fun i ha hb=>by
   rw[sameVs_step _ _ i (by rw[valsV_length];exact ha) (by rw[valsV_length];exact hb),valsV_get l i ha,valsV_get m i hb]
  have HE:Hid (∀i,l.length<=i->m.length<=i->sameVs ((valsV l).drop i) ((valsV m).drop i)=true):=hid fun i ha hb=>sameVs_end _ _ i (by rw[valsV_length];exact ha) (by rw[valsV_length];exact hb)
  clear h h2
  obtain⟨L,hL⟩: ∃L,l.length=L:=⟨_,rfl⟩
  have hL2:m.length=L:=by omega
  have HL:=hid hL
  have HL2:=hid hL2
  rw[hL] at hm ⊢
  rw[hL2] at hm2 ⊢
  clear hL hL2 hn
  go_enter Try.func20,Try.ntmps20
  go_wp2
  go_loopw [5] (fun i wr=> ∃j:Nat,j<=L/\i= .int .i64 j/\Hid (Below w.heap.size w wr)/\Hid (sameVs (valsV l) (valsV m)=sameVs ((valsV l).drop j) ((valsV m).drop j))) (fun i _=>L - (intOf i).toNat)
  case atStart=>exact⟨0,by omega,rfl,hid (Below.refl _ _),hid rfl⟩
  case round=>
   obtain⟨j,hj,rfl,HB,ha⟩:=hrel
   by_cases hlt:j<L
   ·have h1:j<l.length:=by rw[HL.out];exact hlt
    have h2:j<m.length:=by rw[HL2.out];exact hlt
    obtain⟨b,o,rfl,hc⟩:=HA.out j h1
    obtain⟨b',o',rfl,hc2⟩:=HA2.out j h2
    obtain⟨q0,q1,q2,q3,q4,q5,q6,q7⟩:=hc _ HB.out
    obtain⟨p0,p1,p2,p3,p4,p5,p6,p7⟩:=hc2 _ HB.out
    have HRX:=hid ((HR.out j h1).later HB.out)
    have HRY:=hid ((HR2.out j h2).later HB.out)
    have hd:=HD.out j h1 h2
    clear HA HA2 HD HR HR2 hc hc2
    generalize l[j]=x at q0 q1 q2 q3 q4 q5 q6 q7 hd HRX
    generalize m[j]=y at p0 p1 p2 p3 p4 p5 p6 p7 hd HRY
    obtain⟨x1,x2,⟨x3,x4,x5,x6,x7,x8⟩,xa,xc⟩:=x
    obtain⟨y1,y2,⟨y3,y4,y5,y6,y7,y8⟩,ya,yc⟩:=y
    unfold VoteC.u at q7 p7 HRX HRY
    dsimp only at q0 q1 q2 q3 q4 q5 q6 q7 p0 p1 p2 p3 p4 p5 p6 p7 HRX HRY
    clear h1 h2
    rw[show eqVt (VoteC.val ⟨x1,x2,⟨x3,x4,x5,x6,x7,x8⟩,xa,xc⟩) (VoteC.val ⟨y1,y2,⟨y3,y4,y5,y6,y7,y8⟩,ya,yc⟩)=(decide (x1=y1) && decide (x2=y2) && sameB ⟨x3,x4,x5,x6,x7,x8⟩ ⟨y3,y4,y5,y6,y7,y8⟩) from rfl] at hd
    by_cases e:x1=y1
    case neg=>
     have d0:(x1 != y1)=true:=by simpa using e
     have H:Hid (sameVs ((valsV l).drop j) ((valsV m).drop j)=false):=hid (by rw[hd];simp [e])
     clear hd e
     go_upto_region 6 with fail
     go_quiet (fail)
     go_wp2
     go_ret
     exact⟨by rw[ha.out,H.out];rfl,below_drewB HB.out nq⟩
    have d0:(x1 != y1)=false:=by simp [e]
    rw[decide_eq_true e] at hd
    clear e
    by_cases e:x2=y2
    case neg=>
     have d1:(x2 != y2)=true:=by simpa using e
     have H:Hid (sameVs ((valsV l).drop j) ((valsV m).drop j)=false):=hid (by rw[hd];simp [e])
     clear hd e
     go_upto_region 6 with fail
     go_quiet (fail)
     go_wp2
     go_ret
     exact⟨by rw[ha.out,H.out];rfl,below_drewB HB.out nq⟩
    have d1:(x2 != y2)=false:=by simp [e]
    rw[decide_eq_true e] at hd
    clear e
    have hd:sameVs ((valsV l).drop j) ((valsV m).drop j)=(sameB ⟨x3,x4,x5,x6,x7,x8⟩ ⟨y3,y4,y5,y6,y7,y8⟩ && sameVs ((valsV l).drop (j+1)) ((valsV m).drop (j+1))):=hd
    have CS:=hid (fun W h1 h2=>RefSameB_any ⟨x3,x4,x5,x6,x7,x8⟩ ⟨y3,y4,y5,y6,y7,y8⟩ (.slice xa x8.length xc) (.slice ya y8.length yc) W h1 h2)
    unfold batVal at CS
    dsimp only at CS
    generalize sameB ⟨x3,x4,x5,x6,x7,x8⟩ ⟨y3,y4,y5,y6,y7,y8⟩=SB at hd CS
    have HQ:=hid hd
    clear hd
    have D1:=hid (fun d os=>Calls.regrown_of (w:=wr) (d:=d) (os:=os) (CS.out _ (HRX.out.later (below_regrown wr d os)) (HRY.out.later (below_regrown wr d os))))
    have c0:=cell_regrown q0
    have c1:=cell_regrown q1
    have c2:=cell_regrown q2
    have c3:=cell_regrown q3
    have c4:=cell_regrown q4
    have c5:=cell_regrown q5
    have c6:=cell_regrown q6
    have c7:=cell_regrown q7
    have e0:=cell_regrown p0
    have e1:=cell_regrown p1
    have e2:=cell_regrown p2
    have e3:=cell_regrown p3
    have e4:=cell_regrown p4
    have e5:=cell_regrown p5
    have e6:=cell_regrown p6
    have e7:=cell_regrown p7
    clear q0 q1 q2 q3 q4 q5 q6 q7 p0 p1 p2 p3 p4 p5 p6 p7 CS HRX HRY
    go_upto_region 6 with fail
    refine wp_region_quiet_below (by kernel_rfl) (by kernel_rfl) ?_
    repeat (go_big_quiet_step (exact D1.out _ _))
    refine wpQuiet_nil ?_
    intro _ hw'
    obtain⟨⟨dq,osq⟩,hw2⟩:=hw'
    subst hw2
    have HBN:=hid (step HB.out (below_regrown wr dq osq))
    clear D1 c0 c1 c2 c3 c4 c5 c6 c7 e0 e1 e2 e3 e4 e5 e6 e7
    cases SB
    ·go_wp2
     go_ret
     exact⟨by rw[ha.out,HQ.out];rfl,HBN.out⟩
    ·go_wp2
     go_roundw
     case rel=>exact⟨j+1,by omega,by go_num,HBN,hid (by rw[ha.out,HQ.out];rfl)⟩
     case measure=>simp [intOf];omega
   ·obtain rfl:j=L:=by omega
    have H:=HE.out j (by rw[HL.out];exact Nat.le_refl _) (by rw[HL2.out];exact Nat.le_refl _)
    have HF:=hid H
    clear H HA HA2 HD HR HR2 HE
    go_wp2
    go_ret
    exact⟨by rw[ha.out,HF.out];rfl,HB.out⟩
 ·have H:=hid (sameVs_len (valsV l) (valsV m) (by rw[valsV_length,valsV_length];exact hn))
  have d0:((l.length:Int) != (m.length:Int))=true:=by simp;omega
  clear h h2
  go_enter Try.func20,Try.ntmps20
  go_wp2
  go_ret
  exact⟨by rw[H.out];rfl,Below.refl _ _⟩
end Ac
end Go.Proofs.Ytmodbbmdkealdaa

/- What the statements of layer 14 ask besides: what votes leave as it was, what a trim leaves. -/
set_option linter.unusedVariables false
set_option maxRecDepth 8000
set_option linter.unusedSimpArgs false
namespace Go.Proofs.Ytmodbbmdkealdaa
open Lib (hid)
open Go.RowKit
namespace Ac
open Cm

theorem OwnV.keep {base g:Nat} {w w':World} {v:Value} {L:List VoteC} (h:OwnV base w v L) (hg:w.grownBy w' (some g)) (hb:g<base):OwnV base w' v L:=
 ⟨Rw.own_keep h.row fun k hk=>hg.block k (Rw.own_lt h.row k hk).2 (fun q=>by cases q;have:=(Rw.own_lt h.row _ hk).1;omega),fun x hx=>(h.reqs x hx).keep hg hb⟩
theorem rise_len (hi:Int): ∀(l:List VoteV) (lo:Int),lo<=hi->(∀x∈l,lo<x.slot/\x.slot<=hi)->l.Pairwise (fun x y=>x.slot<y.slot)->(l.length:Int)<=hi - lo
 | [],lo,h,_,_=>by simp;omega
 | x::l,lo,h,h1,h2=>by
  obtain⟨p1,p2⟩:=List.pairwise_cons.1 h2
  have hx:=h1 x List.mem_cons_self
  have ih:=rise_len hi l x.slot hx.2 (fun y hy=>⟨p1 y hy,(h1 y (List.mem_cons_of_mem _ hy)).2⟩) p2
  rw[List.length_cons]
  omega
theorem good_len {s:AccV} (h:Good s):s.votes.length<=9:=by
 have:=rise_len (s.done+9) s.votes s.done (by omega) (fun x hx=>⟨h.list.low x hx,h.list.most x hx⟩) h.list.rise
 omega
theorem vals_filter (L:List VoteC) (d:Int):valsV (L.filter fun x=>decide (d<x.slot))=(valsV L).filter fun v=>decide (d<v.slot):=by
 unfold valsV
 rw[List.filter_map]
 rfl
theorem filter_take (L:List VoteC) (d:Int) (k:Nat) (hk:k<L.length):(L.take (k+1)).filter (fun x=>decide (d<x.slot))=(L.take k).filter (fun x=>decide (d<x.slot))++(if d<L[k].slot then [L[k]] else []):=by
 rw[List.take_succ_eq_append_getElem hk,List.filter_append]
 congr 1
 by_cases q:d<L[k].slot
 ·rw[if_pos q]
  simp [q]
 ·rw[if_neg q]
  simp [q]
end Ac
end Go.Proofs.Ytmodbbmdkealdaa

/- Arguments that are batches, tips, opened. -/
set_option linter.unusedVariables false
set_option maxRecDepth 8000
set_option linter.unusedSimpArgs false
namespace Go.Proofs.Ytmodbbmdkealdaa
open Lib (hid)
open Go.RowKit Go.ChangeShapes Go.WideShapes Go.Deep
namespace Cm

theorem list_ofB {α:Type} {P:Nat->α->Prop} : ∀n,(∀i,i<n-> ∃g,P i g)-> ∃l:List α,l.length=n/\ ∀i (h:i<l.length),P i l[i]
 | 0,_=>⟨[],rfl,fun i h=>absurd h (Nat.not_lt_zero _)⟩
 | n+1,h=>by
  obtain⟨l,hl,hp⟩:=list_ofB n (fun i hi=>h i (by omega))
  obtain⟨g,hg⟩:=h n (by omega)
  refine⟨l++ [g],by simp [hl],fun i hi=>?_⟩
  rw[List.length_append,List.length_singleton,hl] at hi
  by_cases q:i<n
  ·rw[List.getElem_append_left (by omega)]
   exact hp i (by omega)
  ·obtain rfl:i=n:=by omega
   rw[List.getElem_append_right (by omega)]
   simpa [hl] using hg
section
variable {H : Type} {enc : TypeId × Value → H} {W : World} {base : Nat} {sp : Nat → Bool} {held : Bool}
theorem trod_struct5B {P:Program} {t:TypeId} {f0 f1 f2 f3 f4:Field} {fuel:Nat} {cs:List Value} {x:DataW H × List MemPlace} (ht:P.underlying t=some (.struct #[f0,f1,f2,f3,f4])) (h:DataW.trod enc P W base sp held fuel t cs=some x):
  ∃y0 y1 y2 y3 y4 n,cs.length=P.cellsOf t/\DataW.trod enc P W base sp held n f0.type ((cs.drop f0.offset).take (P.cellsOf f0.type))=some y0/\
   DataW.trod enc P W base sp held n f1.type ((cs.drop f1.offset).take (P.cellsOf f1.type))=some y1/\DataW.trod enc P W base sp held n f2.type ((cs.drop f2.offset).take (P.cellsOf f2.type))=some y2/\
   DataW.trod enc P W base sp held n f3.type ((cs.drop f3.offset).take (P.cellsOf f3.type))=some y3/\DataW.trod enc P W base sp held n f4.type ((cs.drop f4.offset).take (P.cellsOf f4.type))=some y4:=by
 obtain⟨xs,n,_,rfl,hl,hlen,hf⟩:=DataW.trod_struct ht h
 match xs,hlen with
 | [y0,y1,y2,y3,y4],_=>exact⟨y0,y1,y2,y3,y4,n,hl,by simpa using hf 0 f0 rfl,by simpa using hf 1 f1 rfl,by simpa using hf 2 f2 rfl,by simpa using hf 3 f3 rfl,by simpa using hf 4 f4 rfl⟩
theorem tip_cells {fuel:Nat} {cs:List Value} {x:DataW H × List MemPlace} (h:DataW.trod enc Try.prog W base sp held fuel 24 cs=some x):
  ∃p:Int × Int,cs= [.int .i64 p.1,.int .i64 p.2]:=by
 have hce:Try.prog.cellsOf 24=2:=by kernel_rfl
 obtain⟨y0,y1,n',_,hlen,t0,t1⟩:=trod_struct2 Try.underlying24 h
 rw[hce] at hlen
 match cs,hlen with
 | [c0,c1],_=>
  obtain⟨d,e0,_⟩:=DataW.trod_int Try.underlying3 t0
  obtain⟨m,e1,_⟩:=DataW.trod_int Try.underlying3 t1
  have e0':c0= .int .i64 d:=by injection e0
  have e1':c1= .int .i64 m:=by injection e1
  exact⟨(d,m),by rw[e0',e1']⟩
end

section
variable {H : Type} {enc : TypeId × Value → H} {W : World}
theorem req_cellsB {fuel:Nat} {cs:List Value} {x:DataW H × List MemPlace} (h:DataW.trod enc Try.prog W 0 (fun _=>true) true fuel 53 cs=some x): ∃r:ReqV,cs=cellsR r:=req_cells h
theorem reqs_of {fuel:Nat} {cs:List Value} {x:DataW H × List MemPlace} (h:DataW.trod enc Try.prog W 0 (fun _=>true) true fuel 25 cs=some x): ∃v l,cs= [v]/\RdR W v l:=by
 rcases open_slice Try.underlying25 h with ⟨h0,_⟩ | ⟨ad,len,cap,m,n,D,Pl,h0,_,hl,hm,hmm,_,hi⟩
 ·exact⟨_,[],h0,RdX.nil W⟩
 ·have hce:Try.prog.cellsOf 53=5:=by kernel_rfl
  have hm':m=cap:=by rw[hmm];rfl
  subst hm'
  clear hmm
  have key: ∀i,i<len-> ∃g:ReqV,∀k u,(cellsR g)[k]?=some u->W.cell? (ad.add (i*5+k))=some u:=by
   intro i hil
   obtain⟨cs',hc,ht⟩:=hi i (by omega)
   rw[hce] at hc
   obtain⟨y,rfl⟩:=req_cellsB ht
   obtain⟨_,hcl,hat⟩:=World.cells?_some hc
   refine⟨y,fun k u hk=>?_⟩
   have hks:k<(cellsR y).length :=(List.getElem?_eq_some_iff.1 hk).1
   have a0:=hat k (by rw[cellsR_length] at hks;exact hks)
   rw[Go.Deep.add_add] at a0
   rw[<-hk,<-a0]
  obtain⟨l,hll,hp⟩:=list_ofB len key
  refine⟨_,l,h0,some ad,m,by rw[hll],by omega,hm,(fun q=>by cases q),fun x hx hne=>?_⟩
  cases hx
  obtain⟨b,o,spot⟩:=ad
  have hpos:0<l.length:=List.length_pos_iff.2 hne
  have h0l:0<(cellsR l[0]).length :=by rw[cellsR_length];omega
  have hc:=hp 0 hpos 0 _ (List.getElem?_eq_getElem h0l)
  have hspot:spot=none:=by simpa [Addr.add] using World.cell?_spot hc
  subst hspot
  refine⟨rfl,fun i hil k u hu=>?_⟩
  have hadd: ∀j,(⟨b,o,none⟩:Addr).add j=⟨b,o+j,none⟩:=fun j=>by unfold Addr.add;split<;>simp_all
  have:=hp i hil k u hu
  rw[hadd] at this
  exact this
theorem list6B {α:Type} {cs:List α} (h:cs.length=6): ∃c0 c1 c2 c3 c4 c5,cs= [c0,c1,c2,c3,c4,c5]:=by
 match cs,h with
 | [c0,c1,c2,c3,c4,c5],_=>exact⟨c0,c1,c2,c3,c4,c5,rfl⟩
theorem bat_cells {fuel:Nat} {cs:List Value} {x:DataW H × List MemPlace} (h:DataW.trod enc Try.prog W 0 (fun _=>true) true fuel 27 cs=some x):
  ∃(b:BatV) (v:Value),cs= [.bool b.fill,.int .i64 b.view,.int .i64 b.tv,.int .i64 b.ts,.int .i64 b.time,v]/\RdR W v b.reqs:=by
 have hce:Try.prog.cellsOf 27=6:=by kernel_rfl
 have hct:Try.prog.cellsOf 24=2:=by kernel_rfl
 have hcr:Try.prog.cellsOf 25=1:=by kernel_rfl
 obtain⟨y0,y1,y2,y3,y4,n',hlen,t0,t1,t2,t3,t4⟩:=trod_struct5B Try.underlying27 h
 rw[hce] at hlen
 obtain⟨c0,c1,c2,c3,c4,c5,rfl⟩:=list6B hlen
 obtain⟨d,e0,_⟩:=DataW.trod_bool Try.underlying4 t0
 obtain⟨m,e1,_⟩:=DataW.trod_int Try.underlying3 t1
 obtain⟨p,hp⟩:=tip_cells t2
 rw[hct] at hp
 obtain⟨q,e3,_⟩:=DataW.trod_int Try.underlying3 t3
 obtain⟨v,l,e4,hl⟩:=reqs_of t4
 rw[hcr] at e4
 have e0':c0= .bool d:=by injection e0
 have e1':c1= .int .i64 m:=by injection e1
 have e2': [c2,c3]= [.int .i64 p.1,.int .i64 p.2]:=hp
 have e3':c4= .int .i64 q:=by injection e3
 have e4':c5=v:=by injection e4
 have e5:c2= .int .i64 p.1:=by injection e2'
 have e6:c3= .int .i64 p.2:=by injection e2' with _ h;injection h
 exact⟨⟨d,m,p.1,p.2,q,l⟩,v,by rw[e0',e1',e5,e6,e3',e4'],hl⟩
def batA (a:BatV × Value):Value:=batVal a.1 a.2
def batOkA (w:World) (a:BatV × Value):Prop:=RdR w a.2 a.1.reqs
theorem open_bat {r:Reach} {b0:Nat} {v:Value} {d:DataW H} {p:List MemPlace} (hv:Value.okWide Try.prog W r b0 27 v) (h:DataW.Trod enc Try.prog W 0 (fun _=>true) true 27 v d p): ∃a:BatV × Value,v=batA a/\batOkA W a:=by
 obtain⟨cs,rfl,hs⟩:=okWide_struct Try.underlying27 hv
 obtain⟨m,hm⟩:=h
 obtain⟨c,u,hc,hu⟩:=bat_cells hm
 exact⟨(c,u),by unfold batA batVal;congr 1;apply Array.ext';simpa [Value.cells] using hc,hu⟩
end
end Cm
end Go.Proofs.Ytmodbbmdkealdaa

/- Arguments that are slices of layer 14's acts, opened; their bytes within the form's reach. -/
set_option linter.unusedVariables false
set_option maxRecDepth 8000
set_option linter.unusedSimpArgs false
namespace Go.Proofs.Ytmodbbmdkealdaa
open Lib (hid)
open Go.RowKit Go.ChangeShapes Go.WideShapes Go.Deep
namespace Ac
open Cm

structure ActC where
 do_:Int
 ballot:Int
 slot:Int
 ns:List UInt8
 na:Option Addr
 nc:Nat
def ActC.u (a:ActC):Value:=.slice a.na a.ns.length a.nc
def cellsQ (a:ActC):List Value:= [.int .i64 a.do_,.int .i64 a.ballot,.int .i64 a.slot,a.u]
theorem cellsQ_length (a:ActC):(cellsQ a).length =4:=rfl
def ActOk (W:World) (a:ActC):Prop:=Rd W a.u a.ns/\a.ns.length<=140737488355328
section
variable {H : Type} {enc : TypeId × Value → H} {W : World}

theorem weightsAll_mem {P:Program} {e:TypeId} {d:DataW H} {n:Nat} (hn:n∈d.weights P e): ∀l:List (DataW H),d∈l->n∈DataW.weightsAll P e l
 | [],h=>by cases h
 | x::l,h=>by
  rw[DataW.weightsAll,List.mem_append]
  rcases List.mem_cons.1 h with rfl | h
  ·exact .inl hn
  ·exact .inr (weightsAll_mem hn l h)
theorem slice_ofW {α:Type} {sz:Nat} {f:α->List Value} {t e:TypeId} (hu:Try.prog.underlying t=some (.slice e)) (hce:Try.prog.cellsOf e=sz) (hsz:0<sz) (hf: ∀x,(f x).length =sz)
  (hel: ∀fuel cs x,DataW.trod enc Try.prog W 0 (fun _=>true) true fuel e cs=some x->(∀n∈x.1.weights Try.prog e,n<=reachBytes)-> ∃y:α,cs=f y)
  {fuel:Nat} {cs:List Value} {x:DataW H × List MemPlace} (h:DataW.trod enc Try.prog W 0 (fun _=>true) true fuel t cs=some x) (hw: ∀n∈x.1.weights Try.prog t,n<=reachBytes): ∃v l,cs= [v]/\RdX sz f W v l:=by
 rcases open_slice hu h with ⟨h0,_⟩ | ⟨ad,len,cap,m,n,D,Pl,h0,_,hl,hm,hmm,hx,hi⟩
 ·exact⟨_,[],h0,RdX.nil W⟩
 ·have hm':m=cap:=by rw[hmm];rfl
  subst hm'
  clear hmm
  have hwi: ∀i,i<len-> ∀n∈(D i).weights Try.prog e,n<=reachBytes:=fun i hil n hn=>by
   refine hw n ?_
   rw[hx]
   simp only[DataW.weights,hu,List.mem_cons,List.mem_append]
   exact .inr (.inl (weightsAll_mem hn _ (List.mem_map.2 ⟨i,List.mem_range.2 hil,rfl⟩)))
  have key: ∀i,i<len-> ∃g:α,∀k u,(f g)[k]?=some u->W.cell? (ad.add (i*sz+k))=some u:=by
   intro i hil
   obtain⟨cs',hc,ht⟩:=hi i (by omega)
   rw[hce] at hc
   obtain⟨y,rfl⟩:=hel _ _ _ ht (hwi i hil)
   obtain⟨_,hcl,hat⟩:=World.cells?_some hc
   refine⟨y,fun k u hk=>?_⟩
   have hks:k<(f y).length :=(List.getElem?_eq_some_iff.1 hk).1
   have a0:=hat k (by rw[hf] at hks;exact hks)
   rw[Go.Deep.add_add] at a0
   rw[<-hk,<-a0]
  obtain⟨l,hll,hp⟩:=list_ofB len key
  refine⟨_,l,h0,some ad,m,by rw[hll],by omega,hm,(fun q=>by cases q),fun x hx hne=>?_⟩
  cases hx
  obtain⟨b,o,spot⟩:=ad
  have hpos:0<l.length:=List.length_pos_iff.2 hne
  have h0l:0<(f l[0]).length :=by rw[hf];exact hsz
  have hc:=hp 0 hpos 0 _ (List.getElem?_eq_getElem h0l)
  have hspot:spot=none:=by simpa [Addr.add] using World.cell?_spot hc
  subst hspot
  refine⟨rfl,fun i hil k u hu=>?_⟩
  have hadd: ∀j,(⟨b,o,none⟩:Addr).add j=⟨b,o+j,none⟩:=fun j=>by unfold Addr.add;split<;>simp_all
  have:=hp i hil k u hu
  rw[hadd] at this
  exact this
theorem bytes_ofW {fuel:Nat} {cs:List Value} {x:DataW H × List MemPlace} (h:DataW.trod enc Try.prog W 0 (fun _=>true) true fuel 36 cs=some x) (hw: ∀n∈x.1.weights Try.prog 36,n<=reachBytes):
  ∃(a:Option Addr) (bs:List UInt8) (c:Nat),cs= [.slice a bs.length c]/\Rd W (.slice a bs.length c) bs/\bs.length<=140737488355328:=by
 rcases open_ints Try.underlying36 Try.underlying5 (by kernel_rfl) h with ⟨hcs,_⟩ | ⟨x',l,c,zs,hcs,_,hl,hm,hz,hdd,hcell,hwz⟩
 ·exact⟨none,[],0,hcs,(IsRow.rd (.inl ⟨rfl,rfl,rfl,rfl⟩:IsRow .u8 W none 0 0 [])).1,by simp⟩
 ·have hr:IsRow .u8 W (some x') l c zs:=.inr ⟨_,rfl,hl,hm,by simpa using hz,hcell,hwz⟩
  obtain⟨h1,h2⟩:=hr.rd
  have hb:Try.prog.bytesOf 5=1:=by kernel_rfl
  have hlen:l<=140737488355328:=by
   have:=hw ((lits .u8 (zs.take l):List (DataW H)).length +(lits .u8 (zs.drop l):List (DataW H)).length) (by
    rw[congrArg Prod.fst hdd]
    simp [DataW.weights,Try.underlying36,hb])
   have hrb:=reachBytes_lt
   simp [lits] at this
   simp at hz
   omega
  refine⟨some x',bytesOf zs l,c,?_,?_,?_⟩
  ·rw[hcs,h2]
  ·rw[h2];exact h1
  ·rw[h2];exact hlen
theorem act_cells (fuel:Nat) (cs:List Value) (x:DataW H × List MemPlace) (h:DataW.trod enc Try.prog W 0 (fun _=>true) true fuel 38 cs=some x) (hw: ∀n∈x.1.weights Try.prog 38,n<=reachBytes): ∃a: {a:ActC // ActOk W a},cs=cellsQ a.1:=by
 have hce:Try.prog.cellsOf 38=4:=by kernel_rfl
 have hcg:Try.prog.cellsOf 36=1:=by kernel_rfl
 obtain⟨xs,n',_,hx,hlen,hxl,hfi⟩:=DataW.trod_struct Try.underlying38 h
 match xs,hxl with
 | [y0,y1,y2,y3],_=>
  have t0:=hfi 0 _ rfl
  have t1:=hfi 1 _ rfl
  have t2:=hfi 2 _ rfl
  have t3:=hfi 3 _ rfl
  simp only[List.getElem?_cons_zero,List.getElem?_cons_succ] at t0 t1 t2 t3
  rw[hce] at hlen
  match cs,hlen with
  | [c0,c1,c2,c3],_=>
   obtain⟨d,e0,_⟩:=DataW.trod_int Try.underlying3 t0
   obtain⟨m,e1,_⟩:=DataW.trod_int Try.underlying3 t1
   obtain⟨q,e2,_⟩:=DataW.trod_int Try.underlying3 t2
   obtain⟨a,bs,c,e3,hr,hl⟩:=bytes_ofW t3 (fun n hn=>hw n (by
    rw[hx]
    simp only[DataW.weights,Try.underlying38,List.map_cons,List.map_nil,DataW.weightsEach,List.mem_append]
    exact .inr (.inr (.inr (.inl hn)))))
   change List.take (Try.prog.cellsOf 36) (List.drop 3 [c0,c1,c2,c3])= _ at e3
   rw[hcg] at e3
   have e0':c0= .int .i64 d:=by injection e0
   have e1':c1= .int .i64 m:=by injection e1
   have e2':c2= .int .i64 q:=by injection e2
   have e3':c3= .slice a bs.length c:=by injection e3
   exact⟨⟨⟨d,m,q,bs,a,c⟩,hr,hl⟩,by rw[e0',e1',e2',e3'];rfl⟩
theorem _root_.Go.Proofs.Ytmodbbmdkealdaa.RdX.mapQ {α β:Type} {sz:Nat} {f:β->List Value} (g:α->β) {w:World} {v:Value} {l:List α} (h:RdX sz (fun x=>f (g x)) w v l):RdX sz f w v (l.map g):=by
 obtain⟨a,cap,hv,h1,h2,h3,h4⟩:=h.ex
 refine⟨a,cap,by rw[List.length_map];exact hv,by rw[List.length_map];exact h1,h2,fun q=>by obtain⟨q1,q2⟩:=h3 q;subst q1;exact⟨rfl,q2⟩,fun x hx hp=>?_⟩
 obtain⟨hs,hc⟩:=h4 x hx (fun q=>hp (by rw[q];rfl))
 refine⟨hs,fun i hi k u hu=>?_⟩
 rw[List.length_map] at hi
 rw[List.getElem_map] at hu
 exact hc i hi k u hu
def ActsC:Type:=List ActC × Value
def actsVal (a:ActsC):Value:=a.2
def actsOk (w:World) (a:ActsC):Prop:=RdX 4 cellsQ w a.2 a.1/\ ∀x∈a.1,ActOk w x
theorem open_acts14 {r:Reach} {b0:Nat} {v:Value} {d:DataW H} {p:List MemPlace} (hv:Value.okWide Try.prog W r b0 22 v) (h:DataW.Trod enc Try.prog W 0 (fun _=>true) true 22 v d p) (hw: ∀n∈d.weights Try.prog 22,n<=reachBytes): ∃a:ActsC,v=actsVal a/\actsOk W a:=by
 obtain⟨a,len,cap,rfl⟩:=okWide_slice Try.underlying22 hv
 obtain⟨m,hm⟩:=h
 obtain⟨u,l,hu,hl⟩:=slice_ofW (f:=fun x: {a:ActC // ActOk W a} =>cellsQ x.1) Try.underlying22 (show Try.prog.cellsOf 38=4 by kernel_rfl) (by omega) (fun x=>cellsQ_length x.1) act_cells hm hw
 have:Value.slice a len cap=u:=by simpa [Value.cells] using hu
 subst this
 refine⟨(l.map Subtype.val,_),rfl,RdX.mapQ (f:=cellsQ) Subtype.val hl,fun x hx=>?_⟩
 obtain⟨y,_,rfl⟩:=List.mem_map.1 hx
 exact y.2
theorem acts_at {a:Option Addr} {n cap:Nat} {L:List ActC} (h:RdX 4 cellsQ W (.slice a n cap) L) (i:Nat) (hi:i<L.length):
  ∃b o,a=some ⟨b,o,none⟩/\ ∀w':World,Below W.heap.size W w'->w'.cell? ⟨b,o+i*4,none⟩=some (.int .i64 L[i].do_)/\w'.cell? ⟨b,o+i*4+1,none⟩=some (.int .i64 L[i].ballot)/\w'.cell? ⟨b,o+i*4+2,none⟩=some (.int .i64 L[i].slot)/\w'.cell? ⟨b,o+i*4+3,none⟩=some L[i].u :=by
 obtain⟨b,o,e,c⟩:=h.at i hi
 exact⟨b,o,e,fun w' hb=>⟨c w' hb 0 _ rfl,c w' hb 1 _ rfl,c w' hb 2 _ rfl,c w' hb 3 _ rfl⟩⟩
end
end Ac
end Go.Proofs.Ytmodbbmdkealdaa
