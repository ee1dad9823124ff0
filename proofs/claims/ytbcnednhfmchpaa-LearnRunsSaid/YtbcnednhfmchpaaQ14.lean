/- Texts laid together by program. -/
import Derived.Test.YtbcnednhfmchpaaQ13
import Derived.ProofKit
import Derived.OpenShut
import Derived.Deep.Strs
import Derived.Deep.Slices
import Derived.Lib.SmallJoins
import Derived.SizedLaws
/- The statements' batches may be. -/
set_option linter.unusedVariables false
set_option maxRecDepth 8000
set_option linter.unusedSimpArgs false
namespace Go.Proofs.Ytbcnednhfmchpaa
open Lib (hid)
open Go.RowKit
namespace Cm
theorem batG_okL (A:List UInt8) (len:Nat): ∀(F I:Nat) (G:List ReqV),okR [] G=true->G.length<=3->okR [] (batG A len F I G)=true/\(batG A len F I G).length <=3
 | 0,_,G,h,h3=>⟨h,h3⟩
 | F+1,I,G,h,h3=>by
  rw[batG]
  split
  ·rename_i q
   split
   ·exact batG_okL A len F (I+5) G h h3
   ·rename_i c
    refine batG_okL A len F (I+5) _ (okR_push [] h (reqOf_may _ _ _ _ _ (bAtB_lt A (I+1))) ?_) (by simp;omega)
    rw[List.nil_append]
    simpa using c
  ·exact⟨h,h3⟩
theorem batchF_mayL (A:List UInt8):mayB (batchF A)=true:=by
 unfold batchF
 split
 ·rfl
 ·split
  ·rfl
  ·have h:=batG_okL A A.length A.length 4 [] rfl (by decide)
   have h0:=bAtB_lt A 3
   exact mayB_mk (by omega) (by omega) (by omega) (by omega) h.2 h.1
end Cm
end Go.Proofs.Ytbcnednhfmchpaa

/- What LearnOrder stands on: a row of marks beside a learner. -/
set_option linter.unusedVariables false
set_option maxRecDepth 8000
namespace Go.Proofs.Ytbcnednhfmchpaa
open Lib (hid)
open Go.RowKit
namespace Ln
open Cm
theorem HasD.fresh {w:World} {g:Nat} {n:Int} (h:w.heap[g]?=some (.cells (lrnCells n 0 (List.replicate 9 zeroPC)) 63)) (m:Nat) (h2:g<m) (h3:m<=w.heap.size):HasD w g m (newL n):=HasD.new h h2 h3
theorem own_gr {w w':World} {base b g:Nat} {B:BatV} {u:Value} (h:w.ownsRow base 73 5 u B.reqs.length (flatX cellsR B.reqs)) (hu: ∀k,u.ownBlock=some k->base<=k/\k<b) (hg:w.grownBy w' (some g)) (hgb:g<base\/b<=g):w'.ownsRow base 73 5 u B.reqs.length (flatX cellsR B.reqs):=
 Rw.own_keep h fun k hk=>hg.block k (Rw.own_lt h k hk).2 (fun q=>by cases q;have:=hu _ hk;omega)
theorem own_grX {w w':World} {base sz n g:Nat} {e:TypeId} {xs:List Value} {u:Value} (h:w.ownsRow base e sz u n xs) (hg:w.grownBy w' (some g)) (hgb:g<base):w'.ownsRow base e sz u n xs:=
 Rw.own_keep h fun k hk=>hg.block k (Rw.own_lt h k hk).2 (fun q=>by cases q;have:=(Rw.own_lt h _ hk).1;omega)
theorem at_gr {w w':World} {b g:Nat} {o:Obj} (h:w.heap[b]?=some o) (hg:w.grownBy w' (some g)) (hne:b≠g):w'.heap[b]?=some o:=(hg.block _ (get_ltB h) (fun q=>hne (by cases q;rfl))).trans h
theorem four_at (r:Nat) (h:r<4): ∃K:Int,Odd K/\(#[Value.int .i64 1,.int .i64 3,.int .i64 5,.int .i64 7])[r]?=some (.int .i64 K):=by
 match r,h with
 | 0,_=>exact⟨1,⟨by decide,by decide,by decide⟩,rfl⟩
 | 1,_=>exact⟨3,⟨by decide,by decide,by decide⟩,rfl⟩
 | 2,_=>exact⟨5,⟨by decide,by decide,by decide⟩,rfl⟩
 | 3,_=>exact⟨7,⟨by decide,by decide,by decide⟩,rfl⟩
theorem some_odd {K:Int} (h:Odd K):someN K=true:=by
 unfold someN
 rw[decide_eq_true h.lo,decide_eq_true h.hi]
 rfl
end Ln
end Go.Proofs.Ytbcnednhfmchpaa

/- What LearnStays asks of plain learners. No program is named here. -/
set_option linter.unusedVariables false
set_option maxRecDepth 8000
set_option linter.unusedSimpArgs false
namespace Go.Proofs.Ytbcnednhfmchpaa
open Lib (hid)
open Go.RowKit
namespace Ln
open Cm

structure Kept (st:LrnV) (s:Int) (B:BatV):Prop where
 good:GoodN st
 n:st.n=3
 at3:at_ st.l s=some ⟨s,2,[0,1],B,true⟩
section
variable {st : LrnV} {s : Int} {B : BatV}
theorem Kept.lt (h:Kept st s B):st.done<s:=(h.good.all _ (at_mem h.at3).1).lo
theorem Kept.chosen (h:Kept st s B):chosenF st s=(B,true):=by
 unfold chosenF
 rw[h.at3]
 rfl
theorem Kept.heard (h:Kept st s B):heardF st s=(2,[0,1]):=by
 unfold heardF
 rw[h.at3]
theorem Kept.hear (h:Kept st s B) (f b t:Int) (q:BatV):Kept (hearF st f b t q).1 s B:=
 ⟨h.good.hear f b t q,(hear_same st f b t q).2.trans h.n,hear_keeps h.at3 rfl f b t q⟩
theorem Kept.no (h:Kept st s B) (f b:Int) (q:BatV):(hearF st f b s q).2≠0:=by
 unfold hearF
 split
 ·show(1:Int)≠0
  decide
 ·rw[h.at3]
  dsimp only
  rw[if_pos (.inr rfl)]
  show(11:Int)≠0
  decide
theorem Kept.trim (h:Kept st s B) (d:Int) (hd:d<s):Kept (trimL st d) s B:=by
 refine⟨h.good.trim d,?_,?_⟩
 ·unfold trimL
  split
  ·exact h.n
  ·exact h.n
 ·unfold trimL
  split
  ·exact h.at3
  ·show at_ (st.l.filter _) s= _
   rw[at_filter,if_pos hd,h.at3]
theorem Kept.over (h:Kept st s B) (hs:s<=9) (h1:1<=s) (hq:mayB B=true): ∃st',trimL st s=st'/\GoodN st'/\st'.done=s/\chosenF st' s=(zeroB,false)/\heardF st' s=(0,[])/\hearF st' 0 9 s B=(st',11):=by
 have hl:=h.lt
 have e:trimL st s=⟨st.n,s,st.l.filter fun x=>decide (s<x.slot)⟩:=by
  unfold trimL
  rw[if_neg (by omega)]
 have hn:at_ (st.l.filter fun x=>decide (s<x.slot)) s=none:=by rw[at_filter,if_neg (by omega)]
 refine⟨_,rfl,h.good.trim s,by rw[e],?_,?_,?_⟩
 ·rw[e]
  unfold chosenF
  dsimp only
  rw[hn]
 ·rw[e]
  unfold heardF
  dsimp only
  rw[hn]
 ·rw[e]
  have e2:=hear_ok (s:=⟨st.n,s,st.l.filter fun x=>decide (s<x.slot)⟩) (f:=0) (b:=9) (t:=s) (q:=B) (Int.le_refl _) (show(0:Int)<st.n by rw[h.n];decide) (by decide) (by simp [highF];omega) hq
  rw[show at_ (LrnV.l ⟨st.n,s,st.l.filter fun x=>decide (s<x.slot)⟩) s=none from hn] at e2
  dsimp only at e2
  rw[if_pos (Int.le_refl _)] at e2
  exact e2
end
theorem stays_start (s:Int) (B:BatV) (h1:1<=s) (h9:s<=9) (hq:mayB B=true): ∃st1 st2,hearF (newL 3) 0 2 s B=(st1,0)/\GoodN st1/\hearF st1 1 2 s B=(st2,0)/\Kept st2 s B:=by
 have hg0:GoodN (newL 3):=newL_good 3 (by decide) (by decide)
 have e1:=hear_ok (s:=newL 3) (f:=0) (b:=2) (t:=s) (q:=B) (by decide) (by decide) (by decide) (by simp [highF];omega) hq
 rw[show at_ (newL 3).l s=none from rfl] at e1
 dsimp only at e1
 rw[if_neg (show ¬s<=(newL 3).done from fun q=>by have q:s<=0:=q;omega),if_neg (show ¬(newL 3).done +9<s from fun q=>by have q:(0:Int)+9<s:=q;omega)] at e1
 have hs1:(⟨(newL 3).n,(newL 3).done,putS (nextS (newL 3).n ⟨s,2,[],B,false⟩ 0 2 B) (newL 3).l⟩:LrnV)=⟨3,0,[⟨s,2,[0],B,false⟩]⟩:=by rfl
 rw[hs1] at e1
 have hg1:=hg0.hear 0 2 s B
 rw[e1] at hg1
 have e2:=hear_ok (s:=⟨3,0,[⟨s,2,[0],B,false⟩]⟩) (f:=1) (b:=2) (t:=s) (q:=B) (by decide) (show(1:Int)<3 by decide) (by decide) (by simp [highF];omega) hq
 have ha:at_ [(⟨s,2,[0],B,false⟩:SlotV)] s=some ⟨s,2,[0],B,false⟩:=by
  unfold at_
  rw[List.find?_cons_of_pos (by simp)]
 rw[show at_ (LrnV.l ⟨3,0,[⟨s,2,[0],B,false⟩]⟩) s=some ⟨s,2,[0],B,false⟩ from ha] at e2
 dsimp only at e2
 rw[if_neg (fun q=>q.elim (fun q=>by omega) (fun q=>by cases q)),if_neg (by omega),if_neg (by decide)] at e2
 have hp:putS (nextS 3 ⟨s,2,[0],B,false⟩ 1 2 B) [⟨s,2,[0],B,false⟩]= [⟨s,2,[0,1],B,true⟩]:=by
  rw[putS,if_pos (by rfl)]
  rfl
 rw[hp] at e2
 have hg2:=hg1.hear 1 2 s B
 rw[e2] at hg2
 refine⟨_,_,e1,hg1,e2,hg2,rfl,?_⟩
 show at_ [_] s= _
 unfold at_
 rw[List.find?_cons_of_pos (by simp)]
end Ln
end Go.Proofs.Ytbcnednhfmchpaa

/- Arguments that are batches, tips, opened. -/
set_option linter.unusedVariables false
set_option maxRecDepth 8000
set_option linter.unusedSimpArgs false
namespace Go.Proofs.Ytbcnednhfmchpaa
open Lib (hid)
open Go.RowKit Go.ChangeShapes Go.WideShapes Go.Deep
namespace Cm

theorem list_ofB {α:Type} {P:Nat->α->Prop} : ∀n,(∀i,i<n-> ∃g,P i g)-> ∃l:List α,l.length=n/\ ∀i (h:i<l.length),P i l[i]
 | 0,_=>⟨[],rfl,fun i h=>absurd h (Nat.not_lt_zero _)⟩
 | n+1,h=>by
  obtain⟨l,hl,hp⟩:=list_ofB n (fun i hi=>h i (by omega))
  obtain⟨g,hg⟩:=h n (by omega)
  refine⟨l++ [g],by simp [hl],fun i hi=>?_⟩
  rw[List.length_append,List.length_singleton,hl] at hi
  by_cases q:i<n
  ·rw[List.getElem_append_left (by omega)]
   exact hp i (by omega)
  ·obtain rfl:i=n:=by omega
   rw[List.getElem_append_right (by omega)]
   simpa [hl] using hg
section
variable {H : Type} {enc : TypeId × Value → H} {W : World} {base : Nat} {sp : Nat → Bool} {held : Bool}
end

section
variable {H : Type} {enc : TypeId × Value → H} {W : World}
end
end Cm
end Go.Proofs.Ytbcnednhfmchpaa

/- Slices of whatever elements, bytes in them, opened within the form's reach. -/
set_option linter.unusedVariables false
set_option maxRecDepth 8000
set_option linter.unusedSimpArgs false
namespace Go.Proofs.Ytbcnednhfmchpaa
open Lib (hid)
open Go.RowKit Go.ChangeShapes Go.WideShapes Go.Deep
namespace Ac
open Cm

section
variable {H : Type} {enc : TypeId × Value → H} {W : World}

theorem weightsAll_mem {P:Program} {e:TypeId} {d:DataW H} {n:Nat} (hn:n∈d.weights P e): ∀l:List (DataW H),d∈l->n∈DataW.weightsAll P e l
 | [],h=>by cases h
 | x::l,h=>by
  rw[DataW.weightsAll,List.mem_append]
  rcases List.mem_cons.1 h with rfl | h
  ·exact .inl hn
  ·exact .inr (weightsAll_mem hn l h)
theorem slice_ofW {α:Type} {sz:Nat} {f:α->List Value} {t e:TypeId} (hu:Try.prog.underlying t=some (.slice e)) (hce:Try.prog.cellsOf e=sz) (hsz:0<sz) (hf: ∀x,(f x).length =sz)
  (hel: ∀fuel cs x,DataW.trod enc Try.prog W 0 (fun _=>true) true fuel e cs=some x->(∀n∈x.1.weights Try.prog e,n<=reachBytes)-> ∃y:α,cs=f y)
  {fuel:Nat} {cs:List Value} {x:DataW H × List MemPlace} (h:DataW.trod enc Try.prog W 0 (fun _=>true) true fuel t cs=some x) (hw: ∀n∈x.1.weights Try.prog t,n<=reachBytes): ∃v l,cs= [v]/\RdX sz f W v l:=by
 rcases open_slice hu h with ⟨h0,_⟩ | ⟨ad,len,cap,m,n,D,Pl,h0,_,hl,hm,hmm,hx,hi⟩
 ·exact⟨_,[],h0,RdX.nil W⟩
 ·have hm':m=cap:=by rw[hmm];rfl
  subst hm'
  clear hmm
  have hwi: ∀i,i<len-> ∀n∈(D i).weights Try.prog e,n<=reachBytes:=fun i hil n hn=>by
   refine hw n ?_
   rw[hx]
   simp only[DataW.weights,hu,List.mem_cons,List.mem_append]
   exact .inr (.inl (weightsAll_mem hn _ (List.mem_map.2 ⟨i,List.mem_range.2 hil,rfl⟩)))
  have key: ∀i,i<len-> ∃g:α,∀k u,(f g)[k]?=some u->W.cell? (ad.add (i*sz+k))=some u:=by
   intro i hil
   obtain⟨cs',hc,ht⟩:=hi i (by omega)
   rw[hce] at hc
   obtain⟨y,rfl⟩:=hel _ _ _ ht (hwi i hil)
   obtain⟨_,hcl,hat⟩:=World.cells?_some hc
   refine⟨y,fun k u hk=>?_⟩
   have hks:k<(f y).length :=(List.getElem?_eq_some_iff.1 hk).1
   have a0:=hat k (by rw[hf] at hks;exact hks)
   rw[Go.Deep.add_add] at a0
   rw[<-hk,<-a0]
  obtain⟨l,hll,hp⟩:=list_ofB len key
  refine⟨_,l,h0,some ad,m,by rw[hll],by omega,hm,(fun q=>by cases q),fun x hx hne=>?_⟩
  cases hx
  obtain⟨b,o,spot⟩:=ad
  have hpos:0<l.length:=List.length_pos_iff.2 hne
  have h0l:0<(f l[0]).length :=by rw[hf];exact hsz
  have hc:=hp 0 hpos 0 _ (List.getElem?_eq_getElem h0l)
  have hspot:spot=none:=by simpa [Addr.add] using World.cell?_spot hc
  subst hspot
  refine⟨rfl,fun i hil k u hu=>?_⟩
  have hadd: ∀j,(⟨b,o,none⟩:Addr).add j=⟨b,o+j,none⟩:=fun j=>by unfold Addr.add;split<;>simp_all
  have:=hp i hil k u hu
  rw[hadd] at this
  exact this
theorem bytes_ofW {fuel:Nat} {cs:List Value} {x:DataW H × List MemPlace} (h:DataW.trod enc Try.prog W 0 (fun _=>true) true fuel 28 cs=some x) (hw: ∀n∈x.1.weights Try.prog 28,n<=reachBytes):
  ∃(a:Option Addr) (bs:List UInt8) (c:Nat),cs= [.slice a bs.length c]/\Rd W (.slice a bs.length c) bs/\bs.length<=140737488355328:=by
 rcases open_ints Try.underlying28 Try.underlying5 (by kernel_rfl) h with ⟨hcs,_⟩ | ⟨x',l,c,zs,hcs,_,hl,hm,hz,hdd,hcell,hwz⟩
 ·exact⟨none,[],0,hcs,(IsRow.rd (.inl ⟨rfl,rfl,rfl,rfl⟩:IsRow .u8 W none 0 0 [])).1,by simp⟩
 ·have hr:IsRow .u8 W (some x') l c zs:=.inr ⟨_,rfl,hl,hm,by simpa using hz,hcell,hwz⟩
  obtain⟨h1,h2⟩:=hr.rd
  have hb:Try.prog.bytesOf 5=1:=by kernel_rfl
  have hlen:l<=140737488355328:=by
   have:=hw ((lits .u8 (zs.take l):List (DataW H)).length +(lits .u8 (zs.drop l):List (DataW H)).length) (by
    rw[congrArg Prod.fst hdd]
    simp [DataW.weights,Try.underlying28,hb])
   have hrb:=reachBytes_lt
   simp [lits] at this
   simp at hz
   omega
  refine⟨some x',bytesOf zs l,c,?_,?_,?_⟩
  ·rw[hcs,h2]
  ·rw[h2];exact h1
  ·rw[h2];exact hlen
theorem _root_.Go.Proofs.Ytbcnednhfmchpaa.RdX.mapQ {α β:Type} {sz:Nat} {f:β->List Value} (g:α->β) {w:World} {v:Value} {l:List α} (h:RdX sz (fun x=>f (g x)) w v l):RdX sz f w v (l.map g):=by
 obtain⟨a,cap,hv,h1,h2,h3,h4⟩:=h.ex
 refine⟨a,cap,by rw[List.length_map];exact hv,by rw[List.length_map];exact h1,h2,fun q=>by obtain⟨q1,q2⟩:=h3 q;subst q1;exact⟨rfl,q2⟩,fun x hx hp=>?_⟩
 obtain⟨hs,hc⟩:=h4 x hx (fun q=>hp (by rw[q];rfl))
 refine⟨hs,fun i hi k u hu=>?_⟩
 rw[List.length_map] at hi
 rw[List.getElem_map] at hu
 exact hc i hi k u hu
end
end Ac
end Go.Proofs.Ytbcnednhfmchpaa

/- Arguments that are slices of layer 15's acts, opened; their bytes within the form's reach. -/
set_option linter.unusedVariables false
set_option maxRecDepth 8000
set_option linter.unusedSimpArgs false
namespace Go.Proofs.Ytbcnednhfmchpaa
open Lib (hid)
open Go.RowKit Go.ChangeShapes Go.WideShapes Go.Deep
namespace Ln
open Cm Ac

structure ActC where
 frm:Int
 ballot:Int
 slot:Int
 ns:List UInt8
 na:Option Addr
 nc:Nat
 trim:Bool
def ActC.u (a:ActC):Value:=.slice a.na a.ns.length a.nc
def cellsQ (a:ActC):List Value:= [.int .i64 a.frm,.int .i64 a.ballot,.int .i64 a.slot,a.u,.bool a.trim]
theorem cellsQ_length (a:ActC):(cellsQ a).length =5:=rfl
def ActOk (W:World) (a:ActC):Prop:=Rd W a.u a.ns/\a.ns.length<=140737488355328
section
variable {H : Type} {enc : TypeId × Value → H} {W : World}
theorem act_cells (fuel:Nat) (cs:List Value) (x:DataW H × List MemPlace) (h:DataW.trod enc Try.prog W 0 (fun _=>true) true fuel 30 cs=some x) (hw: ∀n∈x.1.weights Try.prog 30,n<=reachBytes): ∃a: {a:ActC // ActOk W a},cs=cellsQ a.1:=by
 have hce:Try.prog.cellsOf 30=5:=by kernel_rfl
 have hcg:Try.prog.cellsOf 28=1:=by kernel_rfl
 obtain⟨xs,n',_,hx,hlen,hxl,hfi⟩:=DataW.trod_struct Try.underlying30 h
 match xs,hxl with
 | [y0,y1,y2,y3,y4],_=>
  have t0:=hfi 0 _ rfl
  have t1:=hfi 1 _ rfl
  have t2:=hfi 2 _ rfl
  have t3:=hfi 3 _ rfl
  have t4:=hfi 4 _ rfl
  simp only[List.getElem?_cons_zero,List.getElem?_cons_succ] at t0 t1 t2 t3 t4
  rw[hce] at hlen
  match cs,hlen with
  | [c0,c1,c2,c3,c4],_=>
   obtain⟨d,e0,_⟩:=DataW.trod_int Try.underlying3 t0
   obtain⟨m,e1,_⟩:=DataW.trod_int Try.underlying3 t1
   obtain⟨q,e2,_⟩:=DataW.trod_int Try.underlying3 t2
   obtain⟨a,bs,c,e3,hr,hl⟩:=bytes_ofW t3 (fun n hn=>hw n (by
    rw[hx]
    simp only[DataW.weights,Try.underlying30,List.map_cons,List.map_nil,DataW.weightsEach,List.mem_append]
    exact .inr (.inr (.inr (.inl hn)))))
   change List.take (Try.prog.cellsOf 28) (List.drop 3 [c0,c1,c2,c3,c4])= _ at e3
   rw[hcg] at e3
   obtain⟨tr,e4,_⟩:=DataW.trod_bool Try.underlying4 t4
   have e4':c4= .bool tr:=by injection e4
   have e0':c0= .int .i64 d:=by injection e0
   have e1':c1= .int .i64 m:=by injection e1
   have e2':c2= .int .i64 q:=by injection e2
   have e3':c3= .slice a bs.length c:=by injection e3
   exact⟨⟨⟨d,m,q,bs,a,c,tr⟩,hr,hl⟩,by rw[e0',e1',e2',e3',e4'];rfl⟩
def ActsC:Type:=List ActC × Value
def actsVal (a:ActsC):Value:=a.2
def actsOk (w:World) (a:ActsC):Prop:=RdX 5 cellsQ w a.2 a.1/\ ∀x∈a.1,ActOk w x
theorem open_acts15 {r:Reach} {b0:Nat} {v:Value} {d:DataW H} {p:List MemPlace} (hv:Value.okWide Try.prog W r b0 22 v) (h:DataW.Trod enc Try.prog W 0 (fun _=>true) true 22 v d p) (hw: ∀n∈d.weights Try.prog 22,n<=reachBytes): ∃a:ActsC,v=actsVal a/\actsOk W a:=by
 obtain⟨a,len,cap,rfl⟩:=okWide_slice Try.underlying22 hv
 obtain⟨m,hm⟩:=h
 obtain⟨u,l,hu,hl⟩:=slice_ofW (f:=fun x: {a:ActC // ActOk W a} =>cellsQ x.1) Try.underlying22 (show Try.prog.cellsOf 30=5 by kernel_rfl) (by omega) (fun x=>cellsQ_length x.1) act_cells hm hw
 have:Value.slice a len cap=u:=by simpa [Value.cells] using hu
 subst this
 refine⟨(l.map Subtype.val,_),rfl,RdX.mapQ (f:=cellsQ) Subtype.val hl,fun x hx=>?_⟩
 obtain⟨y,_,rfl⟩:=List.mem_map.1 hx
 exact y.2
theorem acts_at {a:Option Addr} {n cap:Nat} {L:List ActC} (h:RdX 5 cellsQ W (.slice a n cap) L) (i:Nat) (hi:i<L.length):
  ∃b o,a=some ⟨b,o,none⟩/\ ∀w':World,Below W.heap.size W w'->w'.cell? ⟨b,o+i*5,none⟩=some (.int .i64 L[i].frm)/\w'.cell? ⟨b,o+i*5+1,none⟩=some (.int .i64 L[i].ballot)/\w'.cell? ⟨b,o+i*5+2,none⟩=some (.int .i64 L[i].slot)/\w'.cell? ⟨b,o+i*5+3,none⟩=some L[i].u /\w'.cell? ⟨b,o+i*5+4,none⟩=some (.bool L[i].trim):=by
 obtain⟨b,o,e,c⟩:=h.at i hi
 exact⟨b,o,e,fun w' hb=>⟨c w' hb 0 _ rfl,c w' hb 1 _ rfl,c w' hb 2 _ rfl,c w' hb 3 _ rfl,c w' hb 4 _ rfl⟩⟩
end
end Ln
end Go.Proofs.Ytbcnednhfmchpaa
