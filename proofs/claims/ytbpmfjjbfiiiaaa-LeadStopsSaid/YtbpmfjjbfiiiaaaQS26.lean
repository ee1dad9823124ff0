/- Texts laid together by program. -/
import Derived.Test.YtbpmfjjbfiiiaaaQS16
/- The document's plan is the program's: who has the greatest ballot for a slot. No program is named here. -/
set_option linter.unusedVariables false
set_option maxRecDepth 8000
set_option linter.unusedSimpArgs false
namespace Go.Proofs.Ytbpmfjjbfiiiaaa
open Lib (hid)
open Go.RowKit
namespace Pl
open Cm Ac

def IsBest (l:List PromV) (x:PromV):Prop:=x∈l/\ ∀y∈l,y.done<x.done\/y.done=x.done/\x.who<=y.who
theorem bestR_is: ∀(l:List PromV) (p:PromV),IsBest (p::l) (bestR p l)
 | [],p=>⟨List.mem_cons_self,fun y hy=>by rw[List.mem_singleton] at hy;subst hy;exact .inr ⟨rfl,Int.le_refl _⟩⟩
 | x::l,p=>by
  rw[bestR]
  obtain⟨h1,h2⟩:=bestR_is l (pickP p x)
  have hp:pickP p x=p\/pickP p x=x:=by unfold pickP;split<;>simp
  have h3:=h2 _ List.mem_cons_self
  have ha:p.done<(pickP p x).done \/p.done=(pickP p x).done /\(pickP p x).who <=p.who:=by
   unfold pickP
   split
   ·rename_i q;rcases q with q | q<;>omega
   ·omega
  have hb:x.done<(pickP p x).done \/x.done=(pickP p x).done /\(pickP p x).who <=x.who:=by
   unfold pickP
   split
   ·omega
   ·rename_i q
    have q1: ¬p.done<x.done:=fun r=>q (.inl r)
    have q2:x.done=p.done-> ¬x.who<p.who:=fun r s=>q (.inr ⟨r,s⟩)
    omega
  refine⟨?_,fun y hy=>?_⟩
  ·rcases List.mem_cons.1 h1 with e | e
   ·rw[e]
    rcases hp with e2 | e2<;>rw[e2]<;>simp
   ·exact List.mem_cons_of_mem _ (List.mem_cons_of_mem _ e)
  ·rcases List.mem_cons.1 hy with rfl | hy
   ·omega
   ·rcases List.mem_cons.1 hy with rfl | hy
    ·omega
    ·exact h2 y (List.mem_cons_of_mem _ hy)
theorem newF_is: ∀(l:List PromV) (p:PromV),(p::l).Pairwise (fun a b=>a.who<b.who)->IsBest (p::l) (newF p l)
 | [],p,_=>⟨List.mem_cons_self,fun y hy=>by rw[List.mem_singleton] at hy;subst hy;exact .inr ⟨rfl,Int.le_refl _⟩⟩
 | x::l,p,h=>by
  obtain⟨h1,h2⟩:=List.pairwise_cons.1 h
  obtain⟨h3,h4⟩:=List.pairwise_cons.1 h2
  have hpx:=h1 x List.mem_cons_self
  rw[newF]
  by_cases c:p.done<x.done
  ·rw[if_pos c]
   obtain⟨i1,i2⟩:=newF_is l x h2
   have i3:=i2 x List.mem_cons_self
   refine⟨List.mem_cons_of_mem _ i1,fun y hy=>?_⟩
   rcases List.mem_cons.1 hy with rfl | hy
   ·omega
   ·exact i2 y hy
  ·rw[if_neg c]
   obtain⟨i1,i2⟩:=newF_is l p (List.pairwise_cons.2 ⟨fun y hy=>h1 y (List.mem_cons_of_mem _ hy),h4⟩)
   have i3:=i2 p List.mem_cons_self
   refine⟨?_,fun y hy=>?_⟩
   ·rcases List.mem_cons.1 i1 with e | e
    ·rw[e];exact List.mem_cons_self
    ·exact List.mem_cons_of_mem _ (List.mem_cons_of_mem _ e)
   ·rcases List.mem_cons.1 hy with rfl | hy
    ·exact i3
    ·rcases List.mem_cons.1 hy with rfl | hy
     ·omega
     ·exact i2 y (List.mem_cons_of_mem _ hy)
theorem who_eq {l:List PromV} (h:l.Pairwise fun a b=>a.who≠b.who) {x y:PromV} (hx:x∈l) (hy:y∈l) (e:x.who=y.who):x=y:=by
 obtain⟨i,hi,rfl⟩:=List.mem_iff_getElem.1 hx
 obtain⟨j,hj,rfl⟩:=List.mem_iff_getElem.1 hy
 rcases Nat.lt_trichotomy i j with q | q | q
 ·exact absurd e (List.pairwise_iff_getElem.1 h i j hi hj q)
 ·subst q;rfl
 ·exact absurd e.symm (List.pairwise_iff_getElem.1 h j i hj hi q)
theorem IsBest.unique {l m:List PromV} {x y:PromV} (hx:IsBest l x) (hy:IsBest m y) (hm: ∀z,z∈l ↔ z∈m) (hd:l.Pairwise fun a b=>a.who≠b.who):x=y:=by
 have h1:=hx.2 y ((hm y).2 hy.1)
 have h2:=hy.2 x ((hm x).1 hx.1)
 exact who_eq hd hx.1 ((hm y).2 hy.1) (by omega)
def cand (l:List PromV):List (Int × VoteV):=l.flatMap fun p=>p.votes.map fun v=>(p.who,v)
theorem mem_cand {l:List PromV} {c:Int × VoteV} :c∈cand l ↔ ∃p∈l,c.1=p.who/\c.2∈p.votes:=by
 unfold cand
 simp only[List.mem_flatMap,List.mem_map]
 constructor
 ·rintro ⟨p,hp,v,hv,rfl⟩
  exact⟨p,hp,rfl,hv⟩
 ·rintro ⟨p,hp,h1,h2⟩
  exact⟨p,hp,c.2,h2,by rw[<-h1]⟩
theorem topT_cand (t:Int): ∀(l:List PromV) (s:TopV),topT t s l=(cand l).foldl (fun s c=>stepT t c.1 s c.2) s
 | [],s=>rfl
 | p::l,s=>by
  show topT t (votesT t p.who s p.votes) l= _
  rw[topT_cand t l]
  show _=(p.votes.map (fun v=>(p.who,v))++cand l).foldl _ s
  rw[List.foldl_append,List.foldl_map]
  rfl
def TopS (C:List (Int × VoteV)) (t:Int) (T:TopV):Prop:=
 (T=top0/\ ∀c∈C,c.2.slot≠t)\/ ∃c∈C,c.2.slot=t/\T=⟨c.2.bat,c.2.ballot,c.1⟩/\ ∀c'∈C,c'.2.slot=t->c'.2.ballot<c.2.ballot\/c'.2.ballot=c.2.ballot/\c.1<=c'.1
theorem TopS.step {C:List (Int × VoteV)} {t:Int} {T:TopV} (h:TopS C t T) (c:Int × VoteV) (hb:0<=c.2.ballot):TopS (C++ [c]) t (stepT t c.1 T c.2):=by
 by_cases hs:c.2.slot=t
 case neg=>
  rw[stepT_no (fun q=>hs q.1)]
  rcases h with ⟨h1,h2⟩ | ⟨x,hx,h1,h2,h3⟩
  ·refine .inl ⟨h1,fun y hy=>?_⟩
   rcases List.mem_append.1 hy with hy | hy
   ·exact h2 y hy
   ·rw[List.mem_singleton] at hy;rw[hy];exact hs
  ·refine .inr ⟨x,List.mem_append_left _ hx,h1,h2,fun y hy q=>?_⟩
   rcases List.mem_append.1 hy with hy | hy
   ·exact h3 y hy q
   ·rw[List.mem_singleton] at hy;rw[hy] at q;exact absurd q hs
 rcases h with ⟨h1,h2⟩ | ⟨x,hx,h1,h2,h3⟩
 ·rw[stepT_yes hs (by rw[h1];exact .inl (by show(-1:Int)< _;omega))]
  refine .inr ⟨c,List.mem_append_right _ List.mem_cons_self,hs,rfl,fun y hy q=>?_⟩
  rcases List.mem_append.1 hy with hy | hy
  ·exact absurd q (h2 y hy)
  ·rw[List.mem_singleton] at hy;rw[hy];exact .inr ⟨rfl,Int.le_refl _⟩
 ·by_cases hc:T.ballot<c.2.ballot\/c.2.ballot=T.ballot/\c.1<T.who
  ·rw[stepT_yes hs hc]
   have e1:T.ballot=x.2.ballot:=by rw[h2]
   have e2:T.who=x.1:=by rw[h2]
   refine .inr ⟨c,List.mem_append_right _ List.mem_cons_self,hs,rfl,fun y hy q=>?_⟩
   rcases List.mem_append.1 hy with hy | hy
   ·have:=h3 y hy q
    omega
   ·rw[List.mem_singleton] at hy;rw[hy];exact .inr ⟨rfl,Int.le_refl _⟩
  ·rw[stepT_no (fun q=>hc q.2)]
   have e1:T.ballot=x.2.ballot:=by rw[h2]
   have e2:T.who=x.1:=by rw[h2]
   refine .inr ⟨x,List.mem_append_left _ hx,h1,h2,fun y hy q=>?_⟩
   rcases List.mem_append.1 hy with hy | hy
   ·exact h3 y hy q
   ·rw[List.mem_singleton] at hy
    rw[hy]
    have q1: ¬T.ballot<c.2.ballot:=fun r=>hc (.inl r)
    have q2:c.2.ballot=T.ballot-> ¬c.1<T.who:=fun r s=>hc (.inr ⟨r,s⟩)
    omega
theorem TopS.fold {t:Int} : ∀(D C:List (Int × VoteV)) (T:TopV),TopS C t T->(∀c∈D,0<=c.2.ballot)->TopS (C++D) t (D.foldl (fun s c=>stepT t c.1 s c.2) T)
 | [],C,T,h,_=>by rw[List.append_nil];exact h
 | c::D,C,T,h,hb=>by
  have:=TopS.fold D (C++ [c]) _ (h.step c (hb c List.mem_cons_self)) (fun x hx=>hb x (List.mem_cons_of_mem _ hx))
  rw[List.append_assoc] at this
  exact this
theorem topT_is (t:Int) (l:List PromV) (h: ∀p∈l,mayP p=true):TopS (cand l) t (topT t top0 l):=by
 rw[topT_cand]
 have:=TopS.fold (t:=t) (cand l) [] top0 (.inl ⟨rfl,fun c hc=>by cases hc⟩) (fun c hc=>by
  obtain⟨p,hp,_,h2⟩:=mem_cand.1 hc
  exact((mayP_ok (h p hp)).votes c.2 h2).b0)
 exact this
def stepP (t:Int) (v c:VoteV):VoteV:=if c.slot=t/\better c v=true then c else v
def VS (C:List (Int × VoteV)) (t:Int) (v:VoteV):Prop:=
 (v=zeroV/\ ∀c∈C,c.2.slot≠t)\/ ∃c∈C,c.2.slot=t/\v=c.2/\ ∀c'∈C,c'.2.slot=t->c'.2.ballot<c.2.ballot\/c'.2.ballot=c.2.ballot/\c.1<=c'.1
theorem VS.step {C:List (Int × VoteV)} {t:Int} {v:VoteV} (h:VS C t v) (ht:t≠0) (c:Int × VoteV) (hw: ∀x∈C,x.1<=c.1):VS (C++ [c]) t (stepP t v c.2):=by
 unfold stepP
 by_cases hs:c.2.slot=t
 case neg=>
  rw[if_neg (fun q=>hs q.1)]
  rcases h with ⟨h1,h2⟩ | ⟨x,hx,h1,h2,h3⟩
  ·refine .inl ⟨h1,fun y hy=>?_⟩
   rcases List.mem_append.1 hy with hy | hy
   ·exact h2 y hy
   ·rw[List.mem_singleton] at hy;rw[hy];exact hs
  ·refine .inr ⟨x,List.mem_append_left _ hx,h1,h2,fun y hy q=>?_⟩
   rcases List.mem_append.1 hy with hy | hy
   ·exact h3 y hy q
   ·rw[List.mem_singleton] at hy;rw[hy] at q;exact absurd q hs
 rcases h with ⟨h1,h2⟩ | ⟨x,hx,h1,h2,h3⟩
 ·rw[if_pos ⟨hs,by rw[h1];unfold better zeroV;rfl⟩]
  refine .inr ⟨c,List.mem_append_right _ List.mem_cons_self,hs,rfl,fun y hy q=>?_⟩
  rcases List.mem_append.1 hy with hy | hy
  ·exact absurd q (h2 y hy)
  ·rw[List.mem_singleton] at hy;rw[hy];exact .inr ⟨rfl,Int.le_refl _⟩
 ·have hb:better c.2 v=decide (v.ballot<c.2.ballot):=by
   unfold better
   rw[h2,decide_eq_false (by rw[h1];exact ht)]
   rfl
  rw[hb]
  by_cases hc:v.ballot<c.2.ballot
  ·rw[if_pos ⟨hs,decide_eq_true hc⟩]
   rw[h2] at hc
   refine .inr ⟨c,List.mem_append_right _ List.mem_cons_self,hs,rfl,fun y hy q=>?_⟩
   rcases List.mem_append.1 hy with hy | hy
   ·have:=h3 y hy q
    omega
   ·rw[List.mem_singleton] at hy;rw[hy];exact .inr ⟨rfl,Int.le_refl _⟩
  ·rw[if_neg (fun q=>hc (of_decide_eq_true q.2))]
   rw[h2] at hc
   have hxc:=hw x hx
   refine .inr ⟨x,List.mem_append_left _ hx,h1,h2,fun y hy q=>?_⟩
   rcases List.mem_append.1 hy with hy | hy
   ·exact h3 y hy q
   ·rw[List.mem_singleton] at hy
    rw[hy]
    omega
theorem bestB_cand (d:Int): ∀(l:List PromV) (s:BestV),bestB d s l=(cand l).foldl (fun s c=>stepB d s c.2) s
 | [],s=>rfl
 | p::l,s=>by
  show bestB d (votesB d s p.votes) l= _
  rw[bestB_cand d l]
  show _=(p.votes.map (fun v=>(p.who,v))++cand l).foldl _ s
  rw[List.foldl_append,List.foldl_map]
  rfl
theorem stepB_at (d:Int) (s:BestV) (c:VoteV) (hl:s.row.length=9) (hc:c.slot<=d+9) (i:Nat) (hi:i<9):(stepB d s c).row.getD i zeroV=stepP (d+1+(i:Int)) (s.row.getD i zeroV) c:=by
 unfold stepP
 by_cases h0:0<=c.slot - d - 1
 case neg=>
  rw[stepB_out h0,if_neg (fun q=>by omega)]
 obtain⟨n,hn⟩: ∃n:Nat,c.slot - d - 1=(n:Int):=⟨(c.slot - d - 1).toNat,by omega⟩
 cases hb:better c (s.row.getD n zeroV)
 ·rw[stepB_not hn hb]
  by_cases e:n=i
  ·subst e
   rw[hb,if_neg (fun q=>by cases q.2)]
  ·rw[if_neg (fun q=>e (by omega))]
 ·rw[stepB_yes hn hb]
  show(s.row.set n c).getD i zeroV= _
  by_cases e:n=i
  ·subst e
   rw[hb,if_pos ⟨by omega,rfl⟩]
   rw[List.getD_eq_getElem?_getD,List.getElem?_set_self (by omega)]
   rfl
  ·rw[if_neg (fun q=>e (by omega))]
   rw[List.getD_eq_getElem?_getD,List.getElem?_set_ne e,<-List.getD_eq_getElem?_getD]
structure BS (C:List (Int × VoteV)) (d:Int) (s:BestV):Prop where
 len:s.row.length=9
 row: ∀i:Nat,i<9->VS C (d+1+(i:Int)) (s.row.getD i zeroV)
 c0:0<=s.count
 most: ∀c∈C,c.2.slot - d<=s.count
 some_:s.count=0\/ ∃c∈C,c.2.slot - d=s.count
theorem BS.step {C:List (Int × VoteV)} {d:Int} {s:BestV} (h:BS C d s) (hd:0<=d) (c:Int × VoteV) (hc:c.2.slot<=d+9) (hw: ∀x∈C,x.1<=c.1):BS (C++ [c]) d (stepB d s c.2):=by
 have hrow: ∀i:Nat,i<9->VS (C++ [c]) (d+1+(i:Int)) ((stepB d s c.2).row.getD i zeroV):=fun i hi=>by
  rw[stepB_at d s c.2 h.len hc i hi]
  exact(h.row i hi).step (by omega) c hw
 have hlen:(stepB d s c.2).row.length =9:=by rw[stepB_len];exact h.len
 have app: ∀ {P:Int × VoteV->Prop},(∀x∈C,P x)->P c-> ∀x∈C++ [c],P x:=fun h1 h2 x hx=>by
  rcases List.mem_append.1 hx with q | q
  ·exact h1 x q
  ·rw[List.mem_singleton] at q;rw[q];exact h2
 have sm: ∀ {k:Int},(k=0\/ ∃x∈C,x.2.slot - d=k)->k=0\/ ∃x∈C++ [c],x.2.slot - d=k:=fun h=>h.imp id (fun⟨x,hx,e⟩=>⟨x,List.mem_append_left _ hx,e⟩)
 by_cases h0:0<=c.2.slot - d - 1
 case neg=>
  have e:=stepB_out (s:=s) h0
  have hc0:=h.c0
  exact⟨hlen,hrow,by rw[e];exact h.c0,app (fun x hx=>by rw[e];exact h.most x hx) (by rw[e];omega),by rw[e];exact sm h.some_⟩
 obtain⟨n,hn⟩: ∃n:Nat,c.2.slot - d - 1=(n:Int):=⟨(c.2.slot - d - 1).toNat,by omega⟩
 cases hb:better c.2 (s.row.getD n zeroV)
 ·have e:=stepB_not hn hb
  refine⟨hlen,hrow,by rw[e];exact h.c0,app (fun x hx=>by rw[e];exact h.most x hx) ?_,by rw[e];exact sm h.some_⟩
  rw[e]
  rcases h.row n (by omega) with ⟨h1,_⟩ | ⟨x,hx,h1,h2,_⟩
  ·rw[h1] at hb
   unfold better zeroV at hb
   cases hb
  ·have:=h.most x hx
   omega
 ·have e:=stepB_yes hn hb
  have hc0:=h.c0
  refine⟨hlen,hrow,by rw[e];show 0<=max s.count _;omega,app (fun x hx=>by rw[e];have:=h.most x hx;show _<=max s.count _;omega) (by rw[e];show _<=max s.count _;omega),?_⟩
  rw[e]
  show max s.count (c.2.slot - d)=0\/_
  rcases Int.le_total s.count (c.2.slot - d) with q | q
  ·refine .inr ⟨c,List.mem_append_right _ List.mem_cons_self,?_⟩
   show _=max s.count (c.2.slot - d)
   omega
  ·rw[Int.max_eq_left q]
   exact sm h.some_
theorem BS.fold {d:Int} (hd:0<=d): ∀(D C:List (Int × VoteV)) (s:BestV),BS C d s->(∀c∈D,c.2.slot<=d+9)->(C++D).Pairwise (fun a b=>a.1<=b.1)->BS (C++D) d (D.foldl (fun s c=>stepB d s c.2) s)
 | [],C,s,h,_,_=>by rw[List.append_nil];exact h
 | c::D,C,s,h,hc,hw=>by
  have e:C++c::D=(C++ [c])++D:=by simp
  rw[e] at hw ⊢
  exact BS.fold hd D (C++ [c]) _ (h.step hd c (hc c List.mem_cons_self) (fun x hx=>(List.pairwise_append.1 (List.pairwise_append.1 hw).1).2.2 x hx c List.mem_cons_self)) (fun x hx=>hc x (List.mem_cons_of_mem _ hx)) hw
theorem cand_rise: ∀ {l:List PromV},l.Pairwise (fun a b=>a.who<=b.who)->(cand l).Pairwise fun a b=>a.1<=b.1
 | [],_=>List.Pairwise.nil
 | p::l,h=>by
  obtain⟨h1,h2⟩:=List.pairwise_cons.1 h
  show(p.votes.map (fun v=>(p.who,v))++cand l).Pairwise _
  refine List.pairwise_append.2 ⟨List.pairwise_map.2 (List.pairwise_iff_getElem.2 (fun i j hi hj q=>Int.le_refl _)),cand_rise h2,fun a ha b hb=>?_⟩
  obtain⟨v,_,rfl⟩:=List.mem_map.1 ha
  obtain⟨q,hq,e,_⟩:=mem_cand.1 hb
  rw[e]
  exact h1 q hq
theorem bestB_is {l:List PromV} (h: ∀p∈l,mayP p=true) (hs:l.Pairwise fun a b=>a.who<=b.who) {d:Int} (hd:0<=d) (hm: ∀p∈l,p.done<=d):BS (cand l) d (bestB d newB l):=by
 rw[bestB_cand]
 have:=BS.fold hd (cand l) [] newB ⟨by simp [newB],fun i hi=>.inl ⟨by show(List.replicate 9 zeroV).getD i zeroV=zeroV;rw[List.getD_eq_getElem?_getD,List.getElem?_replicate,if_pos hi];rfl,fun c hc=>(by cases hc)⟩,Int.le_refl _,fun c hc=>(by cases hc),.inl rfl⟩ (fun c hc=>by
  obtain⟨p,hp,_,h2⟩:=mem_cand.1 hc
  have h3:=((mayP_ok (h p hp)).votes c.2 h2).most
  have h4:=hm p hp
  omega) (by rw[List.nil_append];exact cand_rise hs)
 exact this
structure LS (C:List (Int × VoteV)) (d m:Int):Prop where
 low:d<=m
 most: ∀c∈C,c.2.slot<=m
 some_:m=d\/ ∃c∈C,c.2.slot=m
theorem last_most {l:List VoteV} (h:l.Pairwise fun x y=>x.slot<y.slot) {v:VoteV} (hv:l.getLast?=some v): ∀x∈l,x.slot<=v.slot:=by
 intro x hx
 have hn:l≠ []:=fun q=>by rw[q] at hv;cases hv
 have e:l.getLast hn=v:=by rw[List.getLast?_eq_some_getLast hn] at hv;cases hv;rfl
 obtain⟨i,hi,rfl⟩:=List.mem_iff_getElem.1 hx
 rw[List.getLast_eq_getElem] at e
 by_cases q:i=l.length - 1
 ·subst q;rw[e];exact Int.le_refl _
 ·have:=List.pairwise_iff_getElem.1 h i (l.length - 1) hi (by omega) (by omega)
  rw[e] at this
  omega
theorem lastR_is {d:Int} : ∀(l m:List PromV) (k:Int),LS (cand m) d k->(∀p∈l,mayP p=true)->LS (cand (m++l)) d (l.foldl endM k)
 | [],m,k,h,_=>by rw[List.append_nil];exact h
 | p::l,m,k,h,hp=>by
  rw[List.foldl_cons,show m++p::l=(m++ [p])++l by simp]
  refine lastR_is l (m++ [p]) _ ?_ (fun q hq=>hp q (List.mem_cons_of_mem _ hq))
  have hr:=(mayP_ok (hp p List.mem_cons_self)).rise
  have hc: ∀c,c∈cand (m++ [p]) ↔ c∈cand m\/c.1=p.who/\c.2∈p.votes:=fun c=>by
   rw[mem_cand,mem_cand]
   simp only[List.mem_append,List.mem_singleton]
   constructor
   ·rintro ⟨q,hq | rfl,h⟩
    ·exact .inl ⟨q,hq,h⟩
    ·exact .inr h
   ·rintro (⟨q,hq,h⟩ | h)
    ·exact⟨q,.inl hq,h⟩
    ·exact⟨p,.inr rfl,h⟩
  unfold endM
  split
  ·rename_i hv
   rw[List.getLast?_eq_none_iff] at hv
   refine⟨h.low,fun c hcc=>?_,h.some_.imp id (fun⟨c,h1,h2⟩=>⟨c,(hc c).2 (.inl h1),h2⟩)⟩
   rcases (hc c).1 hcc with q | ⟨_,q⟩
   ·exact h.most c q
   ·rw[hv] at q;cases q
  ·rename_i v hv
   have hm:=last_most hr hv
   have hvm:=List.mem_of_getLast? hv
   have hlow:=h.low
   refine⟨by omega,fun c hcc=>?_,?_⟩
   ·rcases (hc c).1 hcc with q | ⟨_,q⟩
    ·have:=h.most c q
     omega
    ·have:=hm c.2 q
     omega
   ·rcases Int.le_total k v.slot with q | q
    ·exact .inr ⟨(p.who,v),(hc _).2 (.inr ⟨rfl,hvm⟩),by show v.slot=max k v.slot;omega⟩
    ·rw[Int.max_eq_left q]
     exact h.some_.imp id (fun⟨c,h1,h2⟩=>⟨c,(hc c).2 (.inl h1),h2⟩)
theorem slot_eq {l:List VoteV} (h:l.Pairwise fun x y=>x.slot<y.slot) {x y:VoteV} (hx:x∈l) (hy:y∈l) (e:x.slot=y.slot):x=y:=by
 obtain⟨i,hi,rfl⟩:=List.mem_iff_getElem.1 hx
 obtain⟨j,hj,rfl⟩:=List.mem_iff_getElem.1 hy
 rcases Nat.lt_trichotomy i j with q | q | q
 ·have:=List.pairwise_iff_getElem.1 h i j hi hj q;omega
 ·subst q;rfl
 ·have:=List.pairwise_iff_getElem.1 h j i hj hi q;omega
theorem cand_unique {l:List PromV} (h: ∀p∈l,mayP p=true) (hd:l.Pairwise fun a b=>a.who≠b.who) {x y:Int × VoteV} (hx:x∈cand l) (hy:y∈cand l) (ew:x.1=y.1) (es:x.2.slot=y.2.slot):x.2=y.2:=by
 obtain⟨p,hp,e1,h1⟩:=mem_cand.1 hx
 obtain⟨q,hq,e2,h2⟩:=mem_cand.1 hy
 have:=who_eq hd hp hq (by rw[<-e1,<-e2];exact ew)
 subst this
 exact slot_eq (mayP_ok (h p hp)).rise h1 h2 es
theorem top_vs {l m:List PromV} (h: ∀p∈l,mayP p=true) (hd:l.Pairwise fun a b=>a.who≠b.who) (hm: ∀c,c∈cand m ↔ c∈cand l) {t:Int} (ht:t≠0) {T:TopV} {v:VoteV} (h1:TopS (cand l) t T) (h2:VS (cand m) t v):T.bat=batOf v:=by
 rcases h1 with ⟨a1,a2⟩ | ⟨x,hx,a1,a2,a3⟩
 ·rcases h2 with ⟨b1,b2⟩ | ⟨y,hy,b1,b2,b3⟩
  ·rw[a1,b1];rfl
  ·exact absurd b1 (a2 y ((hm y).1 hy))
 ·rcases h2 with ⟨b1,b2⟩ | ⟨y,hy,b1,b2,b3⟩
  ·exact absurd a1 (b2 x ((hm x).2 hx))
  ·have c1:=a3 y ((hm y).1 hy) b1
   have c2:=b3 x ((hm x).2 hx) a1
   have e:=cand_unique h hd hx ((hm y).1 hy) (by omega) (by rw[a1,b1])
   rw[a2,b2]
   unfold batOf
   rw[if_neg (by rw[b1];exact ht),e]
theorem make_same (l:List PromV):makeR l=makeF l:=by
 unfold makeR makeF
 by_cases h0:l.length=0
 ·rw[if_pos h0,if_pos h0]
 rw[if_neg h0,if_neg h0]
 cases hok:okS [] l
 ·rfl
 rw[if_neg (by decide),if_neg (by decide)]
 obtain⟨hall,hdis, -⟩:=(okS_iff l []).1 hok
 have hperm:=sortP_perm l
 have hstr:=sortP_strict hok
 have hmem: ∀z,z∈l ↔ z∈sortP l:=fun z=>hperm.mem_iff.symm
 have hall2: ∀p∈sortP l,mayP p=true:=fun p hp=>hall p ((hmem p).2 hp)
 have hcm: ∀c,c∈cand (sortP l) ↔ c∈cand l:=fun c=>by
  rw[mem_cand,mem_cand]
  constructor
  ·rintro ⟨p,hp,h⟩;exact⟨p,(hmem p).2 hp,h⟩
  ·rintro ⟨p,hp,h⟩;exact⟨p,(hmem p).1 hp,h⟩
 obtain⟨p,r,hl⟩: ∃p r,l=p::r:=by
  match l,h0 with
  | p::r,_=>exact⟨p,r,rfl⟩
 obtain⟨p',r',hs⟩: ∃p' r',sortP l=p'::r':=by
  have:(sortP l).length ≠0:=by rw[sortP_length];exact h0
  match sortP l,this with
  | p::r,_=>exact⟨p,r,rfl⟩
 have hb:bestR p r=newF p' r':=IsBest.unique (bestR_is r p) (newF_is r' p' (by rw[<-hs];exact hstr)) (fun z=>by rw[<-hl,<-hs];exact hmem z) (by rw[<-hl];exact hdis)
 obtain⟨x,hx⟩: ∃x,newF p' r'=x:=⟨_,rfl⟩
 have hxm:x∈sortP l:=by rw[hs,<-hx];exact newF_mem r' p'
 have hxo:=mayP_ok (hall2 x hxm)
 have hmost: ∀q∈sortP l,q.done<=x.done:=fun q hq=>by rw[<-hx];exact newF_most r' p' q (by rw[<-hs];exact hq)
 have hB:=bestB_is hall2 (sortP_rise l) hxo.d0 hmost
 have hL:=lastR_is (d:=x.done) l [] x.done ⟨Int.le_refl _,fun c hc=>(by cases hc),.inl rfl⟩ hall
 rw[List.nil_append] at hL
 have hcount:lastR x.done l - x.done=(bestB x.done newB (sortP l)).count :=by
  have e:lastR x.done l=l.foldl endM x.done:=rfl
  rw[e]
  have a1:=hL.low
  have a2:=hB.c0
  have a3:l.foldl endM x.done - x.done<=(bestB x.done newB (sortP l)).count :=by
   rcases hL.some_ with q | ⟨c,hc,q⟩
   ·omega
   ·have:=hB.most c ((hcm c).2 hc)
    omega
  have a4:(bestB x.done newB (sortP l)).count <=l.foldl endM x.done - x.done:=by
   rcases hB.some_ with q | ⟨c,hc,q⟩
   ·omega
   ·have:=hL.most c ((hcm c).1 hc)
    omega
  omega
 have hc9:(bestB x.done newB (sortP l)).count <=9:=by
  rcases hB.some_ with q | ⟨c,hc,q⟩
  ·omega
  ·obtain⟨z,hz,_,hv⟩:=mem_cand.1 hc
   have h1:=((mayP_ok (hall2 z hz)).votes c.2 hv).most
   have h2:=hmost z hz
   omega
 have hbats:batsR l x.done (lastR x.done l - x.done).toNat =batsF (sortP l) x.done:=by
  rw[hcount]
  unfold batsR batsF
  have hc0:=hB.c0
  have hlen:=hB.len
  apply List.ext_getElem
  ·simp only[List.length_map,List.length_range,List.length_take,hlen]
   omega
  ·intro i h1 h2
   have hi:i<(bestB x.done newB (sortP l)).count.toNat :=by simpa using h1
   have hi9:i<9:=by omega
   simp only[List.getElem_map,List.getElem_range,List.getElem_take]
   have hv:=hB.row i hi9
   have ht:=topT_is (x.done+1+(i:Int)) l hall
   have hxd:=hxo.d0
   have:=top_vs hall hdis hcm (by omega) ht hv
   unfold highR
   rw[this,List.getD_eq_getElem?_getD,List.getElem?_eq_getElem (by omega),Option.getD_some]
 have e1:planR l=(let b:=batsR l x.done (lastR x.done l - x.done).toNat;let e:=walkF ⟨x.tv,x.ts,x.time⟩ (startF (x.done+1)) b;(⟨x.done,x.tv,x.ts,x.time,b,e.tv,e.ts,e.time⟩:PlanV)):=by
  rw[<-hx,<-hb,hl]
  rfl
 have e2:planF (sortP l)=(let b:=batsF (sortP l) x.done;let e:=walkF ⟨x.tv,x.ts,x.time⟩ (startF (x.done+1)) b;(⟨x.done,x.tv,x.ts,x.time,b,e.tv,e.ts,e.time⟩:PlanV)):=by
  rw[<-hx,hs]
  rfl
 rw[e1,e2,hbats]
end Pl
end Go.Proofs.Ytbpmfjjbfiiiaaa
