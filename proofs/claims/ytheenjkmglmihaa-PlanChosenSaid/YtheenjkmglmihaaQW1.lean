/- Texts laid together by program. -/
import Derived.Test.YtheenjkmglmihaaQU1
import Derived.Maps.AppendAt
import Derived.Deep.AppendLies
/- Slices that read as lists, whatever their elements are: f x: the cells of one element, sz of them. No program is named here. -/
set_option linter.unusedVariables false
set_option maxRecDepth 8000
set_option linter.unusedSimpArgs false
namespace Go.Proofs.Ytheenjkmglmihaa
open Lib (hid)
open Go.RowKit

section
variable {α : Type}
variable {sz : Nat} {f : α → List Value}
theorem set_at {β:Type} (a b:List β) (k:Nat) (u:β) (h:k<b.length):(a++b).set (a.length+k) u=a++b.set k u:=by
 rw[List.set_append_right _ _ (by omega)]
 congr 2
 omega
theorem flatX_set (hf: ∀x,(f x).length =sz) (k:Nat) (u:Value) (hk:k<sz) (y:α): ∀(l:List α) (i:Nat) (h:i<l.length),(f l[i]).set k u=f y->(flatX f l).set (i*sz+k) u=flatX f (l.set i y)
 | x::l,0,_,e=>by
  rw[flatX_cons,Nat.zero_mul,Nat.zero_add,List.set_append_left _ _ (by rw[hf];exact hk)]
  show(f x).set k u++_=flatX f (y::l)
  rw[flatX_cons]
  congr 1
 | x::l,i+1,h,e=>by
  have:=flatX_set hf k u hk y l i (by simpa using h) e
  rw[flatX_cons,show(i+1)*sz+k=(f x).length +(i*sz+k) by rw[hf,Nat.add_mul];omega,set_at _ _ _ _ (by
   rw[flatX_length hf]
   have hi:i<l.length:=by simpa using h
   have:i*sz+sz<=l.length*sz:=by rw[<-Nat.succ_mul];exact Nat.mul_le_mul_right _ hi
   omega),this]
  rfl
end
end Go.Proofs.Ytheenjkmglmihaa

/- What a quorum has voted for, a quorum's plan has. No program is named here. -/
set_option linter.unusedVariables false
set_option maxRecDepth 8000
set_option linter.unusedSimpArgs false
namespace Go.Proofs.Ytheenjkmglmihaa
open Lib (hid)
open Go.RowKit
namespace Pl
open Cm Ac

def stepW (x:VoteV) (s:List VoteV × Bool) (y:VoteV):List VoteV × Bool:=
 let s1:List VoteV × Bool:=if s.2=false/\x.slot<=y.slot then (s.1++ [x],true) else s
 if y.slot=x.slot then s1 else (s1.1++ [y],s1.2)
def foldW (x:VoteV) (l:List VoteV):List VoteV × Bool:=l.foldl (stepW x) ([],false)
def withV (l:List VoteV) (x:VoteV):List VoteV:=if (foldW x l).2=true then (foldW x l).1 else (foldW x l).1++ [x]
theorem stepW_no {x y:VoteV} {m:List VoteV} {b:Bool} (h: ¬(b=false/\x.slot<=y.slot)) (e:y.slot=x.slot):stepW x (m,b) y=(m,b):=by
 unfold stepW;dsimp only;rw[if_neg h,if_pos e]
theorem stepW_no2 {x y:VoteV} {m:List VoteV} {b:Bool} (h: ¬(b=false/\x.slot<=y.slot)) (e: ¬y.slot=x.slot):stepW x (m,b) y=(m++ [y],b):=by
 unfold stepW;dsimp only;rw[if_neg h,if_neg e]
theorem stepW_yes {x y:VoteV} {m:List VoteV} (h:x.slot<=y.slot) (e:y.slot=x.slot):stepW x (m,false) y=(m++ [x],true):=by
 unfold stepW;simp [h,e]
theorem stepW_yes2 {x y:VoteV} {m:List VoteV} (h:x.slot<=y.slot) (e: ¬y.slot=x.slot):stepW x (m,false) y=(m++ [x]++ [y],true):=by
 unfold stepW;simp [h,e]
theorem foldW_take (x:VoteV) (l:List VoteV) (i:Nat) (h:i<l.length):foldW x (l.take (i+1))=stepW x (foldW x (l.take i)) l[i]:=by
 unfold foldW
 rw[List.take_succ_eq_append_getElem h,List.foldl_append]
 rfl
theorem foldW_mem (x:VoteV) (l:List VoteV): ∀(s:List VoteV × Bool),(∀y∈s.1,y=x\/y∈l)->(s.2=true->x∈s.1)-> ∀(m:List VoteV),(∀y∈m,y∈l)->
  (∀y∈(m.foldl (stepW x) s).1,y=x\/y∈l)/\((m.foldl (stepW x) s).2=true->x∈(m.foldl (stepW x) s).1)
 | s,h1,h2,[],_=>⟨h1,h2⟩
 | s,h1,h2,z::m,h3=>by
  rw[List.foldl_cons]
  have hz:=h3 z List.mem_cons_self
  have key:(∀y∈(stepW x s z).1,y=x\/y∈l)/\((stepW x s z).2=true->x∈(stepW x s z).1):=by
   unfold stepW
   dsimp only
   have k1:(∀y∈(if s.2=false/\x.slot<=z.slot then (s.1++ [x],true) else s).1,y=x\/y∈l)/\((if s.2=false/\x.slot<=z.slot then (s.1++ [x],true) else s).2=true->x∈(if s.2=false/\x.slot<=z.slot then (s.1++ [x],true) else s).1):=by
    split
    ·refine⟨fun y hy=>?_,fun _=>by simp⟩
     rcases List.mem_append.1 hy with q | q
     ·exact h1 y q
     ·exact .inl (List.mem_singleton.1 q)
    ·exact⟨h1,h2⟩
   split
   ·exact k1
   ·refine⟨fun y hy=>?_,fun q=>List.mem_append_left _ (k1.2 q)⟩
    rcases List.mem_append.1 hy with q | q
    ·exact k1.1 y q
    ·exact .inr (by rw[List.mem_singleton.1 q];exact hz)
  exact foldW_mem x l _ key.1 key.2 m (fun y hy=>h3 y (List.mem_cons_of_mem _ hy))
theorem withV_mem {l:List VoteV} {x y:VoteV} (h:y∈withV l x):y=x\/y∈l:=by
 obtain⟨h1, -⟩:=foldW_mem x l ([],false) (fun y hy=>by cases hy) (fun q=>by cases q) l (fun y hy=>hy)
 unfold withV at h
 split at h
 ·exact h1 y h
 ·rcases List.mem_append.1 h with q | q
  ·exact h1 y q
  ·exact .inl (List.mem_singleton.1 q)
theorem mem_withV (l:List VoteV) (x:VoteV):x∈withV l x:=by
 obtain⟨-,h2⟩:=foldW_mem x l ([],false) (fun y hy=>by cases hy) (fun q=>by cases q) l (fun y hy=>hy)
 unfold withV
 split
 ·rename_i q;exact h2 q
 ·simp
def cntB (f:Nat->Bool):Nat->Nat
 | 0=>0
 | j+1=>cntB f j+(if f j=true then 1 else 0)
theorem cntB_meet (f g:Nat->Bool): ∀j,cntB f j+cntB g j<=j\/ ∃i,i<j/\f i=true/\g i=true
 | 0=>.inl (Nat.le_refl _)
 | j+1=>by
  rcases cntB_meet f g j with q | ⟨i,h1,h2,h3⟩
  ·by_cases h:f j=true/\g j=true
   ·exact .inr ⟨j,by omega,h.1,h.2⟩
   ·refine .inl ?_
    rw[cntB,cntB]
    by_cases a:f j=true
    ·have b: ¬g j=true:=fun b=>h ⟨a,b⟩
     rw[if_pos a,if_neg b];omega
    ·rw[if_neg a];split<;>omega
  ·exact .inr ⟨i,by omega,h2,h3⟩
def qsF (g:Nat->Bool) (P:Nat->PromV):Nat->List PromV
 | 0=> []
 | j+1=>if g j=true then qsF g P j++ [P j] else qsF g P j
theorem qsF_len (g:Nat->Bool) (P:Nat->PromV): ∀j,(qsF g P j).length =cntB g j
 | 0=>rfl
 | j+1=>by rw[qsF,cntB];split<;>simp [qsF_len g P j]
theorem qsF_mem {g:Nat->Bool} {P:Nat->PromV} {p:PromV} : ∀j,p∈qsF g P j ↔ ∃i,i<j/\g i=true/\p=P i
 | 0=>by simp [qsF]
 | j+1=>by
  rw[qsF]
  constructor
  ·intro h
   split at h
   ·rename_i hg
    rcases List.mem_append.1 h with q | q
    ·obtain⟨i,h1,h2,h3⟩:=(qsF_mem j).1 q
     exact⟨i,by omega,h2,h3⟩
    ·exact⟨j,by omega,hg,List.mem_singleton.1 q⟩
   ·obtain⟨i,h1,h2,h3⟩:=(qsF_mem j).1 h
    exact⟨i,by omega,h2,h3⟩
  ·rintro ⟨i,h1,h2,h3⟩
   by_cases e:i=j
   ·rw[if_pos (by rw[<-e];exact h2),List.mem_append,List.mem_singleton]
    exact .inr (by rw[h3,e])
   ·have:=(qsF_mem (p:=p) j).2 ⟨i,by omega,h2,h3⟩
    split
    ·exact List.mem_append_left _ this
    ·exact this
theorem qsF_dis {g:Nat->Bool} {P:Nat->PromV} (k:Nat) (h: ∀i j,i<j->j<k->(P i).who ≠(P j).who): ∀j,j<=k->(qsF g P j).Pairwise fun a b=>a.who≠b.who
 | 0,_=>List.Pairwise.nil
 | j+1,hj=>by
  rw[qsF]
  split
  ·refine List.pairwise_append.2 ⟨qsF_dis k h j (by omega),by simp,fun x hx y hy=>?_⟩
   obtain⟨i,h1,h2,h3⟩:=(qsF_mem j).1 hx
   rw[List.mem_singleton] at hy
   rw[h3,hy]
   exact h i j h1 (by omega)
  ·exact qsF_dis k h j (by omega)
def newPr (f:Nat->Bool) (v:VoteV) (O:Nat->PromV) (i:Nat):PromV:=
 if f i=true/\(O i).done <v.slot then { O i with votes:=withV (O i).votes v } else O i
theorem newPr_who (f:Nat->Bool) (v:VoteV) (O:Nat->PromV) (i:Nat):(newPr f v O i).who =(O i).who :=by unfold newPr;split<;>rfl
theorem newPr_done (f:Nat->Bool) (v:VoteV) (O:Nat->PromV) (i:Nat):(newPr f v O i).done =(O i).done :=by unfold newPr;split<;>rfl
theorem newPr_votes {f:Nat->Bool} {v:VoteV} {O:Nat->PromV} {i:Nat} {y:VoteV} (h:y∈(newPr f v O i).votes):y=v\/y∈(O i).votes :=by
 unfold newPr at h
 split at h
 ·exact withV_mem h
 ·exact .inr h
theorem chosen_ok {f g:Nat->Bool} {v:VoteV} {O:Nat->PromV} {k:Nat} (hd: ∀i j,i<j->j<k->(O i).who ≠(O j).who) (hm: ∀i,i<k->mayP (newPr f v O i)=true):
  okS [] (qsF g (newPr f v O) k)=true:=by
 rw[okS_iff]
 refine⟨fun p hp=>?_,qsF_dis k (fun i j h1 h2=>by rw[newPr_who,newPr_who];exact hd i j h1 h2) k (Nat.le_refl _),fun x _ y hy=>by cases hy⟩
 obtain⟨i,h1,h2,h3⟩:=(qsF_mem k).1 hp
 rw[h3]
 exact hm i h1
theorem chosen_at {f g:Nat->Bool} {v:VoteV} {O:Nat->PromV} {k:Nat} (hd: ∀i j,i<j->j<k->(O i).who ≠(O j).who) (hm: ∀i,i<k->mayP (newPr f v O i)=true)
  (hb: ∀i,i<k-> ∀y∈(O i).votes,y.ballot<v.ballot) (hf:k<2*cntB f k) (hg:k<2*cntB g k) {R:PlanV} (hR:planF (sortP (qsF g (newPr f v O) k))=R) (hs:R.done<v.slot):
  v.slot - R.done<=(R.bats.length:Int)/\ ∀n:Nat,v.slot - R.done - 1=(n:Int)->R.bats[n]?=some v.bat:=by
 have hok:=chosen_ok (g:=g) hd hm
 have H:=plan_at hok (by rw[qsF_len];omega)
 rw[hR] at H
 obtain⟨i,hi,fi,gi⟩: ∃i,i<k/\f i=true/\g i=true:=by
  rcases cntB_meet f g k with q | q
  ·omega
  ·exact q
 have hp:newPr f v O i∈qsF g (newPr f v O) k:=(qsF_mem k).2 ⟨i,hi,gi,rfl⟩
 have hdone:=H.most _ hp
 rw[newPr_done] at hdone
 have hv:v∈(newPr f v O i).votes :=by
  unfold newPr
  rw[if_pos ⟨fi,by omega⟩]
  exact mem_withV _ _
 have hc:((newPr f v O i).who,v)∈cand (qsF g (newPr f v O) k):=mem_cand.2 ⟨_,hp,rfl,hv⟩
 refine⟨H.reach _ hc,fun n hn=>?_⟩
 obtain⟨w,hw,e1,e2,e3⟩:=H.win _ hc n hn
 have h9:v.ballot<=w.2.ballot:=e3 _ hc rfl
 obtain⟨p,hp2, -,hwv⟩:=mem_cand.1 hw
 obtain⟨j,hj, -,rfl⟩:=(qsF_mem k).1 hp2
 rcases newPr_votes hwv with q | q
 ·rw[e2,q]
 ·have:=hb j hj _ q
  omega
end Pl
end Go.Proofs.Ytheenjkmglmihaa
