/- Texts laid together by program. -/
import Derived.Test.YtbpmfjjbfiiiaaaQT5
import Derived.Test.YtbpmfjjbfiiiaaaQ21
import Derived.Test.YtbpmfjjbfiiiaaaProg
import Derived.BigQuiet
/- Contracts of package view, and of the document's answers for it: quorums, leaders, who leads next. -/
set_option linter.unusedVariables false
set_option maxRecDepth 8000
set_option linter.unusedSimpArgs false
namespace Go.Proofs.Ytbpmfjjbfiiiaaa
open Lib (hid)
open Go.RowKit
namespace Vw

theorem high12_any (v:Int) (w:World):Calls Try.prog 54 #[.int .i64 v,.int .i64 0] w (Tells (.bool (hiF v)) w):=by
  unfold hiF withinF
  by_cases h1:0<=v<;>by_cases h2:v<=2305843009213693952<;>
    (go_enter Try.func54,Try.ntmps54
     go_wp2
     go_ret
     exact⟨by simp [h1,h2]<;>omega,rfl⟩)
end Vw
end Go.Proofs.Ytbpmfjjbfiiiaaa

/- The developers' lead in memory; its methods that are short; all methods of nil. -/
set_option linter.unusedVariables false
set_option maxRecDepth 8000
set_option linter.unusedSimpArgs false
namespace Go.Proofs.Ytbpmfjjbfiiiaaa
open Lib (hid)
open Go.RowKit
namespace Ld
open Cm Ac Pl Vw

section
variable {base : Nat} {w w' : World} {v : Value} {L : List BatC}
end

section
variable {w w' : World} {g m : Nat} {s : LedV} {pv bv : Value}
theorem HasL.ls_lt (h:HasL w g m s pv bv): ∀k,LS g pv bv k->k<w.heap.size:=by
 rintro k (rfl | q | q)
 ·exact h.lt
 ·obtain⟨P,_,h2⟩:=h.ps
  exact(Rw.own_lt h2.row k q).2
 ·obtain⟨B,_,h4⟩:=h.bs
  exact(h4.row.lt k q).2
end

theorem LPhase_nil (w:World):Calls Try.prog 21 #[.pointer none] w (Tells (.int .i64 0) w):=by
 go_enter Try.func21,Try.ntmps21
 go_wp2
 go_ret
 exact⟨rfl,rfl⟩
theorem LView_nil (w:World):Calls Try.prog 23 #[.pointer none] w (Tells (.int .i64 0) w):=by
 go_enter Try.func23,Try.ntmps23
 go_wp2
 go_ret
 exact⟨rfl,rfl⟩
theorem LNext_nil (w:World):Calls Try.prog 8 #[.pointer none] w (Tells (.int .i64 0) w):=by
 go_enter Try.func8,Try.ntmps8
 go_wp2
 go_ret
 exact⟨rfl,rfl⟩
end Ld
end Go.Proofs.Ytbpmfjjbfiiiaaa

/- Stop, Begin, Last; the methods of nil. -/
set_option linter.unusedVariables false
set_option maxRecDepth 8000
set_option linter.unusedSimpArgs false
namespace Go.Proofs.Ytbpmfjjbfiiiaaa
open Lib (hid)
open Go.RowKit
namespace Ld
open Cm Ac Pl Vw

section
variable {w w' : World} {g m : Nat} {s : LedV} {pv bv : Value}
end
theorem LLast_nil (w:World):Calls Try.prog 15 #[.pointer none] w (fun e w'=>e= .returned (.tuple #[.agg #[.int .i64 0,.int .i64 0],.int .i64 0])/\Below w.heap.size w w'):=by
 have hb:=newAlloc w (.cells #[.int .i64 0,.int .i64 0] 28)
 have k:=alloc_atB w (.cells #[.int .i64 0,.int .i64 0] 28) _ rfl
 obtain⟨W1,hW1⟩: ∃W1,W1=w.alloc (.cells #[.int .i64 0,.int .i64 0] 28):=⟨_,rfl⟩
 rw[<-hW1] at hb k
 have e0:=cell_at k 0
 have e1:=cell_at k 1
 have ef:=frozen_at k
 simp at e0 e1
 have HB:=hid hb
 clear hb k
 go_enter Try.func15,Try.ntmps15
 go_upto_region 1 with fail
 rw[<-hW1]
 clear hW1
 go_wp2
 refine bodyPost_ret (by simp [results,Try.results15,go_sem,e0,e1]<;>rfl) rfl ⟨rfl,?_⟩
 exact(HB.out.setCell (p:=⟨w.heap.size,0,none⟩) (Nat.le_refl _) _).setCell (p:=⟨w.heap.size,1,none⟩) (Nat.le_refl _) _
theorem LStop_nil (w:World):Calls Try.prog 24 #[.pointer none] w (fun e w'=>e= .returned (.tuple #[])/\w'=w):=by
 go_enter Try.func24,Try.ntmps24
 go_wp2
 go_end0
 exact⟨rfl,rfl⟩
theorem LTrim_nil (d:Int) (w:World):Calls Try.prog 25 #[.pointer none,.int .i64 d] w (fun e w'=>e= .returned (.tuple #[])/\w'=w):=by
 go_enter Try.func25,Try.ntmps25
 go_wp2
 refine bodyPost_ret (by simp [results,Try.results25,go_sem]<;>rfl) rfl ⟨rfl,rfl⟩
theorem LBegin_nil (v:Int) (w:World):Calls Try.prog 19 #[.pointer none,.int .i64 v] w (Tells (.int .i64 6) w):=by
 go_enter Try.func19,Try.ntmps19
 go_wp2
 go_ret
 exact⟨rfl,rfl⟩
theorem LHeard_nil (w:World):Calls Try.prog 22 #[.pointer none] w (Tells (.slice none 0 0) w):=by
 go_enter Try.func22,Try.ntmps22
 go_wp2
 go_ret
 exact⟨rfl,rfl⟩
theorem LSlots_nil (d:Int) (w:World):Calls Try.prog 13 #[.pointer none,.int .i64 d] w (Tells (.slice none 0 0) w):=by
 go_enter Try.func13,Try.ntmps13
 go_wp2
 go_ret
 exact⟨rfl,rfl⟩
theorem LAdd_nil (d t:Int) (v:Value) (w:World):Calls Try.prog 9 #[.pointer none,.int .i64 d,.int .i64 t,v] w (Tells (.tuple #[.int .i64 0,.int .i64 6]) w):=by
 go_enter Try.func9,Try.ntmps9
 go_wp2
 go_ret2
 exact⟨rfl,rfl⟩
theorem LHear_nil (p:PromC) (w:World):Calls Try.prog 18 #[.pointer none,promVal p] w (fun e w'=>e= .returned (.tuple #[.bool false,.int .i64 6])/\Below w.heap.size w w'):=by
 obtain⟨pw,pd,pv,ps,pt,l,a,c⟩:=p
 unfold promVal PromC.u
 dsimp only
 generalize l.length=N
 have HB:=hid (newAlloc w (.cells #[.int .i64 pw,.int .i64 pd,.int .i64 pv,.int .i64 ps,.int .i64 pt,.slice a N c] 59))
 go_enter Try.func18,Try.ntmps18
 go_wp2
 go_ret2
 exact⟨rfl,HB.out⟩
end Ld
end Go.Proofs.Ytbpmfjjbfiiiaaa

/- The document's plan is the program's: who has the greatest ballot for a slot. No program is named here. -/
set_option linter.unusedVariables false
set_option maxRecDepth 8000
set_option linter.unusedSimpArgs false
namespace Go.Proofs.Ytbpmfjjbfiiiaaa
open Lib (hid)
open Go.RowKit
namespace Pl
open Cm Ac

def IsBest (l:List PromV) (x:PromV):Prop:=x∈l/\ ∀y∈l,y.done<x.done\/y.done=x.done/\x.who<=y.who
theorem bestR_is: ∀(l:List PromV) (p:PromV),IsBest (p::l) (bestR p l)
 | [],p=>⟨List.mem_cons_self,fun y hy=>by rw[List.mem_singleton] at hy;subst hy;exact .inr ⟨rfl,Int.le_refl _⟩⟩
 | x::l,p=>by
  rw[bestR]
  obtain⟨h1,h2⟩:=bestR_is l (pickP p x)
  have hp:pickP p x=p\/pickP p x=x:=by unfold pickP;split<;>simp
  have h3:=h2 _ List.mem_cons_self
  have ha:p.done<(pickP p x).done \/p.done=(pickP p x).done /\(pickP p x).who <=p.who:=by
   unfold pickP
   split
   ·rename_i q;rcases q with q | q<;>omega
   ·omega
  have hb:x.done<(pickP p x).done \/x.done=(pickP p x).done /\(pickP p x).who <=x.who:=by
   unfold pickP
   split
   ·omega
   ·rename_i q
    have q1: ¬p.done<x.done:=fun r=>q (.inl r)
    have q2:x.done=p.done-> ¬x.who<p.who:=fun r s=>q (.inr ⟨r,s⟩)
    omega
  refine⟨?_,fun y hy=>?_⟩
  ·rcases List.mem_cons.1 h1 with e | e
   ·rw[e]
    rcases hp with e2 | e2<;>rw[e2]<;>simp
   ·exact List.mem_cons_of_mem _ (List.mem_cons_of_mem _ e)
  ·rcases List.mem_cons.1 hy with rfl | hy
   ·omega
   ·rcases List.mem_cons.1 hy with rfl | hy
    ·omega
    ·exact h2 y (List.mem_cons_of_mem _ hy)
theorem newF_is: ∀(l:List PromV) (p:PromV),(p::l).Pairwise (fun a b=>a.who<b.who)->IsBest (p::l) (newF p l)
 | [],p,_=>⟨List.mem_cons_self,fun y hy=>by rw[List.mem_singleton] at hy;subst hy;exact .inr ⟨rfl,Int.le_refl _⟩⟩
 | x::l,p,h=>by
  obtain⟨h1,h2⟩:=List.pairwise_cons.1 h
  obtain⟨h3,h4⟩:=List.pairwise_cons.1 h2
  have hpx:=h1 x List.mem_cons_self
  rw[newF]
  by_cases c:p.done<x.done
  ·rw[if_pos c]
   obtain⟨i1,i2⟩:=newF_is l x h2
   have i3:=i2 x List.mem_cons_self
   refine⟨List.mem_cons_of_mem _ i1,fun y hy=>?_⟩
   rcases List.mem_cons.1 hy with rfl | hy
   ·omega
   ·exact i2 y hy
  ·rw[if_neg c]
   obtain⟨i1,i2⟩:=newF_is l p (List.pairwise_cons.2 ⟨fun y hy=>h1 y (List.mem_cons_of_mem _ hy),h4⟩)
   have i3:=i2 p List.mem_cons_self
   refine⟨?_,fun y hy=>?_⟩
   ·rcases List.mem_cons.1 i1 with e | e
    ·rw[e];exact List.mem_cons_self
    ·exact List.mem_cons_of_mem _ (List.mem_cons_of_mem _ e)
   ·rcases List.mem_cons.1 hy with rfl | hy
    ·exact i3
    ·rcases List.mem_cons.1 hy with rfl | hy
     ·omega
     ·exact i2 y (List.mem_cons_of_mem _ hy)
theorem who_eq {l:List PromV} (h:l.Pairwise fun a b=>a.who≠b.who) {x y:PromV} (hx:x∈l) (hy:y∈l) (e:x.who=y.who):x=y:=by
 obtain⟨i,hi,rfl⟩:=List.mem_iff_getElem.1 hx
 obtain⟨j,hj,rfl⟩:=List.mem_iff_getElem.1 hy
 rcases Nat.lt_trichotomy i j with q | q | q
 ·exact absurd e (List.pairwise_iff_getElem.1 h i j hi hj q)
 ·subst q;rfl
 ·exact absurd e.symm (List.pairwise_iff_getElem.1 h j i hj hi q)
theorem IsBest.unique {l m:List PromV} {x y:PromV} (hx:IsBest l x) (hy:IsBest m y) (hm: ∀z,z∈l ↔ z∈m) (hd:l.Pairwise fun a b=>a.who≠b.who):x=y:=by
 have h1:=hx.2 y ((hm y).2 hy.1)
 have h2:=hy.2 x ((hm x).1 hx.1)
 exact who_eq hd hx.1 ((hm y).2 hy.1) (by omega)
theorem topT_cand (t:Int): ∀(l:List PromV) (s:TopV),topT t s l=(cand l).foldl (fun s c=>stepT t c.1 s c.2) s
 | [],s=>rfl
 | p::l,s=>by
  show topT t (votesT t p.who s p.votes) l= _
  rw[topT_cand t l]
  show _=(p.votes.map (fun v=>(p.who,v))++cand l).foldl _ s
  rw[List.foldl_append,List.foldl_map]
  rfl
def TopS (C:List (Int × VoteV)) (t:Int) (T:TopV):Prop:=
 (T=top0/\ ∀c∈C,c.2.slot≠t)\/ ∃c∈C,c.2.slot=t/\T=⟨c.2.bat,c.2.ballot,c.1⟩/\ ∀c'∈C,c'.2.slot=t->c'.2.ballot<c.2.ballot\/c'.2.ballot=c.2.ballot/\c.1<=c'.1
theorem TopS.step {C:List (Int × VoteV)} {t:Int} {T:TopV} (h:TopS C t T) (c:Int × VoteV) (hb:0<=c.2.ballot):TopS (C++ [c]) t (stepT t c.1 T c.2):=by
 by_cases hs:c.2.slot=t
 case neg=>
  rw[stepT_no (fun q=>hs q.1)]
  rcases h with ⟨h1,h2⟩ | ⟨x,hx,h1,h2,h3⟩
  ·refine .inl ⟨h1,fun y hy=>?_⟩
   rcases List.mem_append.1 hy with hy | hy
   ·exact h2 y hy
   ·rw[List.mem_singleton] at hy;rw[hy];exact hs
  ·refine .inr ⟨x,List.mem_append_left _ hx,h1,h2,fun y hy q=>?_⟩
   rcases List.mem_append.1 hy with hy | hy
   ·exact h3 y hy q
   ·rw[List.mem_singleton] at hy;rw[hy] at q;exact absurd q hs
 rcases h with ⟨h1,h2⟩ | ⟨x,hx,h1,h2,h3⟩
 ·rw[stepT_yes hs (by rw[h1];exact .inl (by show(-1:Int)< _;omega))]
  refine .inr ⟨c,List.mem_append_right _ List.mem_cons_self,hs,rfl,fun y hy q=>?_⟩
  rcases List.mem_append.1 hy with hy | hy
  ·exact absurd q (h2 y hy)
  ·rw[List.mem_singleton] at hy;rw[hy];exact .inr ⟨rfl,Int.le_refl _⟩
 ·by_cases hc:T.ballot<c.2.ballot\/c.2.ballot=T.ballot/\c.1<T.who
  ·rw[stepT_yes hs hc]
   have e1:T.ballot=x.2.ballot:=by rw[h2]
   have e2:T.who=x.1:=by rw[h2]
   refine .inr ⟨c,List.mem_append_right _ List.mem_cons_self,hs,rfl,fun y hy q=>?_⟩
   rcases List.mem_append.1 hy with hy | hy
   ·have:=h3 y hy q
    omega
   ·rw[List.mem_singleton] at hy;rw[hy];exact .inr ⟨rfl,Int.le_refl _⟩
  ·rw[stepT_no (fun q=>hc q.2)]
   have e1:T.ballot=x.2.ballot:=by rw[h2]
   have e2:T.who=x.1:=by rw[h2]
   refine .inr ⟨x,List.mem_append_left _ hx,h1,h2,fun y hy q=>?_⟩
   rcases List.mem_append.1 hy with hy | hy
   ·exact h3 y hy q
   ·rw[List.mem_singleton] at hy
    rw[hy]
    have q1: ¬T.ballot<c.2.ballot:=fun r=>hc (.inl r)
    have q2:c.2.ballot=T.ballot-> ¬c.1<T.who:=fun r s=>hc (.inr ⟨r,s⟩)
    omega
theorem TopS.fold {t:Int} : ∀(D C:List (Int × VoteV)) (T:TopV),TopS C t T->(∀c∈D,0<=c.2.ballot)->TopS (C++D) t (D.foldl (fun s c=>stepT t c.1 s c.2) T)
 | [],C,T,h,_=>by rw[List.append_nil];exact h
 | c::D,C,T,h,hb=>by
  have:=TopS.fold D (C++ [c]) _ (h.step c (hb c List.mem_cons_self)) (fun x hx=>hb x (List.mem_cons_of_mem _ hx))
  rw[List.append_assoc] at this
  exact this
theorem topT_is (t:Int) (l:List PromV) (h: ∀p∈l,mayP p=true):TopS (cand l) t (topT t top0 l):=by
 rw[topT_cand]
 have:=TopS.fold (t:=t) (cand l) [] top0 (.inl ⟨rfl,fun c hc=>by cases hc⟩) (fun c hc=>by
  obtain⟨p,hp,_,h2⟩:=mem_cand.1 hc
  exact((mayP_ok (h p hp)).votes c.2 h2).b0)
 exact this
theorem last_most {l:List VoteV} (h:l.Pairwise fun x y=>x.slot<y.slot) {v:VoteV} (hv:l.getLast?=some v): ∀x∈l,x.slot<=v.slot:=by
 intro x hx
 have hn:l≠ []:=fun q=>by rw[q] at hv;cases hv
 have e:l.getLast hn=v:=by rw[List.getLast?_eq_some_getLast hn] at hv;cases hv;rfl
 obtain⟨i,hi,rfl⟩:=List.mem_iff_getElem.1 hx
 rw[List.getLast_eq_getElem] at e
 by_cases q:i=l.length - 1
 ·subst q;rw[e];exact Int.le_refl _
 ·have:=List.pairwise_iff_getElem.1 h i (l.length - 1) hi (by omega) (by omega)
  rw[e] at this
  omega
theorem lastR_is {d:Int} : ∀(l m:List PromV) (k:Int),LS (cand m) d k->(∀p∈l,mayP p=true)->LS (cand (m++l)) d (l.foldl endM k)
 | [],m,k,h,_=>by rw[List.append_nil];exact h
 | p::l,m,k,h,hp=>by
  rw[List.foldl_cons,show m++p::l=(m++ [p])++l by simp]
  refine lastR_is l (m++ [p]) _ ?_ (fun q hq=>hp q (List.mem_cons_of_mem _ hq))
  have hr:=(mayP_ok (hp p List.mem_cons_self)).rise
  have hc: ∀c,c∈cand (m++ [p]) ↔ c∈cand m\/c.1=p.who/\c.2∈p.votes:=fun c=>by
   rw[mem_cand,mem_cand]
   simp only[List.mem_append,List.mem_singleton]
   constructor
   ·rintro ⟨q,hq | rfl,h⟩
    ·exact .inl ⟨q,hq,h⟩
    ·exact .inr h
   ·rintro (⟨q,hq,h⟩ | h)
    ·exact⟨q,.inl hq,h⟩
    ·exact⟨p,.inr rfl,h⟩
  unfold endM
  split
  ·rename_i hv
   rw[List.getLast?_eq_none_iff] at hv
   refine⟨h.low,fun c hcc=>?_,h.some_.imp id (fun⟨c,h1,h2⟩=>⟨c,(hc c).2 (.inl h1),h2⟩)⟩
   rcases (hc c).1 hcc with q | ⟨_,q⟩
   ·exact h.most c q
   ·rw[hv] at q;cases q
  ·rename_i v hv
   have hm:=last_most hr hv
   have hvm:=List.mem_of_getLast? hv
   have hlow:=h.low
   refine⟨by omega,fun c hcc=>?_,?_⟩
   ·rcases (hc c).1 hcc with q | ⟨_,q⟩
    ·have:=h.most c q
     omega
    ·have:=hm c.2 q
     omega
   ·rcases Int.le_total k v.slot with q | q
    ·exact .inr ⟨(p.who,v),(hc _).2 (.inr ⟨rfl,hvm⟩),by show v.slot=max k v.slot;omega⟩
    ·rw[Int.max_eq_left q]
     exact h.some_.imp id (fun⟨c,h1,h2⟩=>⟨c,(hc c).2 (.inl h1),h2⟩)
theorem slot_eq {l:List VoteV} (h:l.Pairwise fun x y=>x.slot<y.slot) {x y:VoteV} (hx:x∈l) (hy:y∈l) (e:x.slot=y.slot):x=y:=by
 obtain⟨i,hi,rfl⟩:=List.mem_iff_getElem.1 hx
 obtain⟨j,hj,rfl⟩:=List.mem_iff_getElem.1 hy
 rcases Nat.lt_trichotomy i j with q | q | q
 ·have:=List.pairwise_iff_getElem.1 h i j hi hj q;omega
 ·subst q;rfl
 ·have:=List.pairwise_iff_getElem.1 h j i hj hi q;omega
theorem cand_unique {l:List PromV} (h: ∀p∈l,mayP p=true) (hd:l.Pairwise fun a b=>a.who≠b.who) {x y:Int × VoteV} (hx:x∈cand l) (hy:y∈cand l) (ew:x.1=y.1) (es:x.2.slot=y.2.slot):x.2=y.2:=by
 obtain⟨p,hp,e1,h1⟩:=mem_cand.1 hx
 obtain⟨q,hq,e2,h2⟩:=mem_cand.1 hy
 have:=who_eq hd hp hq (by rw[<-e1,<-e2];exact ew)
 subst this
 exact slot_eq (mayP_ok (h p hp)).rise h1 h2 es
theorem top_vs {l m:List PromV} (h: ∀p∈l,mayP p=true) (hd:l.Pairwise fun a b=>a.who≠b.who) (hm: ∀c,c∈cand m ↔ c∈cand l) {t:Int} (ht:t≠0) {T:TopV} {v:VoteV} (h1:TopS (cand l) t T) (h2:VS (cand m) t v):T.bat=batOf v:=by
 rcases h1 with ⟨a1,a2⟩ | ⟨x,hx,a1,a2,a3⟩
 ·rcases h2 with ⟨b1,b2⟩ | ⟨y,hy,b1,b2,b3⟩
  ·rw[a1,b1];rfl
  ·exact absurd b1 (a2 y ((hm y).1 hy))
 ·rcases h2 with ⟨b1,b2⟩ | ⟨y,hy,b1,b2,b3⟩
  ·exact absurd a1 (b2 x ((hm x).2 hx))
  ·have c1:=a3 y ((hm y).1 hy) b1
   have c2:=b3 x ((hm x).2 hx) a1
   have e:=cand_unique h hd hx ((hm y).1 hy) (by omega) (by rw[a1,b1])
   rw[a2,b2]
   unfold batOf
   rw[if_neg (by rw[b1];exact ht),e]
theorem make_same (l:List PromV):makeR l=makeF l:=by
 unfold makeR makeF
 by_cases h0:l.length=0
 ·rw[if_pos h0,if_pos h0]
 rw[if_neg h0,if_neg h0]
 cases hok:okS [] l
 ·rfl
 rw[if_neg (by decide),if_neg (by decide)]
 obtain⟨hall,hdis, -⟩:=(okS_iff l []).1 hok
 have hperm:=sortP_perm l
 have hstr:=sortP_strict hok
 have hmem: ∀z,z∈l ↔ z∈sortP l:=fun z=>hperm.mem_iff.symm
 have hall2: ∀p∈sortP l,mayP p=true:=fun p hp=>hall p ((hmem p).2 hp)
 have hcm: ∀c,c∈cand (sortP l) ↔ c∈cand l:=fun c=>by
  rw[mem_cand,mem_cand]
  constructor
  ·rintro ⟨p,hp,h⟩;exact⟨p,(hmem p).2 hp,h⟩
  ·rintro ⟨p,hp,h⟩;exact⟨p,(hmem p).1 hp,h⟩
 obtain⟨p,r,hl⟩: ∃p r,l=p::r:=by
  match l,h0 with
  | p::r,_=>exact⟨p,r,rfl⟩
 obtain⟨p',r',hs⟩: ∃p' r',sortP l=p'::r':=by
  have:(sortP l).length ≠0:=by rw[sortP_length];exact h0
  match sortP l,this with
  | p::r,_=>exact⟨p,r,rfl⟩
 have hb:bestR p r=newF p' r':=IsBest.unique (bestR_is r p) (newF_is r' p' (by rw[<-hs];exact hstr)) (fun z=>by rw[<-hl,<-hs];exact hmem z) (by rw[<-hl];exact hdis)
 obtain⟨x,hx⟩: ∃x,newF p' r'=x:=⟨_,rfl⟩
 have hxm:x∈sortP l:=by rw[hs,<-hx];exact newF_mem r' p'
 have hxo:=mayP_ok (hall2 x hxm)
 have hmost: ∀q∈sortP l,q.done<=x.done:=fun q hq=>by rw[<-hx];exact newF_most r' p' q (by rw[<-hs];exact hq)
 have hB:=bestB_is hall2 (sortP_rise l) hxo.d0 hmost
 have hL:=lastR_is (d:=x.done) l [] x.done ⟨Int.le_refl _,fun c hc=>(by cases hc),.inl rfl⟩ hall
 rw[List.nil_append] at hL
 have hcount:lastR x.done l - x.done=(bestB x.done newB (sortP l)).count :=by
  have e:lastR x.done l=l.foldl endM x.done:=rfl
  rw[e]
  have a1:=hL.low
  have a2:=hB.c0
  have a3:l.foldl endM x.done - x.done<=(bestB x.done newB (sortP l)).count :=by
   rcases hL.some_ with q | ⟨c,hc,q⟩
   ·omega
   ·have:=hB.most c ((hcm c).2 hc)
    omega
  have a4:(bestB x.done newB (sortP l)).count <=l.foldl endM x.done - x.done:=by
   rcases hB.some_ with q | ⟨c,hc,q⟩
   ·omega
   ·have:=hL.most c ((hcm c).1 hc)
    omega
  omega
 have hc9:(bestB x.done newB (sortP l)).count <=9:=by
  rcases hB.some_ with q | ⟨c,hc,q⟩
  ·omega
  ·obtain⟨z,hz,_,hv⟩:=mem_cand.1 hc
   have h1:=((mayP_ok (hall2 z hz)).votes c.2 hv).most
   have h2:=hmost z hz
   omega
 have hbats:batsR l x.done (lastR x.done l - x.done).toNat =batsF (sortP l) x.done:=by
  rw[hcount]
  unfold batsR batsF
  have hc0:=hB.c0
  have hlen:=hB.len
  apply List.ext_getElem
  ·simp only[List.length_map,List.length_range,List.length_take,hlen]
   omega
  ·intro i h1 h2
   have hi:i<(bestB x.done newB (sortP l)).count.toNat :=by simpa using h1
   have hi9:i<9:=by omega
   simp only[List.getElem_map,List.getElem_range,List.getElem_take]
   have hv:=hB.row i hi9
   have ht:=topT_is (x.done+1+(i:Int)) l hall
   have hxd:=hxo.d0
   have:=top_vs hall hdis hcm (by omega) ht hv
   unfold highR
   rw[this,List.getD_eq_getElem?_getD,List.getElem?_eq_getElem (by omega),Option.getD_some]
 have e1:planR l=(let b:=batsR l x.done (lastR x.done l - x.done).toNat;let e:=walkF ⟨x.tv,x.ts,x.time⟩ (startF (x.done+1)) b;(⟨x.done,x.tv,x.ts,x.time,b,e.tv,e.ts,e.time⟩:PlanV)):=by
  rw[<-hx,<-hb,hl]
  rfl
 have e2:planF (sortP l)=(let b:=batsF (sortP l) x.done;let e:=walkF ⟨x.tv,x.ts,x.time⟩ (startF (x.done+1)) b;(⟨x.done,x.tv,x.ts,x.time,b,e.tv,e.ts,e.time⟩:PlanV)):=by
  rw[<-hx,hs]
  rfl
 rw[e1,e2,hbats]
end Pl
end Go.Proofs.Ytbpmfjjbfiiiaaa
