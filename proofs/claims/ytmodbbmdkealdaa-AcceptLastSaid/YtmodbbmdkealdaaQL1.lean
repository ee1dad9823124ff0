/- Texts laid together by program. -/
import Derived.Test.YtmodbbmdkealdaaQT2
/- Votes, and an acceptor, in memory; contracts of package accept: isBallot, isSlot, New, Promise, Ballot, Done. -/
set_option linter.unusedVariables false
set_option maxRecDepth 8000
set_option linter.unusedSimpArgs false
namespace Go.Proofs.Ytmodbbmdkealdaa
open Lib (hid)
open Go.RowKit
namespace Ac
open Cm

section
variable {w w' : World} {g m k : Nat} {s : AccV}
end

theorem Promise_nil (b:Int) (w:World):Calls Try.prog 12 #[.pointer none,.int .i64 b] w (fun e w'=>e= .returned (.int .i64 6)/\w'=w):=by
 go_enter Try.func12,Try.ntmps12
 go_wp2
 go_ret
 exact⟨rfl,rfl⟩
theorem Ballot_nil (w:World):Calls Try.prog 18 #[.pointer none] w (fun e w'=>e= .returned (.int .i64 0)/\w'=w):=by
 go_enter Try.func18,Try.ntmps18
 go_wp2
 go_ret
 exact⟨rfl,rfl⟩
theorem Done_nil (w:World):Calls Try.prog 19 #[.pointer none] w (fun e w'=>e= .returned (.int .i64 0)/\w'=w):=by
 go_enter Try.func19,Try.ntmps19
 go_wp2
 go_ret
 exact⟨rfl,rfl⟩
theorem Votes_nil (w:World):Calls Try.prog 21 #[.pointer none] w (fun e w'=>e= .returned (.slice none 0 0)/\w'=w):=by
 go_enter Try.func21,Try.ntmps21
 go_wp2
 go_ret
 exact⟨rfl,rfl⟩
theorem Trim_nil (d:Int) (w:World):Calls Try.prog 16 #[.pointer none,.int .i64 d] w (fun e w'=>e= .returned (.tuple #[])/\w'=w):=by
 go_enter Try.func16,Try.ntmps16
 go_wp2
 refine bodyPost_ret (by simp [results,Try.results16,go_sem]<;>rfl) rfl ⟨rfl,rfl⟩
end Ac
end Go.Proofs.Ytmodbbmdkealdaa

/- What a vote in place of another leaves; a slice of one vote; Accept of no acceptor. -/
set_option linter.unusedVariables false
set_option maxRecDepth 8000
set_option linter.unusedSimpArgs false
namespace Go.Proofs.Ytmodbbmdkealdaa
open Lib (hid)
open Go.RowKit
namespace Ac
open Cm

theorem putV_mem (v:VoteV): ∀l:List VoteV,v∈putV v l
 | []=>by simp [putV]
 | x::l=>by
  rw[putV]
  split
  ·exact List.mem_cons_self
  ·split
   ·exact List.mem_cons_self
   ·exact List.mem_cons_of_mem _ (putV_mem v l)
theorem putV_others (v:VoteV): ∀l:List VoteV,l.Pairwise (fun x y=>x.slot<y.slot)->(putV v l).filter (fun y=>decide (y.slot≠v.slot))=l.filter fun y=>decide (y.slot≠v.slot)
 | [],_=>by simp [putV]
 | x::l,h=>by
  obtain⟨h1,h2⟩:=List.pairwise_cons.1 h
  rw[putV]
  split
  ·simp
  ·split
   ·rename_i q1 q2
    simp [q2]
   ·rename_i q1 q2
    have q3:x.slot≠v.slot:=fun e=>q2 e.symm
    rw[List.filter_cons,List.filter_cons,putV_others v l h2]
theorem putV_len (v:VoteV): ∀l:List VoteV,l.Pairwise (fun x y=>x.slot<y.slot)->(putV v l).length =(l.filter fun y=>decide (y.slot≠v.slot)).length +1
 | [],_=>by simp [putV]
 | x::l,h=>by
  obtain⟨h1,h2⟩:=List.pairwise_cons.1 h
  rw[putV]
  split
  ·rename_i q
   have:(x::l).filter (fun y=>decide (y.slot≠v.slot))=x::l:=List.filter_eq_self.2 fun y hy=>by
    rcases List.mem_cons.1 hy with e | hy
    ·rw[e];simp;omega
    ·have:=h1 y hy;simp;omega
   rw[this]
   rfl
  ·split
   ·rename_i q1 q2
    have:l.filter (fun y=>decide (y.slot≠v.slot))=l:=List.filter_eq_self.2 fun y hy=>by
     have:=h1 y hy;simp;omega
    rw[List.filter_cons,if_neg (by simp [q2]),this]
    rfl
   ·rename_i q1 q2
    rw[List.filter_cons,if_pos (by simp;omega),List.length_cons,List.length_cons,putV_len v l h2]
theorem rise_inj {l:List VoteV} (h:l.Pairwise fun x y=>x.slot<y.slot) {x y:VoteV} (hx:x∈l) (hy:y∈l) (e:x.slot=y.slot):x=y:=by
 induction l with
 | nil=>cases hx
 | cons z l ih=>
  obtain⟨h1,h2⟩:=List.pairwise_cons.1 h
  rcases List.mem_cons.1 hx with ex | hx'
  ·rcases List.mem_cons.1 hy with ey | hy'
   ·rw[ex,ey]
   ·have:=h1 y hy';rw[<-ex] at this;omega
  ·rcases List.mem_cons.1 hy with ey | hy'
   ·have:=h1 x hx';rw[<-ey] at this;omega
   ·exact ih h2 hx' hy'
theorem putV_same {v:VoteV} {l:List VoteV} (h:l.Pairwise fun x y=>x.slot<y.slot) {x y:VoteV} (hx:x∈l) (hy:y∈putV v l) (e:x.slot=y.slot) (hne:x.slot≠v.slot):x=y:=by
 rcases mem_putV v l y hy with q | q
 ·rw[q] at e;exact absurd e hne
 ·exact rise_inj h hx q e
theorem filter_one {l:List VoteV} (h:l.Pairwise fun x y=>x.slot<y.slot) {x:VoteV} (hx:x∈l):(l.filter fun y=>decide (x.slot=y.slot)).length =1:=by
 induction l with
 | nil=>cases hx
 | cons z l ih=>
  obtain⟨h1,h2⟩:=List.pairwise_cons.1 h
  rcases List.mem_cons.1 hx with rfl | hx
  ·have:l.filter (fun y=>decide (x.slot=y.slot))= []:=List.filter_eq_nil_iff.2 fun y hy=>by
    have:=h1 y hy;simp;omega
   rw[List.filter_cons,if_pos (by simp),this]
   rfl
  ·have:=h1 x hx
   rw[List.filter_cons,if_neg (by simp;omega)]
   exact ih h2 hx
def cntV (l:List VoteV) (t s:Int):Nat:=(l.filter fun y=>decide (t=y.slot/\t≠s)).length
def othV (l:List VoteV) (s:Int):Nat:=(l.filter fun y=>decide (y.slot≠s)).length
theorem cntV_zero (t s:Int):cntV [] t s=0:=rfl
theorem cntV_next (l:List VoteV) (k:Nat) (hk:k<l.length) (t s:Int):cntV (l.take (k+1)) t s=cntV (l.take k) t s+(if t=l[k].slot /\t≠s then 1 else 0):=by
 unfold cntV
 rw[List.take_succ_eq_append_getElem hk,List.filter_append,List.length_append]
 congr 1
 by_cases q:t=l[k].slot /\t≠s
 ·rw[if_pos q,List.filter_cons,if_pos (by simpa using q)];rfl
 ·rw[if_neg q,List.filter_cons,if_neg (by simpa using q)];rfl
theorem othV_next (l:List VoteV) (k:Nat) (hk:k<l.length) (s:Int):othV (l.take (k+1)) s=othV (l.take k) s+(if l[k].slot ≠s then 1 else 0):=by
 unfold othV
 rw[List.take_succ_eq_append_getElem hk,List.filter_append,List.length_append]
 congr 1
 by_cases q:l[k].slot ≠s
 ·rw[if_pos q,List.filter_cons,if_pos (by simpa using q)];rfl
 ·rw[if_neg q,List.filter_cons,if_neg (by simpa using q)];rfl
theorem cntV_put {v:VoteV} {l:List VoteV} (h:l.Pairwise fun x y=>x.slot<y.slot) {x:VoteV} (hx:x∈l):cntV (putV v l) x.slot v.slot=if x.slot≠v.slot then 1 else 0:=by
 unfold cntV
 by_cases q:x.slot≠v.slot
 ·rw[if_pos q]
  have e:(putV v l).filter (fun y=>decide (x.slot=y.slot/\x.slot≠v.slot))=((putV v l).filter fun y=>decide (y.slot≠v.slot)).filter fun y=>decide (x.slot=y.slot):=by
   rw[List.filter_filter]
   apply List.filter_congr
   intro y _
   by_cases e:x.slot=y.slot
   ·rw[<-e];simp [q]
   ·simp [e]
  rw[e,putV_others v l h]
  exact filter_one (h.filter _) (List.mem_filter.2 ⟨hx,by simpa using q⟩)
 ·rw[if_neg q]
  have:(putV v l).filter (fun y=>decide (x.slot=y.slot/\x.slot≠v.slot))= []:=List.filter_eq_nil_iff.2 fun y _=>by simp [q]
  rw[this]
  rfl
theorem RdX.sub1 {α:Type} {sz:Nat} {f:α->List Value} {w:World} {b o n cap:Nat} {l:List α} (h:RdX sz f w (.slice (some ⟨b,o,none⟩) n cap) l) (i:Nat) (hi:i<l.length) (c:Nat) (hc:1<=c) (hm:c<=maxLen):RdX sz f w (.slice (some ⟨b,o+i*sz,none⟩) 1 c) [l[i]]:=by
 refine⟨some ⟨b,o+i*sz,none⟩,c,rfl,hc,hm,fun q=>(by cases q),fun x hx hp=>?_⟩
 cases hx
 refine⟨rfl,fun j hj k u hu=>?_⟩
 obtain rfl:j=0:=by simpa using hj
 obtain⟨b',o',e,hcl⟩:=RdX.at h i hi
 cases e
 have:=hcl w (Below.refl _ _) k u hu
 rw[show o+i*sz+(0*sz+k)=o+(i*sz+k) by omega]
 exact this
theorem RdV.sub1 {w:World} {b o n cap:Nat} {L:List VoteC} (h:RdV w (.slice (some ⟨b,o,none⟩) n cap) L) (i:Nat) (hi:i<L.length) (c:Nat) (hc:1<=c) (hm:c<=maxLen):RdV w (.slice (some ⟨b,o+i*8,none⟩) 1 c) [L[i]]:=
 ⟨RdX.sub1 h.row i hi c hc hm,fun x hx=>by rw[List.mem_singleton.1 hx];exact h.reqs _ (List.getElem_mem hi)⟩
theorem RdX.cap {α:Type} {sz:Nat} {f:α->List Value} {w:World} {a:Option Addr} {n cap:Nat} {l:List α} (h:RdX sz f w (.slice a n cap) l):l.length<=cap/\cap<=maxLen:=by
 obtain⟨a',cap',e,h1,h2,_⟩:=h.ex
 cases e
 exact⟨h1,h2⟩
theorem Accept_nil (b t:Int) (x:BatV) (u:Value) (w:World):Calls Try.prog 14 #[.pointer none,.int .i64 b,.int .i64 t,batVal x u] w (fun e w'=>e= .returned (.int .i64 6)/\Below w.heap.size w w'):=by
 unfold batVal
 go_enter Try.func14,Try.ntmps14
 go_wp2
 go_ret
 exact⟨rfl,newAlloc _ _⟩
end Ac
end Go.Proofs.Ytmodbbmdkealdaa
