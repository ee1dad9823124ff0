/- Texts laid together by program. -/
import Derived.Test.YtclcgkpfcogcdaaGreatQ48
/- Who comes in time stays, who does not is gone: pure. -/
set_option linter.unusedVariables false
set_option maxRecDepth 8000
set_option linter.unusedSimpArgs false
namespace Go.Proofs.YtclcgkpfcogcdaaGreat
open Lib (hid)
open Go.RowKit
namespace Cm

/-! ### times of made states -/
structure Few11 (k:Nat) (s:StV):Prop where
 time:s.time<=16*k
 ren: ∀x∈s.ses,x.ren<=s.time
theorem Few11.zero:Few11 0 zeroSt:=⟨by decide,fun x hx=>by cases hx⟩
theorem does_time (s:StV) (r:ReqV):(doesA s r).1.time =s.time:=by
 unfold doesA
 split
 ·unfold openA
  split
  ·rfl
  ·split<;>rfl
 ·split
  ·rfl
  ·unfold cmdA
   split
   ·rfl
   ·split
    ·rfl
    ·split<;>rfl
theorem renew_ren {l:List SesV} {c t:Int} (h: ∀x∈l,x.ren<=t): ∀x∈l.map (renewE c t),x.ren<=t:=by
 intro x hx
 obtain⟨y,hy,rfl⟩:=List.mem_map.1 hx
 have:=h y hy
 unfold renewE
 split
 ·dsimp only;split<;>omega
 ·exact this
theorem renewS_ren {l:List SesV} {c t:Int} (h: ∀x∈l,x.ren<=t): ∀x∈(renewS l c t).1,x.ren<=t:=by
 unfold renewS
 split
 ·exact fun x hx=>by cases hx
 ·split
  ·exact fun x hx=>by cases hx
  ·exact renew_ren h
theorem openS_ren {l:List SesV} {c n t:Int} (h: ∀x∈l,x.ren<=t): ∀x∈(openS l c n t).1,x.ren<=t:=by
 unfold openS
 split
 ·exact fun x hx=>by cases hx
 ·split
  ·exact fun x hx=>by cases hx
  ·split
   ·exact fun x hx=>by cases hx
   ·split
    ·exact fun x hx=>by cases hx
    ·intro x hx
     rcases (putS_mem _ _ _).1 hx with q | q
     ·rw[q];exact Int.le_refl _
     ·exact h x q
theorem closeAll_sub (l:List SesV) (G:List Int): ∀x∈closeAll l G,x∈l:=by
 intro x hx
 rw[closeAll_eq] at hx
 exact(List.mem_filter.1 hx).1
theorem does_ren {s:StV} (h: ∀x∈s.ses,x.ren<=s.time) (r:ReqV): ∀x∈(doesA s r).1.ses,x.ren<=s.time:=by
 unfold doesA
 split
 ·unfold openA
  split
  ·exact h
  ·split
   ·exact openS_ren h
   ·exact h
 ·split
  ·exact h
  ·have h2: ∀x∈(renewedA s r.client).ses,x.ren<=s.time:=renewS_ren h
   unfold cmdA
   split
   ·exact h2
   ·split
    ·exact h2
    ·split
     ·exact fun x hx=>h2 x (closeAll_sub _ _ x hx)
     ·exact h2
theorem apply_ren {s:StV} (h: ∀x∈s.ses,x.ren<=s.time) (r:ReqV):(applyA s r).1.time =s.time/\ ∀x∈(applyA s r).1.ses,x.ren<=s.time:=by
 unfold applyA
 split
 ·exact⟨rfl,h⟩
 ·split
  ·exact⟨rfl,h⟩
  ·split
   ·exact⟨rfl,h⟩
   ·exact⟨does_time s r,does_ren h r⟩
theorem timeA_ge (s:StV) (t:Int):s.time<=timeA s t:=by unfold timeA;split<;>omega
theorem timeA_le {s:StV} {t B:Int} (h:s.time<=B) (ht:t<=B):timeA s t<=B:=by unfold timeA;split<;>omega
theorem adv_ren {s:StV} (h: ∀x∈s.ses,x.ren<=s.time) (t d:Int):(advA s t d).time =timeA s t/\ ∀x∈(advA s t d).ses,x.ren<=timeA s t:=by
 refine⟨rfl,fun x hx=>?_⟩
 have:=h x (closeAll_sub _ _ x hx)
 have:=timeA_ge s t
 omega
theorem Few11.next {k:Nat} {s:StV} (h:Few11 k s) (a:Act10) (d:Int):Few11 (k+1) (stepA d s a):=by
 obtain⟨e1,e2⟩:=adv_ren h.ren (s.time+((a.time % 16:Nat):Int)) d
 have hA: ∀x∈(atA s a d).ses,x.ren<=(atA s a d).time :=e2
 obtain⟨f1,f2⟩:=apply_ren hA (requestA (atA s a d) a)
 have ht:=h.time
 have hb:(atA s a d).time <=16*((k+1:Nat):Int):=timeA_le (by omega) (by omega)
 exact⟨by show(applyA (atA s a d) (requestA (atA s a d) a)).1.time <=_;rw[f1];exact hb,fun x hx=>by show x.ren<=(applyA (atA s a d) (requestA (atA s a d) a)).1.time;rw[f1];exact f2 x hx⟩
theorem made_eleven (d:Int) (L:List Act10): ∀k:Nat,k<=L.length->Few11 k (madeA d (L.take k))
 | 0,_=>Few11.zero
 | k+1,h=>by rw[madeA_succ d L k (by omega)];exact(made_eleven d L k (by omega)).next _ d
theorem made_time (d:Int) (L:List Act10):(madeA d (L.take 60)).time <=960/\ ∀x∈(madeA d (L.take 60)).ses,x.ren<=(madeA d (L.take 60)).time :=by
 by_cases h:60<=L.length
 ·have:=made_eleven d L 60 h
  exact⟨by have:=this.time;omega,this.ren⟩
 ·have e:L.take 60=L.take L.length:=by rw[List.take_of_length_le (Nat.le_refl _),List.take_of_length_le (by omega)]
  rw[e]
  have:=made_eleven d L L.length (Nat.le_refl _)
  exact⟨by have:=this.time;omega,this.ren⟩
/-! ### who is left -/
theorem find_filter (c:Int) (p:SesV->Bool): ∀l:List SesV,(∀s∈l,s.client=c->p s=true)->findS (l.filter p) c=findS l c
 | [],_=>rfl
 | s::l,h=>by
  have ih:=find_filter c p l fun x hx=>h x (List.mem_cons_of_mem _ hx)
  by_cases hs:s.client=c
  ·rw[List.filter_cons,if_pos (h s List.mem_cons_self hs),findS,findS,if_pos hs,if_pos hs]
  ·rw[List.filter_cons]
   split
   ·rw[findS,findS,if_neg hs,if_neg hs,ih]
   ·rw[findS,if_neg hs,ih]
theorem find_drop {s:StV} {G:List Int} {c:Int} (h:hasL G c=false):findS (dropA s G).ses c=findS s.ses c:=by
 show findS (closeAll s.ses G) c= _
 rw[closeAll_eq]
 exact find_filter c _ s.ses fun x hx e=>by rw[e,h];rfl
theorem drop_keeps (G:List Int): ∀(l:List LockV) (t:Int) (k:LockV),k∈l->hasL G k.holder=false->leftK G k∈(dropK G l t).1
 | [],_,_,h,_=>by cases h
 | x::l,t,k,h,hk=>by
  rw[dropK]
  rcases List.mem_cons.1 h with e | e
  ·rw[<-e,if_pos hk]
   exact List.mem_cons_self
  ·split
   ·exact List.mem_cons_of_mem _ (drop_keeps G l t k e hk)
   ·split
    ·exact drop_keeps G l t k e hk
    ·exact List.mem_cons_of_mem _ (drop_keeps G l (t+1) k e hk)
theorem held_mem (l:List LockV) (c:Int) (g:GrantV):g∈heldK l c ↔ ∃k∈l,k.holder=c/\g=⟨k.name,k.token⟩:=by
 unfold heldK
 simp only[List.mem_map,List.mem_filter,decide_eq_true_eq]
 constructor
 ·rintro ⟨k,⟨h1,h2⟩,h3⟩;exact⟨k,h1,h2,h3.symm⟩
 ·rintro ⟨k,h1,h2,h3⟩;exact⟨k,⟨h1,h2⟩,h3.symm⟩
theorem held_drop {s:StV} {G:List Int} {c:Int} (h:hasL G c=false) {g:GrantV} (hg:g∈heldK s.locks c):g∈heldK (dropA s G).locks c:=by
 obtain⟨k,h1,h2,h3⟩:=(held_mem _ _ _).1 hg
 exact(held_mem _ _ _).2 ⟨leftK G k,drop_keeps G _ _ k h1 (by rw[h2];exact h),h2,h3⟩
theorem token_mem: ∀(l:List GrantV) (g:GrantV),(l.Pairwise fun a b=>a.name≠b.name)->g∈l->tokenF l g.name=g.token
 | [],_,_,h=>by cases h
 | x::l,g,hp,h=>by
  obtain⟨h1,h2⟩:=List.pairwise_cons.1 hp
  rw[tokenF]
  rcases List.mem_cons.1 h with e | e
  ·rw[<-e,if_pos rfl]
  ·rw[if_neg (fun q=>h1 g e q),token_mem l g h2 e]
theorem held_names {l:List LockV} (h:l.Pairwise fun a b=>a.name≠b.name) (c:Int):(heldK l c).Pairwise fun a b=>a.name≠b.name:=by
 unfold heldK
 rw[List.pairwise_map]
 exact(h.filter _).imp fun q=>q
structure Stay (c n:Int) (H:List GrantV) (i:Nat) (q:Int) (s:StV):Prop where
 right:Rst s
 time:s.time<=960+257*i
 num:s.num<=60
 tok:s.token<=480+8*i
 has:hasA s c=true
 own:(findS s.ses c).1.num =n
 ren:(findS s.ses c).1.ren <=s.time
 seq:(lastM s.memos c).1.seq =q
 held: ∀g∈H,g∈heldK s.locks c
def reqK (c q n:Int):ReqV:=⟨c,q,⟨2,n,[]⟩⟩
structure Kept (c n:Int) (H:List GrantV) (i:Nat) (q:Int) (u:StV):Prop where
 s:Stay c n H i q u
 now:(findS u.ses c).1.ren =u.time
theorem find_renewed {l:List SesV} {c t:Int} (h:(findS l c).2=true):(findS (l.map (renewE c t)) c).1.ren =if (findS l c).1.ren <t then t else (findS l c).1.ren :=by
 induction l with
 | nil=>simp [findS] at h
 | cons s l ih=>
  rw[List.map_cons,findS,findS,(renewE_keeps c t s).1]
  by_cases hs:s.client=c
  ·rw[if_pos hs,if_pos hs]
   unfold renewE
   rw[if_pos hs]
  ·rw[findS,if_neg hs] at h
   rw[if_neg hs,if_neg hs]
   exact ih h
theorem stay_keep {c n:Int} {H:List GrantV} {i:Nat} {q:Int} {s:StV} (h:Stay c n H i q s) (hc:0<=c/\c<8) (hi:i<=5) (hq:0<=q/\q<=1000):
  (applyA s (reqK c (q+1) n)).2.2=true/\(applyA s (reqK c (q+1) n)).2.1=⟨0,n,0,heldK s.locks c⟩/\Kept c n H i (q+1) (applyA s (reqK c (q+1) n)).1/\(applyA s (reqK c (q+1) n)).1.time =s.time:=by
 have hf:(findS s.ses c).2=true:=h.has
 have hn:1<=n/\n<=60:=by
  have hs:=(find_in hf).1
  have h1:=((rightS_iff s.ses).1 h.right.ses).2.one _ hs
  unfold oneS highF at h1
  simp only[Bool.and_eq_true,decide_eq_true_eq] at h1
  have h2:=h.right.nums _ hs
  have h3:=h.num
  rw[h.own] at h1 h2
  omega
 have hcm:mayF ⟨2,n,[]⟩=true:=by
  have hh:highF n 1=true:=by unfold highF;rw[decide_eq_true (by omega),decide_eq_true (by omega)];rfl
  unfold mayF
  dsimp only
  rw[if_neg (by decide),if_pos (.inl rfl),hh];rfl
 have hm:mayR (reqK c (q+1) n)=true:=next_may hc (by omega) hcm
 have hq2:(lastM s.memos (reqK c (q+1) n).client).1.seq <(reqK c (q+1) n).seq :=by
  show(lastM s.memos c).1.seq <q+1
  rw[h.seq];omega
 have htk:s.token<2305843009213693900:=by have:=h.tok;omega
 have hnb:s.num<2305843009213693900:=by have:=h.num;omega
 have ed:doesA s (reqK c (q+1) n)=(renewedA s c,toldA (renewedA s c) c 0 0):=by
  unfold doesA
  rw[if_neg (by show ¬((2:Int)=1);decide),if_neg (by
   show ¬((findS s.ses c).2=false\/(findS s.ses c).1.num ≠n)
   rw[hf,h.own];simp)]
  show cmdA (renewedA s c) c ⟨2,n,[]⟩= _
  unfold cmdA
  rw[if_neg (by show ¬((2:Int)=3\/(2:Int)=4);decide),if_neg (by show ¬((2:Int)=5);decide),if_neg (by show ¬((2:Int)=6);decide)]
 have hx:=apply_next h.right (reqK c (q+1) n) hnb htk
 have hk:=kept_seq h.right (r:=reqK c (q+1) n) hnb htk hm hq2
 have ea:=apply_lt hm hq2
 rw[ed] at ea
 have hses:(renewedA s c).ses =s.ses.map (renewE c s.time):=renewed_ses h.right hf
 obtain⟨g1,g2,g3⟩:=find_map c s.time s.ses c
 have hr:=find_renewed (t:=s.time) hf
 have hren:=h.ren
 have hnow:(findS (s.ses.map (renewE c s.time)) c).1.ren =s.time:=by rw[hr];split<;>omega
 refine⟨by rw[ea],?_,⟨⟨hx.right,?_,?_,?_,?_,?_,?_,?_,?_⟩,?_⟩,by rw[ea];rfl⟩
 ·rw[ea]
  show(⟨0,(findS (renewedA s c).ses c).1.num,0,heldK s.locks c⟩:ReplyV)= _
  rw[hses,g2,h.own]
 ·rw[ea];exact h.time
 ·rw[ea];exact h.num
 ·rw[ea];exact h.tok
 ·rw[ea]
  show(findS (renewedA s c).ses c).2=true
  rw[hses,g1];exact hf
 ·rw[ea]
  show(findS (renewedA s c).ses c).1.num =n
  rw[hses,g2];exact h.own
 ·rw[ea]
  show(findS (renewedA s c).ses c).1.ren <=s.time
  rw[hses,hnow];exact Int.le_refl _
 ·rw[hk c,if_pos (by rfl)];rfl
 ·rw[ea];exact h.held
 ·rw[ea]
  show(findS (renewedA s c).ses c).1.ren =s.time
  rw[hses,hnow]
theorem due_not {l:List SesV} {t d c:Int} (hr:l.Pairwise fun a b=>a.client<b.client) (h:(findS l c).2=true) (hd:t - (findS l c).1.ren <d):hasL (dueS l t d) c=false:=by
 rw[hasL_not]
 intro hc
 unfold dueS at hc
 split at hc
 ·cases hc
 ·obtain⟨x,hx,e⟩:=List.mem_map.1 hc
  obtain⟨h1,h2⟩:=List.mem_filter.1 hx
  have h2:=of_decide_eq_true h2
  obtain⟨q1,q2⟩:=find_in h
  have:x=(findS l c).1:=same_client hr x h1 _ q1 (by rw[q2];exact e)
  rw[this] at h2
  omega
theorem stay_next {c n:Int} {H:List GrantV} {i:Nat} {q:Int} {u:StV} (h:Kept c n H i q u) (hi:i<=5) (d:Int) (hd:2<=d/\d<=257):
  Stay c n H (i+1) q (advA u (u.time+d - 1) d)/\(advA u (u.time+d - 1) d).time =u.time+d - 1/\(findS (advA u (u.time+d - 1) d).ses c).1.ren =u.time:=by
 have ht:=h.s.time
 have h0:=h.s.right.time
 have e1:timeA u (u.time+d - 1)=u.time+d - 1:=by unfold timeA;rw[if_pos (by omega)]
 have e2:leaseA d=d:=by unfold leaseA;rw[if_neg (by omega)]
 have hdue:hasL (dueS u.ses (u.time+d - 1) d) c=false:=due_not (right_up h.s.right.ses) h.s.has (by rw[h.now];omega)
 have hf:findS (advA u (u.time+d - 1) d).ses c=findS u.ses c:=by
  unfold advA
  rw[e1,e2]
  exact find_drop (s:=⟨u.time+d - 1,u.num,u.token,u.ses,u.locks,u.memos⟩) hdue
 have hT:(advA u (u.time+d - 1) d).time =u.time+d - 1:=e1
 have htk:u.token<2305843009213693900:=by have:=h.s.tok;omega
 obtain⟨a1,a2,a3⟩:=advA_right h.s.right (u.time+d - 1) d htk
 refine⟨⟨a1,?_,h.s.num,?_,?_,?_,?_,h.s.seq,?_⟩,hT,by rw[hf,h.now]⟩
 ·rw[hT];omega
 ·have:=h.s.tok;omega
 ·show(findS (advA u (u.time+d - 1) d).ses c).2=true
  rw[hf];exact h.s.has
 ·rw[hf];exact h.s.own
 ·rw[hf,hT,h.now];omega
 ·intro g hg
  unfold advA
  rw[e1,e2]
  exact held_drop (s:=⟨u.time+d - 1,u.num,u.token,u.ses,u.locks,u.memos⟩) hdue (h.s.held g hg)
theorem stay_gone {c n:Int} {H:List GrantV} {i:Nat} {q:Int} {t:StV} (h:Stay c n H i q t) (hi:i<=5) (d:Int) (hd:2<=d/\d<=257) (hr:(findS t.ses c).1.ren +d=t.time+1):
  Rst (advA t (t.time+1) d)/\hasA (advA t (t.time+1) d) c=false/\(∀k∈(advA t (t.time+1) d).locks,k.holder≠c/\c ∉ k.line)/\c∈goneA t (advA t (t.time+1) d):=by
 have ht:=h.time
 have h0:=h.right.time
 have e1:timeA t (t.time+1)=t.time+1:=by unfold timeA;rw[if_pos (by omega)]
 have e2:leaseA d=d:=by unfold leaseA;rw[if_neg (by omega)]
 have htk:t.token<2305843009213693900:=by have:=h.tok;omega
 obtain⟨a1,a2,a3⟩:=advA_right h.right (t.time+1) d htk
 obtain⟨q1,q2⟩:=find_in h.has
 have hin:hasL (dueS t.ses (t.time+1) d) c=true:=by
  rw[hasL_iff]
  unfold dueS
  rw[if_neg (by
   have w1:highF (t.time+1) 0=true:=by unfold highF;rw[decide_eq_true (by omega),decide_eq_true (by omega)];rfl
   have w2:highF d 0=true:=by unfold highF;rw[decide_eq_true (by omega),decide_eq_true (by omega)];rfl
   rw[w1,w2];simp)]
  exact List.mem_map.2 ⟨_,List.mem_filter.2 ⟨q1,decide_eq_true (by omega)⟩,q2⟩
 have hno:hasA (advA t (t.time+1) d) c=false:=by
  show(findS (closeAll t.ses (dueS t.ses (timeA t (t.time+1)) (leaseA d))) c).2=false
  rw[e1,e2,closeAll_eq,findS_none]
  intro x hx e
  have:=(List.mem_filter.1 hx).2
  rw[e,hin] at this
  cases this
 refine⟨a1,hno,fun k hk=>?_,?_⟩
 ·obtain⟨w1,w2⟩:=a1.has k hk
  refine⟨fun e=>?_,fun e=>?_⟩
  ·have w1:hasA (advA t (t.time+1) d) k.holder=true:=w1
   rw[e,hno] at w1;cases w1
  ·have w3:hasA (advA t (t.time+1) d) c=true:=w2 c e
   rw[hno] at w3;cases w3
 ·unfold goneA
  refine List.mem_map.2 ⟨_,List.mem_filter.2 ⟨q1,?_⟩,q2⟩
  unfold goneE
  rw[q2]
  have:(findS (advA t (t.time+1) d).ses c).2=false:=hno
  rw[this]
  rfl
end Cm
end Go.Proofs.YtclcgkpfcogcdaaGreat
