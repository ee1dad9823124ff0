/- Texts laid together by program. -/
import Derived.Test.YtbcnednhfmchpaaQ5
import Derived.Test.YtbcnednhfmchpaaProg
import Derived.Laws.AppendOwn
/- Rows of whole numbers in memory; contract: the document's SameInts (of seats without sessions). -/
set_option linter.unusedVariables false
set_option maxRecDepth 8000
set_option linter.unusedSimpArgs false
namespace Go.Proofs.Ytbcnednhfmchpaa
open Lib (hid)
open Go.RowKit
namespace Ln
open Cm

def cellsI (x:Int):List Value:= [.int .i64 x]
theorem cellsI_length (x:Int):(cellsI x).length =1:=rfl
abbrev RdI:=RdX 1 cellsI
theorem rdi_at {w:World} {a:Option Addr} {n cap:Nat} {l:List Int} (h:RdI w (.slice a n cap) l) (i:Nat) (hi:i<l.length):
  ∃b o,a=some ⟨b,o,none⟩/\ ∀w':World,Below w.heap.size w w'->w'.cell? ⟨b,o+i,none⟩=some (.int .i64 l[i]):=by
 obtain⟨b,o,e,c⟩:=h.at i hi
 refine⟨b,o,e,fun w' hb=>?_⟩
 have:=c w' hb 0 _ rfl
 rw[Nat.mul_one] at this
 exact this
theorem cellsI_one (x:Int): ∀u∈cellsI x,u.oneCell'=true:=by
 intro u hu
 unfold cellsI at hu
 rw[List.mem_singleton] at hu
 subst hu
 rfl
def sameI:List Int->List Int->Bool
 | [],[]=>true
 | x::l,y::m=>decide (x=y) && sameI l m
 | _,_=>false
theorem sameI_len: ∀(l m:List Int),l.length≠m.length->sameI l m=false
 | [],[],h=>absurd rfl h
 | [],_::_,_=>rfl
 | _::_,[],_=>rfl
 | g::l,h::m,q=>by
  have:=sameI_len l m (by simpa using q)
  unfold sameI
  rw[this,Bool.and_false]
theorem sameI_drop (l m:List Int) (j:Nat) (h:j<l.length) (hm:j<m.length):sameI (l.drop j) (m.drop j)=(decide (l[j]=m[j]) && sameI (l.drop (j+1)) (m.drop (j+1))):=by
 rw[List.drop_eq_getElem_cons h,List.drop_eq_getElem_cons hm]
 rfl
set_option maxHeartbeats 1000000 in
theorem SameInts_any (u v:Value) (l m:List Int) (w:World) (h:RdI w u l) (h2:RdI w v m):
  Calls Try.prog 21 #[u,v] w (SaysB (sameI l m) w):=by
 have hm:=h.len
 have hm2:=h2.len
 obtain⟨a,cap,rfl⟩:=h.form
 obtain⟨a2,cap2,rfl⟩:=h2.form
 by_cases hn:l.length=m.length
 ·have HA:=hid (fun i hi=>rdi_at h i hi)
  have HA2:=hid (fun i hi=>rdi_at h2 i hi)
  have HD:=hid (sameI_drop l m)
  clear h h2
  obtain⟨L,hL⟩: ∃L,l.length=L:=⟨_,rfl⟩
  have hL2:m.length=L:=by omega
  rw[hL] at hm ⊢
  rw[hL2] at hm2 ⊢
  go_enter Try.func21,Try.ntmps21
  go_wp2
  go_loopw [5] (fun i wr=> ∃j:Nat,j<=L/\i= .int .i64 j/\Below w.heap.size w wr/\Hid (sameI l m=sameI (l.drop j) (m.drop j))) (fun i _=>L - (intOf i).toNat)
  case atStart=>exact⟨0,by omega,rfl,Below.refl _ _,hid rfl⟩
  case round=>
   obtain⟨j,hj,rfl,hb,ha⟩:=hrel
   have HB:=hid hb
   clear hb
   by_cases hlt:j<L
   ·obtain⟨b,o,rfl,hc⟩:=HA.out j (by omega)
    obtain⟨b',o',rfl,hc2⟩:=HA2.out j (by omega)
    have q1:=hc _ HB.out
    have q2:=hc2 _ HB.out
    have hd:=HD.out j (by omega) (by omega)
    clear HA HA2 HD hc hc2
    generalize l[j]=x at q1 hd
    generalize m[j]=y at q2 hd
    by_cases e1:x=y
    ·have d1:(x != y)=false:=by simp [e1]
     rw[decide_eq_true e1,Bool.true_and] at hd
     have H:=hid hd
     clear hd e1
     go_upto_region 6 with fail
     go_quiet (fail)
     go_wp2
     go_roundw
     case rel=>exact⟨j+1,by omega,by go_num,below_drewB HB.out nq,hid (by rw[ha.out,H.out])⟩
     case measure=>simp [intOf];omega
    ·have d1:(x != y)=true:=by simpa using e1
     rw[decide_eq_false e1,Bool.false_and] at hd
     have H:=hid hd
     clear hd e1
     go_upto_region 6 with fail
     go_quiet (fail)
     go_wp2
     go_ret
     exact⟨by rw[ha.out,H.out];rfl,below_drewB HB.out nq⟩
   ·obtain rfl:j=L:=by omega
    go_wp2
    go_ret
    have ha:=ha.out
    rw[<-hL,List.drop_length,hL,<-hL2,List.drop_length] at ha
    exact⟨by rw[ha];rfl,HB.out⟩
 ·have d1:((l.length:Int) != (m.length:Int))=true:=by simp;omega
  have e:sameI l m=false:=sameI_len l m hn
  rw[e]
  clear h h2 hn e
  generalize l.length=L at*
  generalize m.length=M at*
  go_enter Try.func21,Try.ntmps21
  go_wp2
  go_ret
  exact⟨rfl,Below.refl _ _⟩
end Ln
end Go.Proofs.Ytbcnednhfmchpaa

/- What package learn answers, as plain functions: what was heard, slot by slot, in the order in which it was first heard. No program is named here. -/
set_option linter.unusedVariables false
set_option maxRecDepth 8000
set_option linter.unusedSimpArgs false
namespace Go.Proofs.Ytbcnednhfmchpaa
open Lib (hid)
open Go.RowKit
namespace Ln
open Cm

structure SlotV where
 slot:Int
 ballot:Int
 who:List Int
 bat:BatV
 chosen:Bool
structure LrnV where
 n:Int
 done:Int
 l:List SlotV
def newL (n:Int):LrnV:=⟨n,0,[]⟩
def quoF (n:Int):Int:=n / 2+1
def addW (f:Int):List Int->List Int
 | []=> [f]
 | x::l=>if f<x then f::x::l else if f=x then f::l else x::addW f l
def at_ (l:List SlotV) (t:Int):Option SlotV:=l.find? fun x=>decide (x.slot=t)
def putS (y:SlotV):List SlotV->List SlotV
 | []=> [y]
 | x::l=>if x.slot=y.slot then y::l else x::putS y l
def nextS (n:Int) (x:SlotV) (f b:Int) (q:BatV):SlotV:=
 let y:SlotV:=if x.ballot<b then ⟨x.slot,b,[],q,false⟩ else x
 ⟨x.slot,y.ballot,addW f y.who,y.bat,decide (quoF n<=((addW f y.who).length :Int))⟩
def hearF (s:LrnV) (f b t:Int) (q:BatV):LrnV × Int:=
 if (decide (0<=f) && decide (f<s.n) && highF b 0 && highF t 1 && mayB q)=false then (s,1)
 else match at_ s.l t with
  | some x=>if t<=s.done\/x.chosen=true then (s,11) else if s.done+9<t then (s,5) else if b<x.ballot then (s,11) else (⟨s.n,s.done,putS (nextS s.n x f b q) s.l⟩,0)
  | none=>if t<=s.done then (s,11) else if s.done+9<t then (s,5) else (⟨s.n,s.done,putS (nextS s.n ⟨t,b,[],q,false⟩ f b q) s.l⟩,0)
def trimL (s:LrnV) (d:Int):LrnV:=
 if d<=s.done\/2305843009213693952<d then s else ⟨s.n,d,s.l.filter fun x=>decide (d<x.slot)⟩
def chosenF (s:LrnV) (t:Int):BatV × Bool:=match at_ s.l t with
 | some x=>if x.chosen then (x.bat,true) else (zeroB,false)
 | none=>(zeroB,false)
def heardF (s:LrnV) (t:Int):Int × List Int:=match at_ s.l t with
 | some x=>(x.ballot,x.who)
 | none=>(0,[])
structure WhoOk (n:Int) (w:List Int):Prop where
 rise:w.Pairwise (· < ·)
 low: ∀x∈w,0<=x
 most: ∀x∈w,x<n
structure GoodS (n d b:Int) (x:SlotV):Prop where
 lo:d<x.slot
 hi:x.slot<=d+9
 top:x.slot<=2305843009213693952
 b0:0<=x.ballot
 b1:x.ballot<=2305843009213693952
 who:WhoOk n x.who
 some_:x.who≠ []
 may:mayB x.bat=true
 ch:x.chosen=decide (quoF n<=(x.who.length:Int))
structure GoodN (s:LrnV):Prop where
 n1:1<=s.n
 n7:s.n<=7
 d0:0<=s.done
 d1:s.done<=2305843009213693952
 all: ∀x∈s.l,GoodS s.n s.done 0 x
 part:s.l.Pairwise fun x y=>x.slot≠y.slot
theorem mem_addW (f:Int): ∀(l:List Int) (x:Int),x∈addW f l ↔ x=f\/x∈l
 | [],x=>by simp [addW]
 | y::l,x=>by
  rw[addW]
  split
  ·simp
  ·split
   ·rename_i q1 q2
    subst q2
    simp
   ·rw[List.mem_cons,mem_addW f l x,List.mem_cons]
    constructor
    ·rintro (h | h | h)
     ·exact .inr (.inl h)
     ·exact .inl h
     ·exact .inr (.inr h)
    ·rintro (h | h | h)
     ·exact .inr (.inl h)
     ·exact .inl h
     ·exact .inr (.inr h)
theorem addW_rise (f:Int): ∀l:List Int,l.Pairwise (· < ·)->(addW f l).Pairwise (· < ·)
 | [],_=>by simp [addW]
 | y::l,h=>by
  obtain⟨h1,h2⟩:=List.pairwise_cons.1 h
  rw[addW]
  split
  ·rename_i q
   refine List.pairwise_cons.2 ⟨fun z hz=>?_,h⟩
   rcases List.mem_cons.1 hz with e | hz
   ·rw[e];exact q
   ·exact Int.lt_trans q (h1 z hz)
  ·split
   ·rename_i q1 q2
    exact List.pairwise_cons.2 ⟨fun z hz=>by rw[q2];exact h1 z hz,h2⟩
   ·rename_i q1 q2
    refine List.pairwise_cons.2 ⟨fun z hz=>?_,addW_rise f l h2⟩
    rcases (mem_addW f l z).1 hz with e | hz
    ·rw[e];omega
    ·exact h1 z hz
theorem WhoOk.add {n:Int} {w:List Int} (h:WhoOk n w) (f:Int) (h0:0<=f) (h1:f<n):WhoOk n (addW f w):=
 ⟨addW_rise f w h.rise,fun x hx=>((mem_addW f w x).1 hx).elim (fun e=>by rw[e];exact h0) (h.low x),fun x hx=>((mem_addW f w x).1 hx).elim (fun e=>by rw[e];exact h1) (h.most x)⟩
theorem WhoOk.nil (n:Int):WhoOk n []:=⟨List.Pairwise.nil,fun x h=>(by cases h),fun x h=>(by cases h)⟩
theorem rise_most: ∀(w:List Int) (lo hi:Int),lo<=hi->(∀x∈w,lo<=x/\x<hi)->w.Pairwise (· < ·)->(w.length:Int)<=hi - lo
 | [],lo,hi,h,_,_=>by simp;omega
 | x::w,lo,hi,h,h1,h2=>by
  obtain⟨p1,p2⟩:=List.pairwise_cons.1 h2
  have hx:=h1 x List.mem_cons_self
  have ih:=rise_most w (x+1) hi (by omega) (fun y hy=>⟨by have:=p1 y hy;omega,(h1 y (List.mem_cons_of_mem _ hy)).2⟩) p2
  rw[List.length_cons]
  omega
theorem WhoOk.len {n:Int} {w:List Int} (h:WhoOk n w) (hn:0<=n):(w.length:Int)<=n:=by
 have:=rise_most w 0 n hn (fun x hx=>⟨h.low x hx,h.most x hx⟩) h.rise
 omega
theorem addW_ne (f:Int) (l:List Int):addW f l≠ []:=fun e=>by
 have:=(mem_addW f l f).2 (.inl rfl)
 rw[e] at this
 cases this
theorem at_mem {l:List SlotV} {t:Int} {x:SlotV} (h:at_ l t=some x):x∈l/\x.slot=t:=
 ⟨List.mem_of_find?_eq_some h,by have:=List.find?_some h;simpa using this⟩
theorem mem_putS (y:SlotV): ∀(l:List SlotV) (x:SlotV),x∈putS y l->x=y\/x∈l
 | [],x,h=>by simp [putS] at h;exact .inl h
 | z::l,x,h=>by
  rw[putS] at h
  split at h
  ·rcases List.mem_cons.1 h with h | h
   ·exact .inl h
   ·exact .inr (List.mem_cons_of_mem _ h)
  ·rcases List.mem_cons.1 h with h | h
   ·exact .inr (by rw[h];exact List.mem_cons_self)
   ·rcases mem_putS y l x h with h | h
    ·exact .inl h
    ·exact .inr (List.mem_cons_of_mem _ h)
theorem at_putS (y:SlotV) (t:Int): ∀l:List SlotV,at_ (putS y l) t=if y.slot=t then some y else at_ l t
 | []=>by
  rw[putS]
  unfold at_
  by_cases e:y.slot=t
  ·rw[if_pos e,List.find?_cons_of_pos (by simpa using e)]
  ·rw[if_neg e,List.find?_cons_of_neg (by simpa using e)]
 | x::l=>by
  have ih:=at_putS y t l
  rw[putS]
  unfold at_ at ih ⊢
  by_cases q:x.slot=y.slot
  ·rw[if_pos q]
   by_cases e:y.slot=t
   ·rw[if_pos e,List.find?_cons_of_pos (by simpa using e)]
   ·rw[if_neg e,List.find?_cons_of_neg (by simpa using e),List.find?_cons_of_neg (by rw[q];simpa using e)]
  ·rw[if_neg q]
   by_cases e:x.slot=t
   ·rw[List.find?_cons_of_pos (by simpa using e),List.find?_cons_of_pos (by simpa using e),if_neg (by omega)]
   ·rw[List.find?_cons_of_neg (by simpa using e),List.find?_cons_of_neg (by simpa using e),ih]
theorem putS_part (y:SlotV): ∀l:List SlotV,l.Pairwise (fun x z=>x.slot≠z.slot)->(putS y l).Pairwise fun x z=>x.slot≠z.slot
 | [],_=>by simp [putS]
 | x::l,h=>by
  obtain⟨h1,h2⟩:=List.pairwise_cons.1 h
  rw[putS]
  split
  ·rename_i q
   exact List.pairwise_cons.2 ⟨fun z hz=>by rw[<-q];exact h1 z hz,h2⟩
  ·rename_i q
   refine List.pairwise_cons.2 ⟨fun z hz=>?_,putS_part y l h2⟩
   rcases mem_putS y l z hz with e | hz
   ·rw[e];exact q
   ·exact h1 z hz
theorem at_filter (d t:Int): ∀l:List SlotV,at_ (l.filter fun x=>decide (d<x.slot)) t=if d<t then at_ l t else none
 | []=>by
  rw[List.filter_nil]
  unfold at_
  split<;>rfl
 | x::l=>by
  have ih:=at_filter d t l
  unfold at_ at ih ⊢
  rw[List.filter_cons]
  by_cases e:x.slot=t
  ·by_cases q:d<t
   ·rw[if_pos q,if_pos (decide_eq_true (by omega)),List.find?_cons_of_pos (by simpa using e),List.find?_cons_of_pos (by simpa using e)]
   ·rw[if_neg (by rw[decide_eq_true_eq];omega),if_neg q,ih,if_neg q]
  ·by_cases q:d<x.slot
   ·rw[if_pos (decide_eq_true q),List.find?_cons_of_neg (by simpa using e),ih,List.find?_cons_of_neg (by simpa using e)]
   ·rw[if_neg (by rw[decide_eq_true_eq];exact q),ih,List.find?_cons_of_neg (by simpa using e)]
theorem newL_good (n:Int) (h1:1<=n) (h7:n<=7):GoodN (newL n):=⟨h1,h7,Int.le_refl _,(show(0:Int)<=2305843009213693952 by decide),fun x h=>(by cases h),List.Pairwise.nil⟩
theorem nextS_slot (n:Int) (x:SlotV) (f b:Int) (q:BatV):(nextS n x f b q).slot =x.slot:=rfl
theorem GoodN.hear {s:LrnV} (h:GoodN s) (f b t:Int) (q:BatV):GoodN (hearF s f b t q).1:=by
 unfold hearF
 split
 ·exact h
 ·rename_i h1
  rw[Bool.not_eq_false] at h1
  simp only[highF,Bool.and_eq_true,decide_eq_true_eq] at h1
  obtain⟨⟨⟨⟨f0,f1⟩,b0,b1⟩,t0,t1⟩,hm⟩:=h1
  split
  ·rename_i x hx
   obtain⟨hx1,hx2⟩:=at_mem hx
   have hg:=h.all x hx1
   split
   ·exact h
   ·split
    ·exact h
    ·split
     ·exact h
     ·refine⟨h.n1,h.n7,h.d0,h.d1,fun y hy=>?_,putS_part _ _ h.part⟩
      rcases mem_putS _ _ _ hy with e | e
      ·rw[e]
       by_cases c:x.ballot<b
       ·refine⟨hg.lo,hg.hi,hg.top,?_,?_,?_,?_,?_,?_⟩<;>simp only[nextS,if_pos c]
        ·exact b0
        ·exact b1
        ·exact(WhoOk.nil _).add f f0 f1
        ·exact addW_ne _ _
        ·exact hm
       ·refine⟨hg.lo,hg.hi,hg.top,?_,?_,?_,?_,?_,?_⟩<;>simp only[nextS,if_neg c]
        ·exact hg.b0
        ·exact hg.b1
        ·exact hg.who.add f f0 f1
        ·exact addW_ne _ _
        ·exact hg.may
      ·exact h.all y e
  ·split
   ·exact h
   ·split
    ·exact h
    ·rename_i hx h2 h3
     refine⟨h.n1,h.n7,h.d0,h.d1,fun y hy=>?_,putS_part _ _ h.part⟩
     rcases mem_putS _ _ _ hy with e | e
     ·rw[e]
      have c: ¬b<b:=by omega
      refine⟨?_,?_,?_,?_,?_,?_,?_,?_,?_⟩<;>simp only[nextS,if_neg c]
      ·omega
      ·omega
      ·omega
      ·exact b0
      ·exact b1
      ·exact(WhoOk.nil _).add f f0 f1
      ·exact addW_ne _ _
      ·exact hm
     ·exact h.all y e
theorem GoodN.trim {s:LrnV} (h:GoodN s) (d:Int):GoodN (trimL s d):=by
 unfold trimL
 split
 ·exact h
 ·rename_i h1
  have h0:=h.d0
  refine⟨h.n1,h.n7,by show 0<=d;omega,by show d<=_;omega,fun x hx=>?_,List.Pairwise.filter _ h.part⟩
  obtain⟨hx1,hx2⟩:=List.mem_filter.1 hx
  have hg:=h.all x hx1
  have hi:=hg.hi
  exact⟨by simpa using hx2,by show x.slot<=d+9;omega,hg.top,hg.b0,hg.b1,hg.who,hg.some_,hg.may,hg.ch⟩
def plcS (l:List SlotV) (p:Nat):Option SlotV:=l.find? fun x=>decide (x.slot % 9=(p:Int))
theorem at_plc {l:List SlotV} {d t:Int} {p:Nat} (hl: ∀x∈l,d<x.slot/\x.slot<=d+9) (hp:t % 9=(p:Int)) (h1:d<t) (h2:t<=d+9):at_ l t=plcS l p:=by
 unfold at_ plcS
 have key: ∀x∈l,decide (x.slot=t)=decide (x.slot % 9=(p:Int)):=fun x hx=>by
  have:=hl x hx
  by_cases e:x.slot=t
  ·rw[decide_eq_true e,decide_eq_true (by rw[e];exact hp)]
  ·rw[decide_eq_false e,decide_eq_false (by omega)]
 clear h1 h2 hl
 induction l with
 | nil=>rfl
 | cons x l ih=>
  rw[List.find?_cons,List.find?_cons,key x List.mem_cons_self,ih fun y hy=>key y (List.mem_cons_of_mem _ hy)]
theorem at_far {l:List SlotV} {d t:Int} (hl: ∀x∈l,d<x.slot/\x.slot<=d+9) (h:t<=d\/d+9<t):at_ l t=none:=
 List.find?_eq_none.2 fun x hx=>by
  have:=hl x hx
  simp
  omega
theorem plcS_put (y:SlotV) (p:Nat): ∀l:List SlotV,(∀x∈l,x.slot % 9=y.slot % 9->x.slot=y.slot)->plcS (putS y l) p=if y.slot % 9=(p:Int) then some y else plcS l p
 | [],_=>by
  rw[putS]
  unfold plcS
  by_cases e:y.slot % 9=(p:Int)
  ·rw[if_pos e,List.find?_cons_of_pos (by simpa using e)]
  ·rw[if_neg e,List.find?_cons_of_neg (by simpa using e)]
 | x::l,h=>by
  have ih:=plcS_put y p l fun z hz=>h z (List.mem_cons_of_mem _ hz)
  rw[putS]
  unfold plcS at ih ⊢
  by_cases q:x.slot=y.slot
  ·rw[if_pos q]
   by_cases e:y.slot % 9=(p:Int)
   ·rw[if_pos e,List.find?_cons_of_pos (by simpa using e)]
   ·rw[if_neg e,List.find?_cons_of_neg (by simpa using e),List.find?_cons_of_neg (by rw[q];simpa using e)]
  ·rw[if_neg q]
   by_cases e:x.slot % 9=(p:Int)
   ·rw[List.find?_cons_of_pos (by simpa using e),List.find?_cons_of_pos (by simpa using e),if_neg]
    intro r
    exact q (h x List.mem_cons_self (by omega))
   ·rw[List.find?_cons_of_neg (by simpa using e),List.find?_cons_of_neg (by simpa using e),ih]
theorem hear_keeps {s:LrnV} {t:Int} {x:SlotV} (hx:at_ s.l t=some x) (hc:x.chosen=true) (f b u:Int) (q:BatV):at_ (hearF s f b u q).1.l t=some x:=by
 unfold hearF
 split
 ·exact hx
 ·split
  ·rename_i y hy
   split
   ·exact hx
   ·split
    ·exact hx
    ·split
     ·exact hx
     ·rename_i h1 h2 h3
      show at_ (putS _ s.l) t= _
      rw[at_putS,if_neg,hx]
      intro e
      rw[nextS_slot,(at_mem hy).2] at e
      rw[e,hx] at hy
      cases hy
      exact h1 (.inr hc)
  ·rename_i hy
   split
   ·exact hx
   ·split
    ·exact hx
    ·show at_ (putS _ s.l) t= _
     rw[at_putS,if_neg,hx]
     intro e
     have e:u=t:=e
     rw[e,hx] at hy
     cases hy
end Ln
end Go.Proofs.Ytbcnednhfmchpaa

/- What package view answers, as plain functions over numbers. No program is named here. -/
set_option linter.unusedVariables false
set_option maxRecDepth 8000
set_option linter.unusedSimpArgs false
namespace Go.Proofs.Ytbcnednhfmchpaa
open Lib (hid)
open Go.RowKit
namespace Vw

def Tells (v:Value) (w:World) (e:Ending) (w':World):Prop:=e= .returned v/\w=w'
def TellsB (v:Value) (w:World) (e:Ending) (w':World):Prop:=e= .returned v/\Below w.heap.size w w'
theorem Tells.b {v:Value} {w:World} {e:Ending} {w':World} (h:Tells v w e w'):TellsB v w e w':=by
 obtain⟨h1,rfl⟩:=h
 exact⟨h1,Below.refl _ _⟩
def withinF (v a b:Int):Bool:=decide (a<=v) && decide (v<=b)
def someF (n:Int):Bool:=withinF n 1 7
def quorumF (n:Int):Int:=if someF n then n / 2+1 else 0
end Vw
end Go.Proofs.Ytbcnednhfmchpaa

/- Contracts of package view, and of the document's answers for it: quorums, leaders, who leads next. -/
set_option linter.unusedVariables false
set_option maxRecDepth 8000
set_option linter.unusedSimpArgs false
namespace Go.Proofs.Ytbcnednhfmchpaa
open Lib (hid)
open Go.RowKit
namespace Vw

theorem within_any (v a b:Int) (w:World):Calls Try.prog 46 #[.int .i64 v,.int .i64 a,.int .i64 b] w (Tells (.bool (withinF v a b)) w):=by
  unfold withinF
  by_cases h1:a<=v<;>by_cases h2:v<=b<;>
    (go_enter Try.func46,Try.ntmps46
     go_wp2
     go_ret
     exact⟨by simp [h1,h2]<;>omega,rfl⟩)
theorem areReplicas_any (n:Int) (w:World):Calls Try.prog 39 #[.int .i64 n] w (Tells (.bool (someF n)) w):=by
 go_enter Try.func39,Try.ntmps39
 go_wp2_with (go_at_call 46;refine(within_any _ _ _ _).mono ?_;rintro e w' ⟨rfl,rfl⟩)
 go_ret
 exact⟨rfl,rfl⟩
theorem someF_iff {n:Int} :someF n=true ↔ 1<=n/\n<=7:=by simp [someF,withinF]
theorem Quorum_any (n:Int) (w:World):Calls Try.prog 23 #[.int .i64 n] w (Tells (.int .i64 (quorumF n)) w):=by
 have CA:=hid (fun w=>areReplicas_any n w)
 unfold quorumF
 cases h:someF n<;>rw[h] at CA
 ·go_enter Try.func23,Try.ntmps23
  go_wp2_with (go_at_call 39;refine(CA.out _).mono ?_;rintro e w' ⟨rfl,rfl⟩)
  go_ret
  exact⟨rfl,rfl⟩
 ·obtain⟨h1,h2⟩:=someF_iff.1 h
  have e:n.tdiv 2=n / 2:=Int.tdiv_eq_ediv_of_nonneg (by omega)
  have e2:IntKind.i64.wrap (n / 2)=n / 2:=by rw[IntKind.wrap_i64];omega
  have e3:IntKind.i64.wrap (n / 2+1)=n / 2+1:=by rw[IntKind.wrap_i64];omega
  clear h
  go_enter Try.func23,Try.ntmps23
  go_wp2_with (go_at_call 39;refine(CA.out _).mono ?_;rintro e w' ⟨rfl,rfl⟩)
  go_ret
  exact⟨rfl,rfl⟩
end Vw
end Go.Proofs.Ytbcnednhfmchpaa

/- Contract: the document's learner's Trim. -/
set_option linter.unusedVariables false
set_option maxRecDepth 8000
set_option linter.unusedSimpArgs false
namespace Go.Proofs.Ytbcnednhfmchpaa
open Lib (hid)
open Go.RowKit
namespace Ln
open Cm

theorem info_partsS {e:TypeId} {z:Option Value} {s b:Nat} (h:(Try.prog.info? e).map (fun i=>(i.zero,i.size,i.bytes))=some (z,s,b)): ∃i,Try.prog.info? e=some i/\i.zero=z/\i.size=s/\i.bytes=b:=by
 cases hi:Try.prog.info? e with
 | none=>rw[hi] at h;cases h
 | some i=>
  rw[hi] at h
  simp only[Option.map_some,Option.some.injEq,Prod.mk.injEq] at h
  exact⟨i,rfl,h.1,h.2.1,h.2.2⟩
theorem gr_belowL {a w w':World} {row:Option Nat} (h:a.grownBy w row) (hb:Below w.heap.size w w'):a.grownBy w' row:=
 h.trans ⟨hb.os,hb.tape,hb.output,hb.size,fun i hi _=>hb.block i hi⟩
theorem grown_setL (w:World) (g j:Nat) (u:Value):w.grownBy (w.setCell ⟨g,j,none⟩ u) (some g):=
 ⟨rfl,rfl,rfl,by simp,fun k hk hne=>Below.heap_setCell _ _ _ _ (fun q=>hne (by rw[show k=g from q]))⟩
end Ln
end Go.Proofs.Ytbcnednhfmchpaa

/- Contracts: the document's learner: some, NewLearner, Chosen, Heard. -/
set_option linter.unusedVariables false
set_option maxRecDepth 8000
set_option linter.unusedSimpArgs false
namespace Go.Proofs.Ytbcnednhfmchpaa
open Lib (hid)
open Go.RowKit
namespace Ln
open Cm

section
variable {α : Type} {sz : Nat} {f : α → List Value}
end

def someN (n:Int):Bool:=decide (1<=n) && decide (n<=7)
def TellsC (r:BatV × Bool) (w:World) (e:Ending) (w':World):Prop:= ∃u,e= .returned (.tuple #[batVal r.1 u,.bool r.2])/\RdR w' u r.1.reqs/\Below w.heap.size w w'
def TellsH (r:Int × List Int) (w:World) (e:Ending) (w':World):Prop:= ∃u,e= .returned (.tuple #[.int .i64 r.1,u])/\RdI w' u r.2/\Below w.heap.size w w'
theorem infoJ:(Try.prog.info? 3).map (fun i=>(i.zero,i.size,i.bytes))=some (some (.int .i64 0),1,8):=by kernel_rfl
end Ln
end Go.Proofs.Ytbcnednhfmchpaa

/- Contract: the document's learner's Hear, where it says no. -/
set_option linter.unusedVariables false
set_option maxRecDepth 8000
set_option linter.unusedSimpArgs false
namespace Go.Proofs.Ytbcnednhfmchpaa
open Lib (hid)
open Go.RowKit
namespace Ln
open Cm

def badF (s:LrnV) (f b t:Int) (q:BatV):Bool:= !(decide (0<=f) && decide (f<s.n) && highF b 0 && highF t 1 && mayB q)
end Ln
end Go.Proofs.Ytbcnednhfmchpaa
