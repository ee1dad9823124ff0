/- Texts laid together by program. -/
import Derived.Test.YtmodbbmdkealdaaV6
/- What package accept answers, as plain functions: votes that rise by slots, nine places. No program is named here. -/
set_option linter.unusedVariables false
set_option maxRecDepth 8000
set_option linter.unusedSimpArgs false
namespace Go.Proofs.Ytmodbbmdkealdaa
open Lib (hid)
open Go.RowKit
namespace Ac
open Cm

structure VoteV where
 slot:Int
 ballot:Int
 bat:BatV
def zeroV:VoteV:=⟨0,0,zeroB⟩
structure AccV where
 ballot:Int
 done:Int
 votes:List VoteV
def newA:AccV:=⟨0,0,[]⟩
def putV (v:VoteV):List VoteV->List VoteV
 | []=> [v]
 | x::l=>if v.slot<x.slot then v::x::l else if v.slot=x.slot then v::l else x::putV v l
def promF (s:AccV) (b:Int):AccV × Int:=
 if highF b 0=false then (s,1) else if b<s.ballot then (s,11) else (⟨b,s.done,s.votes⟩,0)
def accF (s:AccV) (b t:Int) (x:BatV):AccV × Int:=
 if (highF b 0 && highF t 1 && mayB x)=false then (s,1) else if b<s.ballot\/t<=s.done then (s,11) else if s.done+9<t then (s,5)
 else (⟨b,s.done,putV ⟨t,b,x⟩ s.votes⟩,0)
def trimF (s:AccV) (d:Int):AccV:=
 if d<=s.done\/2305843009213693952<d then s else ⟨s.ballot,d,s.votes.filter fun v=>decide (d<v.slot)⟩
structure GoodL (d:Int) (l:List VoteV):Prop where
 low: ∀x∈l,d<x.slot
 most: ∀x∈l,x.slot<=d+9
 rise:l.Pairwise fun x y=>x.slot<y.slot
structure Good (s:AccV):Prop where
 b0:0<=s.ballot
 b1:s.ballot<=2305843009213693952
 d0:0<=s.done
 d1:s.done<=2305843009213693952
 list:GoodL s.done s.votes
 bal: ∀x∈s.votes,x.ballot<=s.ballot
 may: ∀x∈s.votes,mayB x.bat=true
theorem newA_good:Good newA:=⟨by decide,by decide,by decide,by decide,⟨fun x h=>(by cases h),fun x h=>(by cases h),List.Pairwise.nil⟩,fun x h=>(by cases h),fun x h=>(by cases h)⟩
theorem mem_putV (v:VoteV): ∀(l:List VoteV) (x:VoteV),x∈putV v l->x=v\/x∈l
 | [],x,h=>by simp [putV] at h;exact .inl h
 | y::l,x,h=>by
  rw[putV] at h
  split at h
  ·rcases List.mem_cons.1 h with h | h
   ·exact .inl h
   ·exact .inr h
  ·split at h
   ·rcases List.mem_cons.1 h with h | h
    ·exact .inl h
    ·exact .inr (List.mem_cons_of_mem _ h)
   ·rcases List.mem_cons.1 h with h | h
    ·exact .inr (by rw[h];exact List.mem_cons_self)
    ·rcases mem_putV v l x h with h | h
     ·exact .inl h
     ·exact .inr (List.mem_cons_of_mem _ h)
theorem putV_rise (v:VoteV): ∀(l:List VoteV),l.Pairwise (fun x y=>x.slot<y.slot)->(putV v l).Pairwise fun x y=>x.slot<y.slot
 | [],_=>by simp [putV]
 | y::l,h=>by
  obtain⟨h1,h2⟩:=List.pairwise_cons.1 h
  rw[putV]
  split
  ·rename_i q
   refine List.pairwise_cons.2 ⟨fun z hz=>?_,h⟩
   rcases List.mem_cons.1 hz with e | hz
   ·rw[e];exact q
   ·exact Int.lt_trans q (h1 z hz)
  ·split
   ·rename_i q1 q2
    exact List.pairwise_cons.2 ⟨fun z hz=>by rw[q2];exact h1 z hz,h2⟩
   ·rename_i q1 q2
    refine List.pairwise_cons.2 ⟨fun z hz=>?_,putV_rise v l h2⟩
    rcases mem_putV v l z hz with e | hz
    ·rw[e];omega
    ·exact h1 z hz
theorem GoodL.put {d:Int} {l:List VoteV} (h:GoodL d l) (v:VoteV) (h1:d<v.slot) (h2:v.slot<=d+9):GoodL d (putV v l):=
 ⟨fun x hx=>(mem_putV v l x hx).elim (fun e=>by rw[e];exact h1) (h.low x),fun x hx=>(mem_putV v l x hx).elim (fun e=>by rw[e];exact h2) (h.most x),putV_rise v l h.rise⟩
theorem Good.prom {s:AccV} (h:Good s) (b:Int):Good (promF s b).1:=by
 unfold promF
 split
 ·exact h
 ·split
  ·exact h
  ·rename_i h1 h2
   rw[Bool.not_eq_false,highF,Bool.and_eq_true,decide_eq_true_eq,decide_eq_true_eq] at h1
   exact⟨h1.1,h1.2,h.d0,h.d1,h.list,fun x hx=>by have:=h.bal x hx;show x.ballot<=b;omega,h.may⟩
theorem Good.acc {s:AccV} (h:Good s) (b t:Int) (x:BatV):Good (accF s b t x).1:=by
 unfold accF
 split
 ·exact h
 ·split
  ·exact h
  ·split
   ·exact h
   ·rename_i h1 h2 h3
    rw[Bool.not_eq_false,highF,highF] at h1
    simp only[Bool.and_eq_true,decide_eq_true_eq] at h1
    refine⟨h1.1.1.1,h1.1.1.2,h.d0,h.d1,h.list.put _ (by show s.done<t;omega) (by show t<=s.done+9;omega),fun y hy=>?_,fun y hy=>?_⟩
    ·rcases mem_putV _ _ _ hy with e | e
     ·rw[e];exact Int.le_refl _
     ·have:=h.bal y e;show y.ballot<=b;omega
    ·rcases mem_putV _ _ _ hy with e | e
     ·rw[e];exact h1.2
     ·exact h.may y e
theorem Good.trim {s:AccV} (h:Good s) (d:Int):Good (trimF s d):=by
 unfold trimF
 split
 ·exact h
 ·rename_i h1
  have h0:=h.d0
  refine⟨h.b0,h.b1,by show 0<=d;omega,by show d<=_;omega,⟨fun x hx=>?_,fun x hx=>?_,List.Pairwise.filter _ h.list.rise⟩,fun x hx=>h.bal x (List.mem_filter.1 hx).1,fun x hx=>h.may x (List.mem_filter.1 hx).1⟩
  ·exact decide_eq_true_eq.mp (List.mem_filter.1 hx).2
  ·have:=h.list.most x (List.mem_filter.1 hx).1
   show x.slot<=d+9
   omega
def plc (l:List VoteV) (p:Nat):VoteV:=(l.find? fun v=>decide (v.slot % 9=(p:Int))).getD zeroV
theorem plc_nil (p:Nat):plc [] p=zeroV:=rfl
theorem plc_cons (x:VoteV) (l:List VoteV) (p:Nat):plc (x::l) p=if x.slot % 9=(p:Int) then x else plc l p:=by
 unfold plc
 rw[List.find?_cons]
 by_cases q:x.slot % 9=(p:Int)
 ·rw[decide_eq_true q,if_pos q];rfl
 ·rw[decide_eq_false q,if_neg q]
theorem plc_mem (l:List VoteV) (p:Nat):plc l p=zeroV\/plc l p∈l/\(plc l p).slot % 9=(p:Int):=by
 induction l with
 | nil=>exact .inl rfl
 | cons x l ih=>
  rw[plc_cons]
  split
  ·rename_i q
   exact .inr ⟨List.mem_cons_self,q⟩
  ·rcases ih with e | ⟨h1,h2⟩
   ·exact .inl e
   ·exact .inr ⟨List.mem_cons_of_mem _ h1,h2⟩
theorem plc_put (v:VoteV) (p:Nat): ∀l:List VoteV,(∀x∈l,x.slot % 9=v.slot % 9->x.slot=v.slot)->plc (putV v l) p=if v.slot % 9=(p:Int) then v else plc l p
 | [],_=>by rw[putV,plc_cons]
 | x::l,h=>by
  rw[putV]
  split
  ·rw[plc_cons]
  ·split
   ·rename_i q1 q2
    rw[plc_cons,plc_cons,q2]
    split<;>rfl
   ·rename_i q1 q2
    rw[plc_cons,plc_cons,plc_put v p l fun y hy=>h y (List.mem_cons_of_mem _ hy)]
    by_cases e:x.slot % 9=(p:Int)
    ·rw[if_pos e,if_pos e,if_neg]
     intro q
     exact q2 (h x List.mem_cons_self (by omega)).symm
    ·rw[if_neg e,if_neg e]
theorem GoodL.tail {d:Int} {x:VoteV} {l:List VoteV} (h:GoodL d (x::l)):GoodL d l:=⟨fun y hy=>h.low y (List.mem_cons_of_mem _ hy),fun y hy=>h.most y (List.mem_cons_of_mem _ hy),(List.pairwise_cons.1 h.rise).2⟩
theorem GoodL.head {d:Int} {x:VoteV} {l:List VoteV} (h:GoodL d (x::l)): ∀y∈l,x.slot<y.slot:=(List.pairwise_cons.1 h.rise).1
theorem plc_trim {e:Int} (he:0<=e) (p:Nat) (d:Int): ∀l:List VoteV,GoodL d l->plc (l.filter fun v=>decide (e<v.slot)) p=if (plc l p).slot <=e then zeroV else plc l p
 | [],_=>by
  rw[List.filter_nil,plc_nil]
  split<;>rfl
 | x::l,h=>by
  have ih:=plc_trim he p d l h.tail
  rw[List.filter_cons,plc_cons]
  by_cases q:x.slot % 9=(p:Int)
  ·rw[if_pos q]
   by_cases k:e<x.slot
   ·rw[if_pos (decide_eq_true k),plc_cons,if_pos q,if_neg (by omega)]
   ·rw[if_neg (by simpa using k),if_pos (by omega),ih]
    have hz:plc l p=zeroV:=by
     rcases plc_mem l p with z | ⟨z1,z2⟩
     ·exact z
     ·have a1:=h.head _ z1
      have a2:=h.most _ (List.mem_cons_of_mem _ z1)
      have a3:=h.low x List.mem_cons_self
      omega
    rw[hz]
    split<;>rfl
  ·rw[if_neg q]
   by_cases k:e<x.slot
   ·rw[if_pos (decide_eq_true k),plc_cons,if_neg q,ih]
   ·rw[if_neg (by simpa using k),ih]
theorem plc_next (d:Int) (hd:0<=d) (i p:Nat) (hi:i<9) (hp:(d+1+(i:Int)) % 9=(p:Int)): ∀l:List VoteV,GoodL d l->
  l.filter (fun v=>decide (v.slot<=d+((i+1:Nat):Int)))=l.filter (fun v=>decide (v.slot<=d+(i:Int)))++(if 0<(plc l p).slot then [plc l p] else [])
 | [],_=>by simp [plc_nil,zeroV]
 | x::l,h=>by
  have ih:=plc_next d hd i p hi hp l h.tail
  have a1:=h.low x List.mem_cons_self
  have a2:=h.most x List.mem_cons_self
  rw[List.filter_cons,List.filter_cons,plc_cons]
  by_cases q:x.slot % 9=(p:Int)
  ·have e:x.slot=d+1+(i:Int):=by omega
   have f: ∀k:Int,k<=x.slot->l.filter (fun v=>decide (v.slot<=k))= []:=fun k hk=>List.filter_eq_nil_iff.2 fun y hy=>by
    have:=h.head y hy
    simp
    omega
   rw[if_pos q,if_pos (decide_eq_true (by omega)),if_neg (by simp only[decide_eq_true_eq];omega),f _ (by omega),f _ (by omega),if_pos (by omega)]
   rfl
  ·rw[if_neg q,ih]
   by_cases k:x.slot<=d+(i:Int)
   ·rw[if_pos (decide_eq_true (by omega)),if_pos (decide_eq_true k)]
    rfl
   ·rw[if_neg (show ¬(decide (x.slot<=d+((i+1:Nat):Int))=true) by rw[decide_eq_true_eq];omega),if_neg (show ¬(decide (x.slot<=d+(i:Int))=true) by rw[decide_eq_true_eq];omega)]
theorem all_none (d:Int) (l:List VoteV) (h:GoodL d l):l.filter (fun v=>decide (v.slot<=d+((0:Nat):Int)))= []:=
 List.filter_eq_nil_iff.2 fun y hy=>by
  have:=h.low y hy
  simp
  omega
theorem all_done (d:Int) (l:List VoteV) (h:GoodL d l):l.filter (fun v=>decide (v.slot<=d+((9:Nat):Int)))=l:=
 List.filter_eq_self.2 fun y hy=>by
  have:=h.most y hy
  simp
  omega
def places (l:List VoteV):List VoteV:=(List.range 9).map (plc l)
theorem places_length (l:List VoteV):(places l).length =9:=by simp [places]
theorem places_get (l:List VoteV) (p:Nat) (h:p<(places l).length):(places l)[p]=plc l p:=by simp [places]
theorem places_nil:places []=List.replicate 9 zeroV:=rfl
theorem places_put {d:Int} {l:List VoteV} (h:GoodL d l) (v:VoteV) (h1:d<v.slot) (h2:v.slot<=d+9) (p:Nat) (hp:v.slot % 9=(p:Int)):places (putV v l)=(places l).set p v:=by
 apply List.ext_getElem
 ·simp [places]
 ·intro i h3 h4
  rw[places_get,List.getElem_set,plc_put v i l fun x hx q=>by
   have a1:=h.low x hx
   have a2:=h.most x hx
   omega]
  by_cases e:p=i
  ·rw[if_pos e,if_pos (by omega)]
  ·rw[if_neg e,if_neg (by omega),places_get]
def refP (v:VoteV):Bool->List VoteV->List VoteV->List VoteV
 | put,acc,[]=>if put then acc else acc++ [v]
 | put,acc,x::l=>refP v (put || decide (v.slot<=x.slot)) (let a:=if !put && decide (v.slot<=x.slot) then acc++ [v] else acc;if x.slot=v.slot then a else a++ [x]) l
theorem refP_put (v:VoteV): ∀(l acc:List VoteV),(∀x∈l,v.slot<x.slot)->refP v true acc l=acc++l
 | [],acc,_=>by simp [refP]
 | x::l,acc,h=>by
  have h1:=h x List.mem_cons_self
  rw[refP]
  simp only[Bool.true_or,Bool.not_true,Bool.false_and,Bool.false_eq_true,if_false]
  rw[if_neg (by omega),refP_put v l _ fun y hy=>h y (List.mem_cons_of_mem _ hy)]
  simp
theorem refP_go (v:VoteV): ∀(l acc:List VoteV),l.Pairwise (fun x y=>x.slot<y.slot)->refP v false acc l=acc++putV v l
 | [],acc,_=>by simp [refP,putV]
 | x::l,acc,h=>by
  obtain⟨h1,h2⟩:=List.pairwise_cons.1 h
  rw[refP,putV]
  simp only[Bool.false_or,Bool.not_false,Bool.true_and]
  by_cases q:v.slot<x.slot
  ·rw[if_pos q,decide_eq_true (show v.slot<=x.slot by omega),if_pos rfl,if_neg (by omega),refP_put v l _ fun y hy=>by have:=h1 y hy;omega]
   simp
  ·rw[if_neg q]
   by_cases e:v.slot=x.slot
   ·rw[if_pos e,decide_eq_true (show v.slot<=x.slot by omega),if_pos rfl,if_pos e.symm,refP_put v l _ fun y hy=>by have:=h1 y hy;omega]
    simp
   ·rw[if_neg e,decide_eq_false (show ¬v.slot<=x.slot by omega),if_neg Bool.false_ne_true,if_neg (fun q=>e q.symm),refP_go v l _ h2]
    simp
def eqVt (a b:VoteV):Bool:=decide (a.slot=b.slot) && decide (a.ballot=b.ballot) && sameB a.bat b.bat
theorem eqVt_iff (a b:VoteV):eqVt a b=true ↔ a=b:=by
 obtain⟨a1,a2,a3⟩:=a
 obtain⟨b1,b2,b3⟩:=b
 simp [eqVt,sameB_iff,and_assoc]
def sameVs:List VoteV->List VoteV->Bool
 | [],[]=>true
 | x::l,y::m=>eqVt x y && sameVs l m
 | _,_=>false
theorem sameVs_iff: ∀a b:List VoteV,sameVs a b=true ↔ a=b
 | [],[]=>by simp [sameVs]
 | x::l,y::m=>by rw[sameVs,Bool.and_eq_true,eqVt_iff,sameVs_iff l m,List.cons.injEq]
 | [],_::_=>by simp [sameVs]
 | _::_,[]=>by simp [sameVs]
theorem sameVs_refl (a:List VoteV):sameVs a a=true:=(sameVs_iff a a).2 rfl
theorem sameVs_len (a b:List VoteV) (h:a.length≠b.length):sameVs a b=false:=by
 cases q:sameVs a b
 ·rfl
 ·rw[(sameVs_iff a b).1 q] at h
  exact absurd rfl h
theorem sameVs_step (a b:List VoteV) (i:Nat) (ha:i<a.length) (hb:i<b.length):sameVs (a.drop i) (b.drop i)=(eqVt a[i] b[i] && sameVs (a.drop (i+1)) (b.drop (i+1))):=by
 rw[List.drop_eq_getElem_cons ha,List.drop_eq_getElem_cons hb,sameVs]
theorem sameVs_end (a b:List VoteV) (i:Nat) (ha:a.length<=i) (hb:b.length<=i):sameVs (a.drop i) (b.drop i)=true:=by
 rw[List.drop_eq_nil_of_le ha,List.drop_eq_nil_of_le hb]
 rfl
end Ac
end Go.Proofs.Ytmodbbmdkealdaa

/- Votes, and an acceptor, in memory; contracts of package accept: isBallot, isSlot, New, Promise, Ballot, Done. -/
set_option linter.unusedVariables false
set_option maxRecDepth 8000
set_option linter.unusedSimpArgs false
namespace Go.Proofs.Ytmodbbmdkealdaa
open Lib (hid)
open Go.RowKit
namespace Ac
open Cm

theorem isBallot_any (v:Int) (w:World):Calls Try.prog 24 #[.int .i64 v] w (Says (highF v 0) w):=by
  unfold highF
  by_cases h1:0<=v<;>by_cases h2:v<=2305843009213693952<;>
    (go_enter Try.func24,Try.ntmps24
     go_wp2
     go_ret
     exact⟨by simp [h1,h2]<;>omega,rfl⟩)
theorem isSlot_any (v:Int) (w:World):Calls Try.prog 26 #[.int .i64 v] w (Says (highF v 1) w):=by
  unfold highF
  by_cases h1:1<=v<;>by_cases h2:v<=2305843009213693952<;>
    (go_enter Try.func26,Try.ntmps26
     go_wp2
     go_ret
     exact⟨by simp [h1,h2]<;>omega,rfl⟩)
structure VoteC where
 slot:Int
 ballot:Int
 bat:BatV
 ua:Option Addr
 uc:Nat
def VoteC.u (x:VoteC):Value:=.slice x.ua x.bat.reqs.length x.uc
def VoteC.val (x:VoteC):VoteV:=⟨x.slot,x.ballot,x.bat⟩
def valsV (L:List VoteC):List VoteV:=L.map VoteC.val
theorem valsV_length (L:List VoteC):(valsV L).length =L.length:=by simp [valsV]
theorem valsV_get (L:List VoteC) (i:Nat) (h:i<L.length) (h':i<(valsV L).length):(valsV L)[i]=L[i].val :=by simp [valsV]
theorem valsV_set (L:List VoteC) (k:Nat) (x:VoteC):valsV (L.set k x)=(valsV L).set k x.val:=by simp [valsV,List.map_set]
theorem valsV_snoc (L:List VoteC) (x:VoteC):valsV (L++ [x])=valsV L++ [x.val]:=by simp [valsV]
def zeroC:VoteC:=⟨0,0,zeroB,none,0⟩
def cellsV (x:VoteC):List Value:= [.int .i64 x.slot,.int .i64 x.ballot,.bool x.bat.fill,.int .i64 x.bat.view,.int .i64 x.bat.tv,.int .i64 x.bat.ts,.int .i64 x.bat.time,x.u]
theorem cellsV_length (x:VoteC):(cellsV x).length =8:=rfl
theorem cellsV_one (x:VoteC): ∀u∈cellsV x,u.oneCell'=true:=by
 intro u hu
 unfold cellsV VoteC.u at hu
 simp only[List.mem_cons,List.not_mem_nil,or_false] at hu
 rcases hu with rfl | rfl | rfl | rfl | rfl | rfl | rfl | rfl<;>rfl
def voteVal (x:VoteC):Value:=.agg #[.int .i64 x.slot,.int .i64 x.ballot,.bool x.bat.fill,.int .i64 x.bat.view,.int .i64 x.bat.tv,.int .i64 x.bat.ts,.int .i64 x.bat.time,x.u]
structure RdV (w:World) (v:Value) (L:List VoteC):Prop where
 row:RdX 8 cellsV w v L
 reqs: ∀x∈L,RdR w x.u x.bat.reqs
theorem RdV.later {w w':World} {v:Value} {L:List VoteC} (h:RdV w v L) (hb:Below w.heap.size w w'):RdV w' v L:=⟨h.row.later hb,fun x hx=>(h.reqs x hx).later hb⟩
theorem RdV.nil (w:World):RdV w (.slice none 0 0) []:=⟨RdX.nil w,fun x hx=>by cases hx⟩
theorem RdV.form {w:World} {v:Value} {L:List VoteC} (h:RdV w v L): ∃a cap,v= .slice a L.length cap:=h.row.form
theorem RdV.len {w:World} {v:Value} {L:List VoteC} (h:RdV w v L):L.length<=9223372036854775807:=h.row.len
theorem rdv_at {w:World} {a:Option Addr} {n cap:Nat} {L:List VoteC} (h:RdX 8 cellsV w (.slice a n cap) L) (i:Nat) (hi:i<L.length):
  ∃b o,a=some ⟨b,o,none⟩/\ ∀w':World,Below w.heap.size w w'->w'.cell? ⟨b,o+i*8,none⟩=some (.int .i64 L[i].slot)/\w'.cell? ⟨b,o+i*8+1,none⟩=some (.int .i64 L[i].ballot)/\w'.cell? ⟨b,o+i*8+2,none⟩=some (.bool L[i].bat.fill)/\w'.cell? ⟨b,o+i*8+3,none⟩=some (.int .i64 L[i].bat.view)/\w'.cell? ⟨b,o+i*8+4,none⟩=some (.int .i64 L[i].bat.tv)/\w'.cell? ⟨b,o+i*8+5,none⟩=some (.int .i64 L[i].bat.ts)/\w'.cell? ⟨b,o+i*8+6,none⟩=some (.int .i64 L[i].bat.time)/\w'.cell? ⟨b,o+i*8+7,none⟩=some L[i].u :=by
 obtain⟨b,o,e,c⟩:=h.at i hi
 exact⟨b,o,e,fun w' hb=>⟨c w' hb 0 _ rfl,c w' hb 1 _ rfl,c w' hb 2 _ rfl,c w' hb 3 _ rfl,c w' hb 4 _ rfl,c w' hb 5 _ rfl,c w' hb 6 _ rfl,c w' hb 7 _ rfl⟩⟩
def OwnR (base:Nat) (w:World) (x:VoteC):Prop:=w.ownsRow base 53 5 x.u x.bat.reqs.length (flatX cellsR x.bat.reqs)
structure OwnV (base:Nat) (w:World) (v:Value) (L:List VoteC):Prop where
 row:w.ownsRow base 49 8 v L.length (flatX cellsV L)
 reqs: ∀x∈L,OwnR base w x
theorem OwnR.zero (base:Nat) (w:World):OwnR base w zeroC:=World.ownsRow_nil _ _ _ _
theorem OwnR.rd {base:Nat} {w:World} {x:VoteC} (h:OwnR base w x):RdR w x.u x.bat.reqs:=RdX.own cellsR_length h
theorem OwnR.later {base:Nat} {w w':World} {x:VoteC} (h:OwnR base w x) (hb:Below w.heap.size w w'):OwnR base w' x:=Rw.own_below h hb
theorem OwnR.keep {base g:Nat} {w w':World} {x:VoteC} (h:OwnR base w x) (hg:w.grownBy w' (some g)) (hb:g<base):OwnR base w' x:=
 Rw.own_keep h fun k hk=>hg.block k (Rw.own_lt h k hk).2 (fun q=>by cases q;have:=(Rw.own_lt h _ hk).1;omega)
theorem OwnV.nil (base:Nat) (w:World):OwnV base w (.slice none 0 0) []:=⟨World.ownsRow_nil _ _ _ _,fun x hx=>by cases hx⟩
theorem OwnV.rd {base:Nat} {w:World} {v:Value} {L:List VoteC} (h:OwnV base w v L):RdV w v L:=⟨RdX.own cellsV_length h.row,fun x hx=>(h.reqs x hx).rd⟩
theorem OwnV.later {base:Nat} {w w':World} {v:Value} {L:List VoteC} (h:OwnV base w v L) (hb:Below w.heap.size w w'):OwnV base w' v L:=⟨Rw.own_below h.row hb,fun x hx=>(h.reqs x hx).later hb⟩
def accCells (b d:Int) (M:List VoteC):Array Value:=(Value.int .i64 b::Value.int .i64 d::flatX cellsV M).toArray
theorem accCells_get (b d:Int) (M:List VoteC) (p:Nat) (hp:p<M.length) (k:Nat) (hk:k<8):(accCells b d M)[2+p*8+k]?=(cellsV M[p])[k]?:=by
 rw[<-flatX_get cellsV_length M p hp k hk]
 unfold accCells
 rw[List.getElem?_toArray,show 2+p*8+k=(p*8+k)+1+1 by omega,List.getElem?_cons_succ,List.getElem?_cons_succ]
theorem accCells_ballot (b d c:Int) (M:List VoteC):(accCells b d M).setIfInBounds 0 (.int .i64 c)=accCells c d M:=by
 unfold accCells
 rw[List.setIfInBounds_toArray]
 rfl
theorem accCells_done (b d c:Int) (M:List VoteC):(accCells b d M).setIfInBounds 1 (.int .i64 c)=accCells b c M:=by
 unfold accCells
 rw[List.setIfInBounds_toArray]
 rfl
structure HasA (w:World) (g m:Nat) (s:AccV):Prop where
 ex: ∃M:List VoteC,w.heap[g]?=some (.cells (accCells s.ballot s.done M) 62)/\valsV M=places s.votes/\ ∀x∈M,OwnR m w x
 gm:g<m
 mw:m<=w.heap.size
section
variable {w w' : World} {g m k : Nat} {s : AccV}
theorem HasA.lt (h:HasA w g m s):g<w.heap.size:=Nat.lt_of_lt_of_le h.gm h.mw
theorem HasA.later (h:HasA w g m s) (hb:Below w.heap.size w w'):HasA w' g m s:=by
 obtain⟨M,h1,h2,h3⟩:=h.ex
 exact⟨⟨M,(hb.block _ h.lt).trans h1,h2,fun x hx=>(h3 x hx).later hb⟩,h.gm,Nat.le_trans h.mw hb.size⟩
theorem HasA.other (h:HasA w g m s) (hg:w.grownBy w' (some k)) (hk:k<m) (hne:g≠k):HasA w' g m s:=by
 obtain⟨M,h1,h2,h3⟩:=h.ex
 exact⟨⟨M,(hg.block _ h.lt (fun q=>hne (by cases q;rfl))).trans h1,h2,fun x hx=>(h3 x hx).keep hg hk⟩,h.gm,Nat.le_trans h.mw hg.size⟩
theorem HasA.c0 (h:HasA w g m s):w.cell? ⟨g,0,none⟩=some (.int .i64 s.ballot):=by
 obtain⟨M,h1, -, -⟩:=h.ex
 exact cell_at h1 0
theorem HasA.c1 (h:HasA w g m s):w.cell? ⟨g,1,none⟩=some (.int .i64 s.done):=by
 obtain⟨M,h1, -, -⟩:=h.ex
 exact cell_at h1 1
theorem HasA.open_ (h:HasA w g m s) (j:Nat):w.frozen? ⟨g,j,none⟩=false:=by
 obtain⟨M,h1, -, -⟩:=h.ex
 exact frozen_at h1 j
theorem HasA.putB (h:HasA w g m s) (b:Int):HasA (w.setCell ⟨g,0,none⟩ (.int .i64 b)) g m ⟨b,s.done,s.votes⟩:=by
 obtain⟨M,h1,h2,h3⟩:=h.ex
 refine⟨⟨M,by rw[set_atB h1,accCells_ballot],h2,fun x hx=>Rw.own_keep (h3 x hx) fun k hk=>?_⟩,h.gm,by simpa using h.mw⟩
 exact Below.heap_setCell _ _ _ _ (by have:=(Rw.own_lt (h3 x hx) k hk).1;have:=h.gm;show k≠g;omega)
theorem HasA.putD (h:HasA w g m s) (d:Int) (M:List VoteC) (h1:w.heap[g]?=some (.cells (accCells s.ballot s.done M) 62)):(w.setCell ⟨g,1,none⟩ (.int .i64 d)).heap[g]?=some (.cells (accCells s.ballot d M) 62):=by
 rw[set_atB h1,accCells_done]
theorem grown_setA (w:World) (g j:Nat) (u:Value):w.grownBy (w.setCell ⟨g,j,none⟩ u) (some g):=
 ⟨rfl,rfl,rfl,by simp,fun k hk hne=>Below.heap_setCell _ _ _ _ (fun q=>hne (by rw[show k=g from q]))⟩
theorem HasA.new (h1:w.heap[g]?=some (.cells (accCells 0 0 (List.replicate 9 zeroC)) 62)) (h2:g<m) (h3:m<=w.heap.size):HasA w g m newA:=
 ⟨⟨List.replicate 9 zeroC,h1,by rw[show newA.votes= [] from rfl,places_nil];simp [valsV,VoteC.val,zeroC,zeroV],fun x hx=>by rw[(List.mem_replicate.1 hx).2];exact OwnR.zero _ _⟩,h2,h3⟩
end

theorem zeroA:(Try.prog.info? 62).map (fun i=>i.zero)=some (some (.agg (accCells 0 0 (List.replicate 9 zeroC)))):=by kernel_rfl
theorem run_zero {P:Program} {t:TypeId} {z:Value} (h:(P.info? t).map (fun i=>i.zero)=some (some z)) (w:World):(zeroValue t).run P w= .ok z w:=by
 cases q:P.info? t with
 | none=>rw[q] at h;cases h
 | some i=>
  rw[q] at h
  have hz:i.zero=some z:=by simpa using h
  simp [zeroValue,typeInfo,q,hz]
theorem New_any (w:World):Calls Try.prog 10 #[] w (fun e w'=>e= .returned (.pointer (some ⟨w.heap.size,0,none⟩))/\w'=w.alloc (.cells (accCells 0 0 (List.replicate 9 zeroC)) 62)):=by
 have hz:=fun w=>run_zero zeroA w
 go_enter Try.func10,Try.ntmps10
 go_wp2
 go_ret
 exact⟨rfl,rfl⟩
def DidA (g m:Nat) (r:AccV × Int) (w:World) (e:Ending) (w':World):Prop:=e= .returned (.int .i64 r.2)/\HasA w' g m r.1/\w.grownBy w' (some g)
theorem Promise_any (g m:Nat) (s:AccV) (b:Int) (w:World) (h:HasA w g m s):Calls Try.prog 12 #[.pointer (some ⟨g,0,none⟩),.int .i64 b] w (DidA g m (promF s b) w):=by
 have CB:=hid (fun w=>isBallot_any b w)
 have c0:=h.c0
 have cf:=h.open_ 0
 have HH:=hid h
 clear h
 rcases q:promF s b with ⟨s',c⟩
 unfold promF at q
 by_cases h1:highF b 0=false
 ·rw[if_pos h1] at q
  rw[h1] at CB
  cases q
  go_enter Try.func12,Try.ntmps12
  go_wp2_with (go_at_call 24;refine(CB.out _).mono ?_;rintro e w1 ⟨rfl,rfl⟩)
  go_ret
  exact⟨rfl,HH.out,World.grownBy.refl _ _⟩
 rw[if_neg h1] at q
 rw[Bool.not_eq_false] at h1
 rw[h1] at CB
 by_cases h2:b<s.ballot
 ·rw[if_pos h2] at q
  cases q
  have d:decide (b<s.ballot)=true:=decide_eq_true h2
  clear h2
  go_enter Try.func12,Try.ntmps12
  go_wp2_with (go_at_call 24;refine(CB.out _).mono ?_;rintro e w1 ⟨rfl,rfl⟩)
  go_ret
  exact⟨rfl,HH.out,World.grownBy.refl _ _⟩
 rw[if_neg h2] at q
 cases q
 have d:decide (b<s.ballot)=false:=decide_eq_false h2
 clear h2
 go_enter Try.func12,Try.ntmps12
 go_wp2_with (go_at_call 24;refine(CB.out _).mono ?_;rintro e w1 ⟨rfl,rfl⟩)
 go_ret
 exact⟨rfl,HH.out.putB b,grown_setA _ _ _ _⟩
theorem Ballot_any (g m:Nat) (s:AccV) (w:World) (h:HasA w g m s):Calls Try.prog 18 #[.pointer (some ⟨g,0,none⟩)] w (fun e w'=>e= .returned (.int .i64 s.ballot)/\w'=w):=by
 have c0:=h.c0
 clear h
 go_enter Try.func18,Try.ntmps18
 go_wp2
 go_ret
 exact⟨rfl,rfl⟩
theorem Done_any (g m:Nat) (s:AccV) (w:World) (h:HasA w g m s):Calls Try.prog 19 #[.pointer (some ⟨g,0,none⟩)] w (fun e w'=>e= .returned (.int .i64 s.done)/\w'=w):=by
 have c0:=h.c1
 clear h
 go_enter Try.func19,Try.ntmps19
 go_wp2
 go_ret
 exact⟨rfl,rfl⟩
end Ac
end Go.Proofs.Ytmodbbmdkealdaa
