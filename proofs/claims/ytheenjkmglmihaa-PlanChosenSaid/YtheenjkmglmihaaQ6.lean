/- Texts laid together by program. -/
import Derived.Test.YtheenjkmglmihaaQ5
/- What package plan answers, as plain functions over promises. No program is named here. -/
set_option linter.unusedVariables false
set_option maxRecDepth 8000
set_option linter.unusedSimpArgs false
namespace Go.Proofs.Ytheenjkmglmihaa
open Lib (hid)
open Go.RowKit
namespace Pl
open Cm Ac

structure PromV where
 who:Int
 done:Int
 tv:Int
 ts:Int
 time:Int
 votes:List VoteV
structure PlanV where
 done:Int
 tv:Int
 ts:Int
 time:Int
 bats:List BatV
 ev:Int
 es:Int
 last:Int
def zeroL:PlanV:=⟨0,0,0,0,[],0,0,0⟩
def voteOk (d b:Int) (v:VoteV):Bool:=decide (b<v.slot) && decide (v.slot<=d+9) && decide (v.slot<=2305843009213693952) && highF v.ballot 0 && mayB v.bat
def mayVs (d:Int):Int->List VoteV->Bool
 | _,[]=>true
 | b,v::l=>voteOk d b v && mayVs d v.slot l
def headP (p:PromV):Bool:=decide (0<=p.who) && decide (p.who<7) && highF p.done 0 && (highF p.tv 0 && highF p.ts 0) && highF p.time 0
def mayP (p:PromV):Bool:=headP p && decide (p.votes.length<=9) && mayVs p.done p.done p.votes
theorem mayVs_step (d b:Int) (l:List VoteV) (i:Nat) (h:i<l.length):mayVs d b (l.drop i)=(voteOk d b l[i] && mayVs d l[i].slot (l.drop (i+1))):=by
 rw[List.drop_eq_getElem_cons h,mayVs]
theorem mayVs_end (d b:Int) (l:List VoteV) (i:Nat) (h:l.length<=i):mayVs d b (l.drop i)=true:=by
 rw[List.drop_eq_nil_of_le h]
 rfl
def insP (x:PromV):List PromV->List PromV
 | []=> [x]
 | y::l=>if x.who<y.who then x::y::l else y::insP x l
def sortP (l:List PromV):List PromV:=l.foldl (fun s x=>insP x s) []
def hasW (l:List PromV) (c:Int):Bool:=l.any fun p=>decide (p.who=c)
def okS:List PromV->List PromV->Bool
 | _,[]=>true
 | p,x::l=>mayP x && !hasW p x.who && okS (p++ [x]) l
theorem okS_step (l:List PromV) (i:Nat) (h:i<l.length):okS (l.take i) (l.drop i)=(mayP l[i] && !hasW (l.take i) l[i].who && okS (l.take (i+1)) (l.drop (i+1))):=by
 rw[List.drop_eq_getElem_cons h,okS,List.take_succ_eq_append_getElem h]
def newF (p:PromV):List PromV->PromV
 | []=>p
 | x::l=>newF (if p.done<x.done then x else p) l
def better (v o:VoteV):Bool:=decide (o.slot=0) || decide (o.ballot<v.ballot)
structure BestV where
 row:List VoteV
 count:Int
def stepB (d:Int) (s:BestV) (v:VoteV):BestV:=
 if 0<=v.slot - d - 1/\better v (s.row.getD (v.slot - d - 1).toNat zeroV)=true then ⟨s.row.set (v.slot - d - 1).toNat v,max s.count (v.slot - d)⟩ else s
def votesB (d:Int) (s:BestV) (l:List VoteV):BestV:=l.foldl (stepB d) s
def bestB (d:Int) (s:BestV) (l:List PromV):BestV:=l.foldl (fun s p=>votesB d s p.votes) s
def newB:BestV:=⟨List.replicate 9 zeroV,0⟩
def batOf (v:VoteV):BatV:=if v.slot=0 then fillB else v.bat
def batsF (l:List PromV) (d:Int):List BatV:=((bestB d newB l).row.take (bestB d newB l).count.toNat).map batOf
structure TipV where
 tv:Int
 ts:Int
 time:Int
def walkF:TipV->Int->List BatV->TipV
 | s,_,[]=>s
 | s,t,b::l=>walkF (if !b.fill && (decide (b.tv=s.tv) && decide (b.ts=s.ts)) then ⟨b.view,t,max s.time b.time⟩ else s) (t+1) l
def startF (t:Int):Int:=if highF t 0 then t else 0
def planF (l:List PromV):PlanV:=
 match l with
 | []=>zeroL
 | p::r=>
  let x:=newF p r
  let b:=batsF l x.done
  let e:=walkF ⟨x.tv,x.ts,x.time⟩ (startF (x.done+1)) b
  ⟨x.done,x.tv,x.ts,x.time,b,e.tv,e.ts,e.time⟩
def makeF (l:List PromV):PlanV × Int:=
 if l.length=0 then (zeroL,6) else if okS [] l=false then (zeroL,1) else (planF (sortP l),0)
theorem walkF_step (s:TipV) (t:Int) (l:List BatV) (i:Nat) (h:i<l.length):walkF s t (l.drop i)=walkF (if !l[i].fill && (decide (l[i].tv =s.tv) && decide (l[i].ts =s.ts)) then ⟨l[i].view,t,max s.time l[i].time⟩ else s) (t+1) (l.drop (i+1)):=by
 rw[List.drop_eq_getElem_cons h,walkF]
theorem mem_insP (x:PromV): ∀(l:List PromV) (y:PromV),y∈insP x l ↔ y=x\/y∈l
 | [],y=>by simp [insP]
 | z::l,y=>by
  rw[insP]
  split
  ·simp
  ·simp only[List.mem_cons,mem_insP x l y]
   constructor
   ·rintro (h | h | h)
    ·exact .inr (.inl h)
    ·exact .inl h
    ·exact .inr (.inr h)
   ·rintro (h | h | h)
    ·exact .inr (.inl h)
    ·exact .inl h
    ·exact .inr (.inr h)
theorem insP_perm (x:PromV): ∀l:List PromV,(insP x l).Perm (x::l)
 | []=>List.Perm.refl _
 | z::l=>by
  rw[insP]
  split
  ·exact List.Perm.refl _
  ·exact(List.Perm.cons z (insP_perm x l)).trans (List.Perm.swap x z l)
theorem sortG_perm: ∀(l s:List PromV),(l.foldl (fun s x=>insP x s) s).Perm (l++s)
 | [],s=>List.Perm.refl _
 | x::l,s=>by
  rw[List.foldl_cons]
  refine(sortG_perm l (insP x s)).trans ?_
  refine(List.Perm.append_left l (insP_perm x s)).trans ?_
  exact List.perm_middle
theorem sortP_perm (l:List PromV):(sortP l).Perm l:=by
 have:=sortG_perm l []
 rw[List.append_nil] at this
 exact this
theorem sortP_length (l:List PromV):(sortP l).length =l.length:=(sortP_perm l).length_eq
theorem insP_rise (x:PromV): ∀l:List PromV,l.Pairwise (fun a b=>a.who<=b.who)->(insP x l).Pairwise fun a b=>a.who<=b.who
 | [],_=>by simp [insP]
 | y::l,h=>by
  obtain⟨h1,h2⟩:=List.pairwise_cons.1 h
  rw[insP]
  split
  ·rename_i q
   refine List.pairwise_cons.2 ⟨fun z hz=>?_,h⟩
   rcases List.mem_cons.1 hz with e | hz
   ·rw[e];omega
   ·have:=h1 z hz;omega
  ·rename_i q
   refine List.pairwise_cons.2 ⟨fun z hz=>?_,insP_rise x l h2⟩
   rcases (mem_insP x l z).1 hz with e | hz
   ·rw[e];omega
   ·exact h1 z hz
theorem sortG_rise: ∀(l s:List PromV),s.Pairwise (fun a b=>a.who<=b.who)->(l.foldl (fun s x=>insP x s) s).Pairwise fun a b=>a.who<=b.who
 | [],s,h=>h
 | x::l,s,h=>sortG_rise l (insP x s) (insP_rise x s h)
theorem sortP_rise (l:List PromV):(sortP l).Pairwise fun a b=>a.who<=b.who:=sortG_rise l [] List.Pairwise.nil
theorem hasW_mem (l:List PromV) (c:Int):hasW l c=true ↔ ∃p∈l,p.who=c:=by
 unfold hasW
 simp [List.any_eq_true]
theorem okS_iff: ∀(l p:List PromV),okS p l=true ↔ (∀x∈l,mayP x=true)/\l.Pairwise (fun a b=>a.who≠b.who)/\ ∀x∈l,∀y∈p,y.who≠x.who
 | [],p=>by simp [okS]
 | x::l,p=>by
  rw[okS]
  simp only[Bool.and_eq_true,Bool.not_eq_true']
  rw[okS_iff l (p++ [x])]
  have hw:hasW p x.who=false ↔ ∀y∈p,y.who≠x.who:=by
   constructor
   ·intro h y hy e
    have:=(hasW_mem p x.who).2 ⟨y,hy,e⟩
    rw[h] at this
    cases this
   ·intro h
    cases q:hasW p x.who
    ·rfl
    ·obtain⟨y,hy,e⟩:=(hasW_mem p x.who).1 q
     exact absurd e (h y hy)
  rw[hw]
  simp only[List.forall_mem_cons,List.pairwise_cons,List.mem_append,List.mem_singleton]
  constructor
  ·rintro ⟨⟨h1,h2⟩,h3,h4,h5⟩
   exact⟨⟨h1,h3⟩,⟨fun z hz e=>h5 z hz x (.inr rfl) e,h4⟩,h2,fun z hz y hy=>h5 z hz y (.inl hy)⟩
  ·rintro ⟨⟨h1,h3⟩,⟨h4,h5⟩,h2,h6⟩
   exact⟨⟨h1,h2⟩,h3,h5,fun z hz y hy=>hy.elim (h6 z hz y) fun e=>by rw[e];exact h4 z hz⟩
theorem rise_strict {l:List PromV} (h:l.Pairwise fun a b=>a.who<=b.who) (h2:l.Pairwise fun a b=>a.who≠b.who):l.Pairwise fun a b=>a.who<b.who:=
 (h.and h2).imp fun⟨p,q⟩=>by omega
theorem sortP_strict {l:List PromV} (h:okS [] l=true):(sortP l).Pairwise fun a b=>a.who<b.who:=
 rise_strict (sortP_rise l) (((sortP_perm l).pairwise_iff (fun {a b} r e=>r e.symm)).2 ((okS_iff l []).1 h).2.1)
end Pl
end Go.Proofs.Ytheenjkmglmihaa

/- Promises in memory. -/
set_option linter.unusedVariables false
set_option maxRecDepth 8000
set_option linter.unusedSimpArgs false
namespace Go.Proofs.Ytheenjkmglmihaa
open Lib (hid)
open Go.RowKit
namespace Pl
open Cm Ac

structure PromC where
 who:Int
 done:Int
 tv:Int
 ts:Int
 time:Int
 votes:List VoteC
 va:Option Addr
 vc:Nat
def PromC.u (p:PromC):Value:=.slice p.va p.votes.length p.vc
def PromC.val (p:PromC):PromV:=⟨p.who,p.done,p.tv,p.ts,p.time,valsV p.votes⟩
def valsP (L:List PromC):List PromV:=L.map PromC.val
theorem valsP_length (L:List PromC):(valsP L).length =L.length:=by simp [valsP]
theorem valsP_get (L:List PromC) (i:Nat) (h:i<L.length) (h':i<(valsP L).length):(valsP L)[i]=L[i].val :=by simp [valsP]
def promVal (p:PromC):Value:=.agg #[.int .i64 p.who,.int .i64 p.done,.int .i64 p.tv,.int .i64 p.ts,.int .i64 p.time,p.u]
def promObj (p:PromC):Obj:=.cells #[.int .i64 p.who,.int .i64 p.done,.int .i64 p.tv,.int .i64 p.ts,.int .i64 p.time,p.u] 29
def cellsP (p:PromC):List Value:= [.int .i64 p.who,.int .i64 p.done,.int .i64 p.tv,.int .i64 p.ts,.int .i64 p.time,p.u]
theorem cellsP_length (p:PromC):(cellsP p).length =6:=rfl
theorem cellsP_one (p:PromC): ∀u∈cellsP p,u.oneCell'=true:=by
 intro u hu
 unfold cellsP PromC.u at hu
 simp only[List.mem_cons,List.not_mem_nil,or_false] at hu
 rcases hu with rfl | rfl | rfl | rfl | rfl | rfl<;>rfl
structure RdP (w:World) (v:Value) (L:List PromC):Prop where
 row:RdX 6 cellsP w v L
 votes: ∀x∈L,RdV w x.u x.votes
theorem RdP.later {w w':World} {v:Value} {L:List PromC} (h:RdP w v L) (hb:Below w.heap.size w w'):RdP w' v L:=⟨h.row.later hb,fun x hx=>(h.votes x hx).later hb⟩
theorem RdP.form {w:World} {v:Value} {L:List PromC} (h:RdP w v L): ∃a cap,v= .slice a L.length cap:=h.row.form
theorem RdP.nil (w:World):RdP w (.slice none 0 0) []:=⟨RdX.nil w,fun x hx=>by cases hx⟩
theorem rdp_at {w:World} {a:Option Addr} {n cap:Nat} {L:List PromC} (h:RdX 6 cellsP w (.slice a n cap) L) (i:Nat) (hi:i<L.length):
  ∃b o,a=some ⟨b,o,none⟩/\ ∀w':World,Below w.heap.size w w'->w'.cell? ⟨b,o+i*6,none⟩=some (.int .i64 L[i].who)/\w'.cell? ⟨b,o+i*6+1,none⟩=some (.int .i64 L[i].done)/\w'.cell? ⟨b,o+i*6+2,none⟩=some (.int .i64 L[i].tv)/\w'.cell? ⟨b,o+i*6+3,none⟩=some (.int .i64 L[i].ts)/\w'.cell? ⟨b,o+i*6+4,none⟩=some (.int .i64 L[i].time)/\w'.cell? ⟨b,o+i*6+5,none⟩=some L[i].u :=by
 obtain⟨b,o,e,c⟩:=h.at i hi
 exact⟨b,o,e,fun w' hb=>⟨c w' hb 0 _ rfl,c w' hb 1 _ rfl,c w' hb 2 _ rfl,c w' hb 3 _ rfl,c w' hb 4 _ rfl,c w' hb 5 _ rfl⟩⟩
theorem box6p {w w':World} {x0 x1 x2 x3 x4 x5:Value} {t:TypeId} (h:Below (w.alloc (.cells #[x0,x1,x2,x3,x4,x5] t)).heap.size (w.alloc (.cells #[x0,x1,x2,x3,x4,x5] t)) w'):
  w'.cell? ⟨w.heap.size,0,none⟩=some x0/\w'.cell? ⟨w.heap.size,1,none⟩=some x1/\w'.cell? ⟨w.heap.size,2,none⟩=some x2/\w'.cell? ⟨w.heap.size,3,none⟩=some x3/\w'.cell? ⟨w.heap.size,4,none⟩=some x4/\w'.cell? ⟨w.heap.size,5,none⟩=some x5:=by
 have h0:w.heap.size<(w.alloc (.cells #[x0,x1,x2,x3,x4,x5] t)).heap.size :=by simp
 have key: ∀k,w'.cell? ⟨w.heap.size,k,none⟩=#[x0,x1,x2,x3,x4,x5][k]?:=fun k=>by
  rw[h.cell (p:=⟨w.heap.size,k,none⟩) h0];simp [go_sem]
 exact⟨key 0,key 1,key 2,key 3,key 4,key 5⟩
theorem box8p {w w':World} {x0 x1 x2 x3 x4 x5 x6 x7:Value} {t:TypeId} (h:Below (w.alloc (.cells #[x0,x1,x2,x3,x4,x5,x6,x7] t)).heap.size (w.alloc (.cells #[x0,x1,x2,x3,x4,x5,x6,x7] t)) w'):
  w'.cell? ⟨w.heap.size,0,none⟩=some x0/\w'.cell? ⟨w.heap.size,1,none⟩=some x1/\w'.cell? ⟨w.heap.size,2,none⟩=some x2/\w'.cell? ⟨w.heap.size,3,none⟩=some x3/\w'.cell? ⟨w.heap.size,4,none⟩=some x4/\w'.cell? ⟨w.heap.size,5,none⟩=some x5/\w'.cell? ⟨w.heap.size,6,none⟩=some x6/\w'.cell? ⟨w.heap.size,7,none⟩=some x7:=by
 have h0:w.heap.size<(w.alloc (.cells #[x0,x1,x2,x3,x4,x5,x6,x7] t)).heap.size :=by simp
 have key: ∀k,w'.cell? ⟨w.heap.size,k,none⟩=#[x0,x1,x2,x3,x4,x5,x6,x7][k]?:=fun k=>by
  rw[h.cell (p:=⟨w.heap.size,k,none⟩) h0];simp [go_sem]
 exact⟨key 0,key 1,key 2,key 3,key 4,key 5,key 6,key 7⟩
end Pl
end Go.Proofs.Ytheenjkmglmihaa

/- Contracts of package plan: isNumber, mayVotes, May, isBetter. -/
set_option linter.unusedVariables false
set_option maxRecDepth 8000
set_option linter.unusedSimpArgs false
namespace Go.Proofs.Ytheenjkmglmihaa
open Lib (hid)
open Go.RowKit
namespace Pl
open Cm Ac

theorem isNumP_any (v:Int) (w:World):Calls Try.prog 21 #[.int .i64 v] w (Says (highF v 0) w):=by
  unfold highF
  by_cases h1:0<=v<;>by_cases h2:v<=2305843009213693952<;>
    (go_enter Try.func21,Try.ntmps21
     go_wp2
     go_ret
     exact⟨by simp [h1,h2]<;>omega,rfl⟩)
theorem voteOk_1 {d b:Int} {v:VoteV} (h:v.slot<=b):voteOk d b v=false:=by
 unfold voteOk
 rw[decide_eq_false (by omega: ¬b<v.slot)]
 rfl
theorem voteOk_2 {d b M:Int} {v:VoteV} (hM: ∀s,s<=M ↔ s<=d+9/\s<=2305843009213693952) (h:M<v.slot):voteOk d b v=false:=by
 unfold voteOk
 by_cases h1:v.slot<=d+9
 ·by_cases h2:v.slot<=2305843009213693952
  ·have:=(hM v.slot).2 ⟨h1,h2⟩
   omega
  ·rw[decide_eq_false h2]
   simp
 ·rw[decide_eq_false h1]
  simp
theorem voteOk_3 {d b M:Int} {v:VoteV} (hM: ∀s,s<=M ↔ s<=d+9/\s<=2305843009213693952) (h1: ¬v.slot<=b) (h2: ¬M<v.slot):voteOk d b v=(highF v.ballot 0 && mayB v.bat):=by
 unfold voteOk
 obtain⟨a1,a2⟩:=(hM v.slot).1 (by omega)
 rw[decide_eq_true (by omega:b<v.slot),decide_eq_true a1,decide_eq_true a2]
 simp
set_option maxHeartbeats 4000000 in
theorem mayVotes_any (v:Value) (l:List VoteC) (d:Int) (w:World) (h:RdV w v l) (hd0:0<=d) (hd1:d<=2305843009213693952):Calls Try.prog 22 #[v,.int .i64 d] w (SaysB (decide (l.length<=9) && mayVs d d (valsV l)) w):=by
 have hm:=h.len
 have hl0:=valsV_length l
 obtain⟨a,cap,hv,hlc,hcm, -⟩:=h.row.ex
 subst hv
 by_cases c3:l.length<=9
 case neg=>
  rw[decide_eq_false c3]
  clear h hl0
  have d3:decide (9<(l.length:Int))=true:=by simp;omega
  generalize l.length=L at*
  go_enter Try.func22,Try.ntmps22
  go_wp2
  go_ret
  exact⟨by simp,Below.refl _ _⟩
 have d3:decide (9<(l.length:Int))=false:=by simp;omega
 rw[decide_eq_true c3,Bool.true_and]
 have HA:=hid (fun i hi=>rdv_at h.row i hi)
 have HR:=hid h.reqs
 have HD:=hid (fun b i hi=>mayVs_step d b (valsV l) i hi)
 have HE:=hid (fun b=>mayVs_end d b (valsV l) (valsV l).length (Nat.le_refl _))
 have HG:=hid (fun i (hi:i<l.length) hi'=>valsV_get l i hi hi')
 clear h
 generalize valsV l=V at HD HE HG hl0 ⊢
 obtain⟨L,hL⟩: ∃L,l.length=L:=⟨_,rfl⟩
 have HL:=hid hL
 rw[hL] at hm c3 d3 hl0 hlc ⊢
 clear hL
 rw[hl0] at HE
 have HV:=hid hl0
 obtain⟨M,hM⟩: ∃M:Int,(if (2305843009213693952:Int)<d+9 then 2305843009213693952 else d+9)=M:=⟨_,rfl⟩
 have HMM:Hid (∀s,s<=M ↔ s<=d+9/\s<=2305843009213693952):=hid (fun s=>by rw[<-hM];split<;>omega)
 have e9:IntKind.i64.wrap (d+9)=d+9:=by rw[IntKind.wrap_i64];omega
 clear hl0
 have hid0:=hid hd0
 have hid1:=hid hd1
 clear hd0 hd1
 go_enter Try.func22,Try.ntmps22
 go_wp2
 go_loopw [5,8,18] (fun b y i wr=> ∃(j:Nat) (B:Int),j<=L/\i= .int .i64 j/\b= .int .i64 B/\Hid (Below w.heap.size w wr)/\Hid (mayVs d d V=mayVs d B (V.drop j))) (fun _ _ i _=>L - (intOf i).toNat)
 case atStart=>exact⟨0,d,by omega,rfl,rfl,hid (Below.refl _ _),hid rfl⟩
 case round=>
  obtain⟨j,B,hj,rfl,rfl,HB,ha⟩:=hrel
  by_cases hlt:j<L
  ·have hjl:j<l.length:=by rw[HL.out];exact hlt
   have hjv:j<V.length:=by rw[HV.out];exact hlt
   obtain⟨b,o,rfl,hc⟩:=HA.out j hjl
   obtain⟨q0,q1,q2,q3,q4,q5,q6,q7⟩:=hc _ HB.out
   have hd:=HD.out B j hjv
   rw[HG.out j hjl hjv] at hd
   have hr:=HR.out l[j] (List.getElem_mem hjl)
   clear HA HD HG hc HR
   generalize l[j]=x at q0 q1 q2 q3 q4 q5 q6 q7 hd hr
   obtain⟨xs,xb,xx,xa,xc⟩:=x
   obtain⟨xf,xv,xtv,xts,xt,xr⟩:=xx
   unfold VoteC.val at hd
   unfold VoteC.u at hr q7
   dsimp only at q0 q1 q2 q3 q4 q5 q6 q7 hd hr
   have HB1:=hid (stepAlloc HB.out (.cells #[.int .i64 xs,.int .i64 xb,.bool xf,.int .i64 xv,.int .i64 xtv,.int .i64 xts,.int .i64 xt,.slice xa xr.length xc] 49))
   have cn:=fun W=>isNumP_any xb W
   have cm:=fun W (hb:Below w.heap.size w W)=>MayB_any ⟨xf,xv,xtv,xts,xt,xr⟩ _ W (hr.later hb)
   have g1:=fun h=>voteOk_1 (d:=d) (b:=B) (v:=⟨xs,xb,⟨xf,xv,xtv,xts,xt,xr⟩⟩) h
   have g2:=fun h=>voteOk_2 (d:=d) (b:=B) (v:=⟨xs,xb,⟨xf,xv,xtv,xts,xt,xr⟩⟩) HMM.out h
   have g3:=fun h h'=>voteOk_3 (d:=d) (b:=B) (v:=⟨xs,xb,⟨xf,xv,xtv,xts,xt,xr⟩⟩) HMM.out h h'
   dsimp only at g1 g2 g3
   unfold batVal at cm
   dsimp only at cm
   generalize voteOk d B ⟨xs,xb,⟨xf,xv,xtv,xts,xt,xr⟩⟩=V1 at hd g1 g2 g3
   generalize mayB ⟨xf,xv,xtv,xts,xt,xr⟩=V2 at cm g3
   generalize highF xb 0=V3 at cn g3
   generalize xr.length=xn at*
   have CN:=hid cn
   have CM:=hid cm
   have HDD:=hid hd
   obtain⟨y0,y1,y2,y3,y4,y5,y6,y7⟩:=box8p (Below.refl _ (wr.alloc (.cells #[.int .i64 xs,.int .i64 xb,.bool xf,.int .i64 xv,.int .i64 xtv,.int .i64 xts,.int .i64 xt,.slice xa xn xc] 49)))
   have hj0:(0:Int)<=(j:Int):=by omega
   have hj1:(j:Int)<(L:Int):=by omega
   clear cn cm hr hjl hjv hd
   by_cases k1:xs<=B
   ·have K:=hid (g1 k1)
    have d1:decide (xs<=B)=true:=decide_eq_true k1
    clear g1 g2 g3 k1
    go_wp2
    go_ret
    exact⟨by rw[ha.out,HDD.out,K.out];simp,HB1.out⟩
   have d1:decide (xs<=B)=false:=decide_eq_false k1
   by_cases k2:M<xs
   ·have K:=hid (g2 k2)
    have d2:decide (M<xs)=true:=decide_eq_true k2
    clear g1 g2 g3 k1 k2
    go_wp2
    go_ret
    exact⟨by rw[ha.out,HDD.out,K.out];simp,HB1.out⟩
   have d2:decide (M<xs)=false:=decide_eq_false k2
   have K:=hid (g3 k1 k2)
   clear g1 g2 g3 k1 k2
   cases V3
   case false=>
    go_wp2_with (go_at_call 21;refine(CN.out _).mono ?_;rintro e w1 ⟨rfl,rfl⟩)
    go_ret
    exact⟨by rw[ha.out,HDD.out,K.out];simp,HB1.out⟩
   cases V2
   case false=>
    go_wp2_with (first
     | (go_at_call 21;refine(CN.out _).mono ?_;rintro e w1 ⟨rfl,rfl⟩)
     | (go_at_call 36;refine(CM.out _ HB1.out).mono ?_;rintro e w1 ⟨rfl,hb1⟩))
    go_ret
    exact⟨by rw[ha.out,HDD.out,K.out];simp,step HB1.out hb1⟩
   go_wp2_with (first
    | (go_at_call 21;refine(CN.out _).mono ?_;rintro e w1 ⟨rfl,rfl⟩)
    | (go_at_call 36;refine(CM.out _ HB1.out).mono ?_;rintro e w1 ⟨rfl,hb1⟩;obtain⟨z0,z1,z2,z3,z4,z5,z6,z7⟩:=box8p hb1))
   go_roundw
   case rel=>exact⟨j+1,xs,by omega,by go_num,rfl,hid (step HB1.out hb1),hid (by rw[ha.out,HDD.out,K.out];simp)⟩
   case measure=>simp [intOf];omega
  ·obtain rfl:j=L:=by omega
   go_wp2
   go_ret
   exact⟨by rw[ha.out,HE.out];rfl,HB.out⟩
theorem mayP_val (p:PromC):mayP p.val=(headP p.val && (decide (p.votes.length<=9) && mayVs p.done p.done (valsV p.votes))):=by
 unfold mayP
 rw[Bool.and_assoc]
 show _=(headP p.val && _)
 rw[show(p.val).votes.length =p.votes.length from valsV_length p.votes]
 rfl
theorem highF_two {v:Int} (h:highF v 0=true):0<=v/\v<=2305843009213693952:=by
 unfold highF at h
 simpa using h
set_option maxHeartbeats 4000000 in
theorem MayP_any (p:PromC) (w:World) (h:RdV w p.u p.votes):Calls Try.prog 9 #[promVal p] w (SaysB (mayP p.val) w):=by
 rw[mayP_val]
 unfold headP
 obtain⟨pw,pd,pv,ps,pt,pl,pa,pc⟩:=p
 unfold PromC.u at h
 unfold promVal PromC.val PromC.u
 dsimp only at h ⊢
 have HB:=hid (newAlloc w (.cells #[.int .i64 pw,.int .i64 pd,.int .i64 pv,.int .i64 ps,.int .i64 pt,.slice pa pl.length pc] 29))
 have C1:=hid (fun w=>isNumP_any pd w)
 have C2:=hid (fun w=>isNumP_any pv w)
 have C3:=hid (fun w=>isNumP_any ps w)
 have C4:=hid (fun w=>isNumP_any pt w)
 have C5:=hid (fun h0 h1=>mayVotes_any _ pl pd _ (h.later HB.out) h0 h1)
 have HQ:=hid (@highF_two pd)
 clear h
 generalize (decide (pl.length<=9) && mayVs pd pd (valsV pl))=H5 at C5 ⊢
 generalize pl.length=L at*
 generalize highF pd 0=H1 at C1 HQ ⊢
 generalize highF pv 0=H2 at C2 ⊢
 generalize highF ps 0=H3 at C3 ⊢
 generalize highF pt 0=H4 at C4 ⊢
 by_cases k1:0<=pw
 case neg=>
  have d1:decide (0<=pw)=false:=decide_eq_false k1
  clear k1
  go_enter Try.func9,Try.ntmps9
  go_wp2
  go_ret
  exact⟨by simp [d1],HB.out⟩
 have d1:decide (0<=pw)=true:=decide_eq_true k1
 by_cases k2:pw<7
 case neg=>
  have d2:decide (pw<7)=false:=decide_eq_false k2
  clear k1 k2
  go_enter Try.func9,Try.ntmps9
  go_wp2
  go_ret
  exact⟨by simp [d2],HB.out⟩
 have d2:decide (pw<7)=true:=decide_eq_true k2
 clear k1 k2
 cases H1
 case false=>
  go_enter Try.func9,Try.ntmps9
  go_wp2_with fail
  refine(C1.out _).mono ?_
  rintro e w1 ⟨rfl,rfl⟩
  go_wp2
  go_ret
  exact⟨by simp,HB.out⟩
 cases H2
 case false=>
  go_enter Try.func9,Try.ntmps9
  go_wp2_with fail
  refine(C1.out _).mono ?_
  rintro e w1 ⟨rfl,rfl⟩
  go_wp2_with fail
  refine(C2.out _).mono ?_
  rintro e w1 ⟨rfl,rfl⟩
  go_wp2
  go_ret
  exact⟨by simp,HB.out⟩
 cases H3
 case false=>
  go_enter Try.func9,Try.ntmps9
  go_wp2_with fail
  refine(C1.out _).mono ?_
  rintro e w1 ⟨rfl,rfl⟩
  go_wp2_with fail
  refine(C2.out _).mono ?_
  rintro e w1 ⟨rfl,rfl⟩
  go_wp2_with fail
  refine(C3.out _).mono ?_
  rintro e w1 ⟨rfl,rfl⟩
  go_wp2
  go_ret
  exact⟨by simp,HB.out⟩
 cases H4
 case false=>
  go_enter Try.func9,Try.ntmps9
  go_wp2_with fail
  refine(C1.out _).mono ?_
  rintro e w1 ⟨rfl,rfl⟩
  go_wp2_with fail
  refine(C2.out _).mono ?_
  rintro e w1 ⟨rfl,rfl⟩
  go_wp2_with fail
  refine(C3.out _).mono ?_
  rintro e w1 ⟨rfl,rfl⟩
  go_wp2_with fail
  refine(C4.out _).mono ?_
  rintro e w1 ⟨rfl,rfl⟩
  go_wp2
  go_ret
  exact⟨by simp,HB.out⟩
 have CC:=hid (C5.out (HQ.out rfl).1 (HQ.out rfl).2)
 go_enter Try.func9,Try.ntmps9
 go_wp2_with fail
 refine(C1.out _).mono ?_
 rintro e w1 ⟨rfl,rfl⟩
 go_wp2_with fail
 refine(C2.out _).mono ?_
 rintro e w1 ⟨rfl,rfl⟩
 go_wp2_with fail
 refine(C3.out _).mono ?_
 rintro e w1 ⟨rfl,rfl⟩
 go_wp2_with fail
 refine(C4.out _).mono ?_
 rintro e w1 ⟨rfl,rfl⟩
 go_wp2_with (go_at_call 22;refine CC.out.mono ?_;rintro e w1 ⟨rfl,hb1⟩)
 go_ret
 exact⟨by simp [d1,d2],step HB.out hb1⟩
theorem isBetter_any (x y:VoteC) (w:World):Calls Try.prog 42 #[voteVal x,voteVal y] w (SaysB (better x.val y.val) w):=by
 unfold better
 obtain⟨xs,xb,⟨xf,xv,xtv,xts,xt,xr⟩,xa,xc⟩:=x
 obtain⟨ys,yb,⟨yf,yv,ytv,yts,yt,yr⟩,ya,yc⟩:=y
 unfold voteVal VoteC.val VoteC.u
 dsimp only
 have HB:=hid (stepAlloc (newAlloc w (.cells #[.int .i64 xs,.int .i64 xb,.bool xf,.int .i64 xv,.int .i64 xtv,.int .i64 xts,.int .i64 xt,.slice xa xr.length xc] 49)) (.cells #[.int .i64 ys,.int .i64 yb,.bool yf,.int .i64 yv,.int .i64 ytv,.int .i64 yts,.int .i64 yt,.slice ya yr.length yc] 49))
 generalize xr.length=n at*
 generalize yr.length=m at*
 by_cases k1:ys=0
 ·have d1:(ys==0)=true:=by simpa using k1
  have k1':=hid k1
  clear k1
  go_enter Try.func42,Try.ntmps42
  go_wp2
  go_ret
  exact⟨by simp [k1'.out],HB.out⟩
 ·have d1:(ys==0)=false:=by simpa using k1
  have k1':=hid k1
  clear k1
  go_enter Try.func42,Try.ntmps42
  go_wp2
  go_ret
  exact⟨by simp [k1'.out],HB.out⟩
end Pl
end Go.Proofs.Ytheenjkmglmihaa
