/- Texts laid together by program. -/
import Derived.Test.YtbpmfjjbfiiiaaaQS6
/- What package accept answers, as plain functions: votes that rise by slots, nine places. No program is named here. -/
set_option linter.unusedVariables false
set_option maxRecDepth 8000
set_option linter.unusedSimpArgs false
namespace Go.Proofs.Ytbpmfjjbfiiiaaa
open Lib (hid)
open Go.RowKit
namespace Ac
open Cm

structure VoteV where
 slot:Int
 ballot:Int
 bat:BatV
def zeroV:VoteV:=⟨0,0,zeroB⟩
def eqVt (a b:VoteV):Bool:=decide (a.slot=b.slot) && decide (a.ballot=b.ballot) && sameB a.bat b.bat
theorem eqVt_iff (a b:VoteV):eqVt a b=true ↔ a=b:=by
 obtain⟨a1,a2,a3⟩:=a
 obtain⟨b1,b2,b3⟩:=b
 simp [eqVt,sameB_iff,and_assoc]
def sameVs:List VoteV->List VoteV->Bool
 | [],[]=>true
 | x::l,y::m=>eqVt x y && sameVs l m
 | _,_=>false
theorem sameVs_iff: ∀a b:List VoteV,sameVs a b=true ↔ a=b
 | [],[]=>by simp [sameVs]
 | x::l,y::m=>by rw[sameVs,Bool.and_eq_true,eqVt_iff,sameVs_iff l m,List.cons.injEq]
 | [],_::_=>by simp [sameVs]
 | _::_,[]=>by simp [sameVs]
theorem sameVs_refl (a:List VoteV):sameVs a a=true:=(sameVs_iff a a).2 rfl
theorem sameVs_len (a b:List VoteV) (h:a.length≠b.length):sameVs a b=false:=by
 cases q:sameVs a b
 ·rfl
 ·rw[(sameVs_iff a b).1 q] at h
  exact absurd rfl h
theorem sameVs_step (a b:List VoteV) (i:Nat) (ha:i<a.length) (hb:i<b.length):sameVs (a.drop i) (b.drop i)=(eqVt a[i] b[i] && sameVs (a.drop (i+1)) (b.drop (i+1))):=by
 rw[List.drop_eq_getElem_cons ha,List.drop_eq_getElem_cons hb,sameVs]
theorem sameVs_end (a b:List VoteV) (i:Nat) (ha:a.length<=i) (hb:b.length<=i):sameVs (a.drop i) (b.drop i)=true:=by
 rw[List.drop_eq_nil_of_le ha,List.drop_eq_nil_of_le hb]
 rfl
end Ac
end Go.Proofs.Ytbpmfjjbfiiiaaa

/- Votes in memory. -/
set_option linter.unusedVariables false
set_option maxRecDepth 8000
set_option linter.unusedSimpArgs false
namespace Go.Proofs.Ytbpmfjjbfiiiaaa
open Lib (hid)
open Go.RowKit
namespace Ac
open Cm

structure VoteC where
 slot:Int
 ballot:Int
 bat:BatV
 ua:Option Addr
 uc:Nat
def VoteC.u (x:VoteC):Value:=.slice x.ua x.bat.reqs.length x.uc
def VoteC.val (x:VoteC):VoteV:=⟨x.slot,x.ballot,x.bat⟩
def valsV (L:List VoteC):List VoteV:=L.map VoteC.val
theorem valsV_length (L:List VoteC):(valsV L).length =L.length:=by simp [valsV]
theorem valsV_get (L:List VoteC) (i:Nat) (h:i<L.length) (h':i<(valsV L).length):(valsV L)[i]=L[i].val :=by simp [valsV]
theorem valsV_set (L:List VoteC) (k:Nat) (x:VoteC):valsV (L.set k x)=(valsV L).set k x.val:=by simp [valsV,List.map_set]
theorem valsV_snoc (L:List VoteC) (x:VoteC):valsV (L++ [x])=valsV L++ [x.val]:=by simp [valsV]
def zeroC:VoteC:=⟨0,0,zeroB,none,0⟩
def cellsV (x:VoteC):List Value:= [.int .i64 x.slot,.int .i64 x.ballot,.bool x.bat.fill,.int .i64 x.bat.view,.int .i64 x.bat.tv,.int .i64 x.bat.ts,.int .i64 x.bat.time,x.u]
theorem cellsV_length (x:VoteC):(cellsV x).length =8:=rfl
theorem cellsV_one (x:VoteC): ∀u∈cellsV x,u.oneCell'=true:=by
 intro u hu
 unfold cellsV VoteC.u at hu
 simp only[List.mem_cons,List.not_mem_nil,or_false] at hu
 rcases hu with rfl | rfl | rfl | rfl | rfl | rfl | rfl | rfl<;>rfl
def voteVal (x:VoteC):Value:=.agg #[.int .i64 x.slot,.int .i64 x.ballot,.bool x.bat.fill,.int .i64 x.bat.view,.int .i64 x.bat.tv,.int .i64 x.bat.ts,.int .i64 x.bat.time,x.u]
structure RdV (w:World) (v:Value) (L:List VoteC):Prop where
 row:RdX 8 cellsV w v L
 reqs: ∀x∈L,RdR w x.u x.bat.reqs
theorem RdV.later {w w':World} {v:Value} {L:List VoteC} (h:RdV w v L) (hb:Below w.heap.size w w'):RdV w' v L:=⟨h.row.later hb,fun x hx=>(h.reqs x hx).later hb⟩
theorem RdV.nil (w:World):RdV w (.slice none 0 0) []:=⟨RdX.nil w,fun x hx=>by cases hx⟩
theorem RdV.form {w:World} {v:Value} {L:List VoteC} (h:RdV w v L): ∃a cap,v= .slice a L.length cap:=h.row.form
theorem RdV.len {w:World} {v:Value} {L:List VoteC} (h:RdV w v L):L.length<=9223372036854775807:=h.row.len
theorem rdv_at {w:World} {a:Option Addr} {n cap:Nat} {L:List VoteC} (h:RdX 8 cellsV w (.slice a n cap) L) (i:Nat) (hi:i<L.length):
  ∃b o,a=some ⟨b,o,none⟩/\ ∀w':World,Below w.heap.size w w'->w'.cell? ⟨b,o+i*8,none⟩=some (.int .i64 L[i].slot)/\w'.cell? ⟨b,o+i*8+1,none⟩=some (.int .i64 L[i].ballot)/\w'.cell? ⟨b,o+i*8+2,none⟩=some (.bool L[i].bat.fill)/\w'.cell? ⟨b,o+i*8+3,none⟩=some (.int .i64 L[i].bat.view)/\w'.cell? ⟨b,o+i*8+4,none⟩=some (.int .i64 L[i].bat.tv)/\w'.cell? ⟨b,o+i*8+5,none⟩=some (.int .i64 L[i].bat.ts)/\w'.cell? ⟨b,o+i*8+6,none⟩=some (.int .i64 L[i].bat.time)/\w'.cell? ⟨b,o+i*8+7,none⟩=some L[i].u :=by
 obtain⟨b,o,e,c⟩:=h.at i hi
 exact⟨b,o,e,fun w' hb=>⟨c w' hb 0 _ rfl,c w' hb 1 _ rfl,c w' hb 2 _ rfl,c w' hb 3 _ rfl,c w' hb 4 _ rfl,c w' hb 5 _ rfl,c w' hb 6 _ rfl,c w' hb 7 _ rfl⟩⟩
def OwnR (base:Nat) (w:World) (x:VoteC):Prop:=w.ownsRow base 71 5 x.u x.bat.reqs.length (flatX cellsR x.bat.reqs)
structure OwnV (base:Nat) (w:World) (v:Value) (L:List VoteC):Prop where
 row:w.ownsRow base 48 8 v L.length (flatX cellsV L)
 reqs: ∀x∈L,OwnR base w x
theorem OwnR.zero (base:Nat) (w:World):OwnR base w zeroC:=World.ownsRow_nil _ _ _ _
theorem OwnR.rd {base:Nat} {w:World} {x:VoteC} (h:OwnR base w x):RdR w x.u x.bat.reqs:=RdX.own cellsR_length h
theorem OwnR.later {base:Nat} {w w':World} {x:VoteC} (h:OwnR base w x) (hb:Below w.heap.size w w'):OwnR base w' x:=Rw.own_below h hb
theorem OwnR.keep {base g:Nat} {w w':World} {x:VoteC} (h:OwnR base w x) (hg:w.grownBy w' (some g)) (hb:g<base):OwnR base w' x:=
 Rw.own_keep h fun k hk=>hg.block k (Rw.own_lt h k hk).2 (fun q=>by cases q;have:=(Rw.own_lt h _ hk).1;omega)
theorem OwnV.nil (base:Nat) (w:World):OwnV base w (.slice none 0 0) []:=⟨World.ownsRow_nil _ _ _ _,fun x hx=>by cases hx⟩
theorem OwnV.rd {base:Nat} {w:World} {v:Value} {L:List VoteC} (h:OwnV base w v L):RdV w v L:=⟨RdX.own cellsV_length h.row,fun x hx=>(h.reqs x hx).rd⟩
theorem OwnV.later {base:Nat} {w w':World} {v:Value} {L:List VoteC} (h:OwnV base w v L) (hb:Below w.heap.size w w'):OwnV base w' v L:=⟨Rw.own_below h.row hb,fun x hx=>(h.reqs x hx).later hb⟩
theorem OwnV.lower {base base':Nat} {w:World} {v:Value} {L:List VoteC} (h:OwnV base w v L) (hb:base'<=base):OwnV base' w v L:=⟨own_lowerX h.row hb,fun x hx=>own_lowerX (h.reqs x hx) hb⟩
theorem run_zero {P:Program} {t:TypeId} {z:Value} (h:(P.info? t).map (fun i=>i.zero)=some (some z)) (w:World):(zeroValue t).run P w= .ok z w:=by
 cases q:P.info? t with
 | none=>rw[q] at h;cases h
 | some i=>
  rw[q] at h
  have hz:i.zero=some z:=by simpa using h
  simp [zeroValue,typeInfo,q,hz]
end Ac
end Go.Proofs.Ytbpmfjjbfiiiaaa

/- Rows that grow, what stays told by blocks; rows of unlike elements lie apart. No program is named here. -/
set_option linter.unusedVariables false
set_option maxRecDepth 8000
set_option linter.unusedSimpArgs false
namespace Go.Proofs.Ytbpmfjjbfiiiaaa
open Lib (hid)
open Go.RowKit
namespace Cm

section
variable {α : Type} {sz : Nat} {f : α → List Value}
theorem wpList_append_grD (hf: ∀x,(f x).length =sz) (hsz:0<sz) {P:Program} {ops:Array Oper} {rest:List Oper} {o:Oper} {a:Act} {Q:Exit->Act->World->Prop} {W:World} (hgd:o.guard=none) (s x:Operand) (t:TypeId)
  (ho:o.op= .call { callee:=.builtin .append,args:=#[s,x],argTypes:=#[t,t] })
  (e:TypeId) (i:TypeInfo) (z:Value) (bytes:Nat) (ht:P.underlying t=some (.slice e)) (hi:P.info? e=some i) (hz:i.zero=some z) (hsize:i.size=sz) (hby:i.bytes=bytes) (hzs:z.cells.size=sz)
  (cs:Array Value) (y:α) (hcs:cs.toList=f y) (h1: ∀u∈f y,u.oneCell'=true) (M:List α) (base:Nat) (m:Value) (hs:a.eval s=m) (hx:a.eval x= .slice (some ⟨W.heap.size,0,none⟩) 1 1)
  (hown:W.ownsRow base e sz m M.length (flatX f M)) (h63:M.length+1<=maxLen) (hlen:(M.length+1)*bytes<=140737488355328) (hbase:base<=W.heap.size)
  (h: ∀v' w',w'.ownsRow base e sz v' (M++ [y]).length (flatX f (M++ [y]))->(W.alloc (.cells cs e)).grownBy w' m.ownBlock->(v'.ownBlock=m.ownBlock\/v'.ownBlock=some (W.alloc (.cells cs e)).heap.size)->wpList P ops Q rest (a.put o.dst v') w'):
  wpList P ops Q (o::rest) a (W.alloc (.cells cs e)):=by
 have hz1:(W.alloc (.cells cs e)).heap.size =W.heap.size+1:=by simp
 refine wpList_append_own_at (W.alloc (.cells cs e)) hgd s x t ho base e i z sz bytes ht hi hz hsize hby hzs hsz m M.length (flatX f M) hs (Rw.own_alloc hown _) ⟨W.heap.size,0,none⟩ 1 1 (f y) hx (by rw[hf];omega) ?_ h1 h63 hlen (by rw[hz1];omega) ?_
 ·rw[<-hcs]
  exact World.news_of_block (w:=W.alloc (.cells cs e)) (B:=W.heap.size) (cs:=cs) (t:=e) (fr:=(0,0)) (by show(W.heap.push _)[W.heap.size]?= _;simp)
 ·intro v' w' ho' hg _ hat
  refine h v' w' ?_ hg hat
  rw[List.length_append,flatX_snoc]
  exact ho'
end

theorem own_typesD {w:World} {b1 b2 s1 s2 n1 n2:Nat} {e1 e2:TypeId} {u v:Value} {xs ys:List Value} (h:w.ownsRow b1 e1 s1 u n1 xs) (h2:w.ownsRow b2 e2 s2 v n2 ys) (hne:e1≠e2):Rw.Apart u v:=by
 intro g hu hv
 rcases h.2 with ⟨rfl,_⟩ | ⟨g1,cap,cur,rfl,_,q1,_⟩
 ·cases hu
 rcases h2.2 with ⟨rfl,_⟩ | ⟨g2,cap2,cur2,rfl,_,q2,_⟩
 ·cases hv
 have r1:g1=g:=by simpa [Value.ownBlock] using hu
 have r2:g2=g:=by simpa [Value.ownBlock] using hv
 subst r1
 subst r2
 rw[q1] at q2
 injection q2 with q2
 injection q2 with _ q2
 exact hne q2
end Cm
end Go.Proofs.Ytbpmfjjbfiiiaaa

/- What package plan answers, as plain functions over promises. No program is named here. -/
set_option linter.unusedVariables false
set_option maxRecDepth 8000
set_option linter.unusedSimpArgs false
namespace Go.Proofs.Ytbpmfjjbfiiiaaa
open Lib (hid)
open Go.RowKit
namespace Pl
open Cm Ac

structure PromV where
 who:Int
 done:Int
 tv:Int
 ts:Int
 time:Int
 votes:List VoteV
structure PlanV where
 done:Int
 tv:Int
 ts:Int
 time:Int
 bats:List BatV
 ev:Int
 es:Int
 last:Int
def zeroL:PlanV:=⟨0,0,0,0,[],0,0,0⟩
def voteOk (d b:Int) (v:VoteV):Bool:=decide (b<v.slot) && decide (v.slot<=d+9) && decide (v.slot<=2305843009213693952) && highF v.ballot 0 && mayB v.bat
def mayVs (d:Int):Int->List VoteV->Bool
 | _,[]=>true
 | b,v::l=>voteOk d b v && mayVs d v.slot l
def headP (p:PromV):Bool:=decide (0<=p.who) && decide (p.who<7) && highF p.done 0 && (highF p.tv 0 && highF p.ts 0) && highF p.time 0
def mayP (p:PromV):Bool:=headP p && decide (p.votes.length<=9) && mayVs p.done p.done p.votes
theorem mayVs_step (d b:Int) (l:List VoteV) (i:Nat) (h:i<l.length):mayVs d b (l.drop i)=(voteOk d b l[i] && mayVs d l[i].slot (l.drop (i+1))):=by
 rw[List.drop_eq_getElem_cons h,mayVs]
theorem mayVs_end (d b:Int) (l:List VoteV) (i:Nat) (h:l.length<=i):mayVs d b (l.drop i)=true:=by
 rw[List.drop_eq_nil_of_le h]
 rfl
def insP (x:PromV):List PromV->List PromV
 | []=> [x]
 | y::l=>if x.who<y.who then x::y::l else y::insP x l
def sortP (l:List PromV):List PromV:=l.foldl (fun s x=>insP x s) []
def hasW (l:List PromV) (c:Int):Bool:=l.any fun p=>decide (p.who=c)
def okS:List PromV->List PromV->Bool
 | _,[]=>true
 | p,x::l=>mayP x && !hasW p x.who && okS (p++ [x]) l
theorem okS_step (l:List PromV) (i:Nat) (h:i<l.length):okS (l.take i) (l.drop i)=(mayP l[i] && !hasW (l.take i) l[i].who && okS (l.take (i+1)) (l.drop (i+1))):=by
 rw[List.drop_eq_getElem_cons h,okS,List.take_succ_eq_append_getElem h]
def newF (p:PromV):List PromV->PromV
 | []=>p
 | x::l=>newF (if p.done<x.done then x else p) l
def better (v o:VoteV):Bool:=decide (o.slot=0) || decide (o.ballot<v.ballot)
structure BestV where
 row:List VoteV
 count:Int
def stepB (d:Int) (s:BestV) (v:VoteV):BestV:=
 if 0<=v.slot - d - 1/\better v (s.row.getD (v.slot - d - 1).toNat zeroV)=true then ⟨s.row.set (v.slot - d - 1).toNat v,max s.count (v.slot - d)⟩ else s
def votesB (d:Int) (s:BestV) (l:List VoteV):BestV:=l.foldl (stepB d) s
def bestB (d:Int) (s:BestV) (l:List PromV):BestV:=l.foldl (fun s p=>votesB d s p.votes) s
def newB:BestV:=⟨List.replicate 9 zeroV,0⟩
def batOf (v:VoteV):BatV:=if v.slot=0 then fillB else v.bat
def batsF (l:List PromV) (d:Int):List BatV:=((bestB d newB l).row.take (bestB d newB l).count.toNat).map batOf
structure TipV where
 tv:Int
 ts:Int
 time:Int
def walkF:TipV->Int->List BatV->TipV
 | s,_,[]=>s
 | s,t,b::l=>walkF (if !b.fill && (decide (b.tv=s.tv) && decide (b.ts=s.ts)) then ⟨b.view,t,max s.time b.time⟩ else s) (t+1) l
def startF (t:Int):Int:=if highF t 0 then t else 0
def planF (l:List PromV):PlanV:=
 match l with
 | []=>zeroL
 | p::r=>
  let x:=newF p r
  let b:=batsF l x.done
  let e:=walkF ⟨x.tv,x.ts,x.time⟩ (startF (x.done+1)) b
  ⟨x.done,x.tv,x.ts,x.time,b,e.tv,e.ts,e.time⟩
def makeF (l:List PromV):PlanV × Int:=
 if l.length=0 then (zeroL,6) else if okS [] l=false then (zeroL,1) else (planF (sortP l),0)
theorem walkF_step (s:TipV) (t:Int) (l:List BatV) (i:Nat) (h:i<l.length):walkF s t (l.drop i)=walkF (if !l[i].fill && (decide (l[i].tv =s.tv) && decide (l[i].ts =s.ts)) then ⟨l[i].view,t,max s.time l[i].time⟩ else s) (t+1) (l.drop (i+1)):=by
 rw[List.drop_eq_getElem_cons h,walkF]
theorem mem_insP (x:PromV): ∀(l:List PromV) (y:PromV),y∈insP x l ↔ y=x\/y∈l
 | [],y=>by simp [insP]
 | z::l,y=>by
  rw[insP]
  split
  ·simp
  ·simp only[List.mem_cons,mem_insP x l y]
   constructor
   ·rintro (h | h | h)
    ·exact .inr (.inl h)
    ·exact .inl h
    ·exact .inr (.inr h)
   ·rintro (h | h | h)
    ·exact .inr (.inl h)
    ·exact .inl h
    ·exact .inr (.inr h)
theorem insP_perm (x:PromV): ∀l:List PromV,(insP x l).Perm (x::l)
 | []=>List.Perm.refl _
 | z::l=>by
  rw[insP]
  split
  ·exact List.Perm.refl _
  ·exact(List.Perm.cons z (insP_perm x l)).trans (List.Perm.swap x z l)
theorem sortG_perm: ∀(l s:List PromV),(l.foldl (fun s x=>insP x s) s).Perm (l++s)
 | [],s=>List.Perm.refl _
 | x::l,s=>by
  rw[List.foldl_cons]
  refine(sortG_perm l (insP x s)).trans ?_
  refine(List.Perm.append_left l (insP_perm x s)).trans ?_
  exact List.perm_middle
theorem sortP_perm (l:List PromV):(sortP l).Perm l:=by
 have:=sortG_perm l []
 rw[List.append_nil] at this
 exact this
theorem sortP_length (l:List PromV):(sortP l).length =l.length:=(sortP_perm l).length_eq
theorem insP_rise (x:PromV): ∀l:List PromV,l.Pairwise (fun a b=>a.who<=b.who)->(insP x l).Pairwise fun a b=>a.who<=b.who
 | [],_=>by simp [insP]
 | y::l,h=>by
  obtain⟨h1,h2⟩:=List.pairwise_cons.1 h
  rw[insP]
  split
  ·rename_i q
   refine List.pairwise_cons.2 ⟨fun z hz=>?_,h⟩
   rcases List.mem_cons.1 hz with e | hz
   ·rw[e];omega
   ·have:=h1 z hz;omega
  ·rename_i q
   refine List.pairwise_cons.2 ⟨fun z hz=>?_,insP_rise x l h2⟩
   rcases (mem_insP x l z).1 hz with e | hz
   ·rw[e];omega
   ·exact h1 z hz
theorem sortG_rise: ∀(l s:List PromV),s.Pairwise (fun a b=>a.who<=b.who)->(l.foldl (fun s x=>insP x s) s).Pairwise fun a b=>a.who<=b.who
 | [],s,h=>h
 | x::l,s,h=>sortG_rise l (insP x s) (insP_rise x s h)
theorem sortP_rise (l:List PromV):(sortP l).Pairwise fun a b=>a.who<=b.who:=sortG_rise l [] List.Pairwise.nil
theorem hasW_mem (l:List PromV) (c:Int):hasW l c=true ↔ ∃p∈l,p.who=c:=by
 unfold hasW
 simp [List.any_eq_true]
theorem okS_iff: ∀(l p:List PromV),okS p l=true ↔ (∀x∈l,mayP x=true)/\l.Pairwise (fun a b=>a.who≠b.who)/\ ∀x∈l,∀y∈p,y.who≠x.who
 | [],p=>by simp [okS]
 | x::l,p=>by
  rw[okS]
  simp only[Bool.and_eq_true,Bool.not_eq_true']
  rw[okS_iff l (p++ [x])]
  have hw:hasW p x.who=false ↔ ∀y∈p,y.who≠x.who:=by
   constructor
   ·intro h y hy e
    have:=(hasW_mem p x.who).2 ⟨y,hy,e⟩
    rw[h] at this
    cases this
   ·intro h
    cases q:hasW p x.who
    ·rfl
    ·obtain⟨y,hy,e⟩:=(hasW_mem p x.who).1 q
     exact absurd e (h y hy)
  rw[hw]
  simp only[List.forall_mem_cons,List.pairwise_cons,List.mem_append,List.mem_singleton]
  constructor
  ·rintro ⟨⟨h1,h2⟩,h3,h4,h5⟩
   exact⟨⟨h1,h3⟩,⟨fun z hz e=>h5 z hz x (.inr rfl) e,h4⟩,h2,fun z hz y hy=>h5 z hz y (.inl hy)⟩
  ·rintro ⟨⟨h1,h3⟩,⟨h4,h5⟩,h2,h6⟩
   exact⟨⟨h1,h2⟩,h3,h5,fun z hz y hy=>hy.elim (h6 z hz y) fun e=>by rw[e];exact h4 z hz⟩
theorem rise_strict {l:List PromV} (h:l.Pairwise fun a b=>a.who<=b.who) (h2:l.Pairwise fun a b=>a.who≠b.who):l.Pairwise fun a b=>a.who<b.who:=
 (h.and h2).imp fun⟨p,q⟩=>by omega
theorem sortP_strict {l:List PromV} (h:okS [] l=true):(sortP l).Pairwise fun a b=>a.who<b.who:=
 rise_strict (sortP_rise l) (((sortP_perm l).pairwise_iff (fun {a b} r e=>r e.symm)).2 ((okS_iff l []).1 h).2.1)
end Pl
end Go.Proofs.Ytbpmfjjbfiiiaaa

/- Promises in memory. -/
set_option linter.unusedVariables false
set_option maxRecDepth 8000
set_option linter.unusedSimpArgs false
namespace Go.Proofs.Ytbpmfjjbfiiiaaa
open Lib (hid)
open Go.RowKit
namespace Pl
open Cm Ac

structure PromC where
 who:Int
 done:Int
 tv:Int
 ts:Int
 time:Int
 votes:List VoteC
 va:Option Addr
 vc:Nat
def PromC.u (p:PromC):Value:=.slice p.va p.votes.length p.vc
def PromC.val (p:PromC):PromV:=⟨p.who,p.done,p.tv,p.ts,p.time,valsV p.votes⟩
def valsP (L:List PromC):List PromV:=L.map PromC.val
theorem valsP_length (L:List PromC):(valsP L).length =L.length:=by simp [valsP]
theorem valsP_get (L:List PromC) (i:Nat) (h:i<L.length) (h':i<(valsP L).length):(valsP L)[i]=L[i].val :=by simp [valsP]
def promVal (p:PromC):Value:=.agg #[.int .i64 p.who,.int .i64 p.done,.int .i64 p.tv,.int .i64 p.ts,.int .i64 p.time,p.u]
def promObj (p:PromC):Obj:=.cells #[.int .i64 p.who,.int .i64 p.done,.int .i64 p.tv,.int .i64 p.ts,.int .i64 p.time,p.u] 59
def cellsP (p:PromC):List Value:= [.int .i64 p.who,.int .i64 p.done,.int .i64 p.tv,.int .i64 p.ts,.int .i64 p.time,p.u]
theorem cellsP_length (p:PromC):(cellsP p).length =6:=rfl
theorem cellsP_one (p:PromC): ∀u∈cellsP p,u.oneCell'=true:=by
 intro u hu
 unfold cellsP PromC.u at hu
 simp only[List.mem_cons,List.not_mem_nil,or_false] at hu
 rcases hu with rfl | rfl | rfl | rfl | rfl | rfl<;>rfl
structure RdP (w:World) (v:Value) (L:List PromC):Prop where
 row:RdX 6 cellsP w v L
 votes: ∀x∈L,RdV w x.u x.votes
theorem RdP.later {w w':World} {v:Value} {L:List PromC} (h:RdP w v L) (hb:Below w.heap.size w w'):RdP w' v L:=⟨h.row.later hb,fun x hx=>(h.votes x hx).later hb⟩
theorem RdP.form {w:World} {v:Value} {L:List PromC} (h:RdP w v L): ∃a cap,v= .slice a L.length cap:=h.row.form
theorem RdP.nil (w:World):RdP w (.slice none 0 0) []:=⟨RdX.nil w,fun x hx=>by cases hx⟩
theorem rdp_at {w:World} {a:Option Addr} {n cap:Nat} {L:List PromC} (h:RdX 6 cellsP w (.slice a n cap) L) (i:Nat) (hi:i<L.length):
  ∃b o,a=some ⟨b,o,none⟩/\ ∀w':World,Below w.heap.size w w'->w'.cell? ⟨b,o+i*6,none⟩=some (.int .i64 L[i].who)/\w'.cell? ⟨b,o+i*6+1,none⟩=some (.int .i64 L[i].done)/\w'.cell? ⟨b,o+i*6+2,none⟩=some (.int .i64 L[i].tv)/\w'.cell? ⟨b,o+i*6+3,none⟩=some (.int .i64 L[i].ts)/\w'.cell? ⟨b,o+i*6+4,none⟩=some (.int .i64 L[i].time)/\w'.cell? ⟨b,o+i*6+5,none⟩=some L[i].u :=by
 obtain⟨b,o,e,c⟩:=h.at i hi
 exact⟨b,o,e,fun w' hb=>⟨c w' hb 0 _ rfl,c w' hb 1 _ rfl,c w' hb 2 _ rfl,c w' hb 3 _ rfl,c w' hb 4 _ rfl,c w' hb 5 _ rfl⟩⟩
theorem box6p {w w':World} {x0 x1 x2 x3 x4 x5:Value} {t:TypeId} (h:Below (w.alloc (.cells #[x0,x1,x2,x3,x4,x5] t)).heap.size (w.alloc (.cells #[x0,x1,x2,x3,x4,x5] t)) w'):
  w'.cell? ⟨w.heap.size,0,none⟩=some x0/\w'.cell? ⟨w.heap.size,1,none⟩=some x1/\w'.cell? ⟨w.heap.size,2,none⟩=some x2/\w'.cell? ⟨w.heap.size,3,none⟩=some x3/\w'.cell? ⟨w.heap.size,4,none⟩=some x4/\w'.cell? ⟨w.heap.size,5,none⟩=some x5:=by
 have h0:w.heap.size<(w.alloc (.cells #[x0,x1,x2,x3,x4,x5] t)).heap.size :=by simp
 have key: ∀k,w'.cell? ⟨w.heap.size,k,none⟩=#[x0,x1,x2,x3,x4,x5][k]?:=fun k=>by
  rw[h.cell (p:=⟨w.heap.size,k,none⟩) h0];simp [go_sem]
 exact⟨key 0,key 1,key 2,key 3,key 4,key 5⟩
theorem box8p {w w':World} {x0 x1 x2 x3 x4 x5 x6 x7:Value} {t:TypeId} (h:Below (w.alloc (.cells #[x0,x1,x2,x3,x4,x5,x6,x7] t)).heap.size (w.alloc (.cells #[x0,x1,x2,x3,x4,x5,x6,x7] t)) w'):
  w'.cell? ⟨w.heap.size,0,none⟩=some x0/\w'.cell? ⟨w.heap.size,1,none⟩=some x1/\w'.cell? ⟨w.heap.size,2,none⟩=some x2/\w'.cell? ⟨w.heap.size,3,none⟩=some x3/\w'.cell? ⟨w.heap.size,4,none⟩=some x4/\w'.cell? ⟨w.heap.size,5,none⟩=some x5/\w'.cell? ⟨w.heap.size,6,none⟩=some x6/\w'.cell? ⟨w.heap.size,7,none⟩=some x7:=by
 have h0:w.heap.size<(w.alloc (.cells #[x0,x1,x2,x3,x4,x5,x6,x7] t)).heap.size :=by simp
 have key: ∀k,w'.cell? ⟨w.heap.size,k,none⟩=#[x0,x1,x2,x3,x4,x5,x6,x7][k]?:=fun k=>by
  rw[h.cell (p:=⟨w.heap.size,k,none⟩) h0];simp [go_sem]
 exact⟨key 0,key 1,key 2,key 3,key 4,key 5,key 6,key 7⟩
end Pl
end Go.Proofs.Ytbpmfjjbfiiiaaa
