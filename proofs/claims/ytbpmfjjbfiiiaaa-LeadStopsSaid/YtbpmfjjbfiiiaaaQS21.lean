/- Texts laid together by program. -/
import Derived.Test.YtbpmfjjbfiiiaaaQS15
import Derived.Test.YtbpmfjjbfiiiaaaQS20
import Derived.Test.YtbpmfjjbfiiiaaaProg
import Derived.BigQuiet
/- The statements' Promises of layer 16: promises by numbers. -/
set_option linter.unusedVariables false
set_option maxRecDepth 8000
set_option linter.unusedSimpArgs false
namespace Go.Proofs.Ytbpmfjjbfiiiaaa
open Lib (hid)
open Go.RowKit
namespace Pl
open Cm Ac

structure ToldC where
 done:Int
 view:Int
 slot:Int
 time:Int
 votes:List VtC
 va:Option Addr
 vc:Nat
def ToldC.u (x:ToldC):Value:=.slice x.va x.votes.length x.vc
def ToldC.val (x:ToldC):ToldV:=⟨x.done,x.view,x.slot,x.time,valsN x.votes⟩
def cellsD (x:ToldC):List Value:= [.int .u8 x.done,.int .u8 x.view,.int .u8 x.slot,.int .u8 x.time,x.u]
structure ToldOk (W:World) (x:ToldC):Prop where
 d:0<=x.done/\x.done<256
 v:0<=x.view/\x.view<256
 s:0<=x.slot/\x.slot<256
 t:0<=x.time/\x.time<256
 rd:RdT W x.u x.votes
theorem valsP_snoc (L:List PromC) (x:PromC):valsP (L++ [x])=valsP L++ [x.val]:=by simp [valsP]
structure OwnPs (base:Nat) (w:World) (v:Value) (L:List PromC):Prop where
 row:w.ownsRow base 59 6 v L.length (flatX cellsP L)
 votes: ∀x∈L,OwnV base w x.u x.votes
theorem OwnPs.nil (base:Nat) (w:World):OwnPs base w (.slice none 0 0) []:=⟨World.ownsRow_nil _ _ _ _,fun x hx=>by cases hx⟩
theorem OwnPs.rd {base:Nat} {w:World} {v:Value} {L:List PromC} (h:OwnPs base w v L):RdP w v L:=⟨RdX.own cellsP_length h.row,fun x hx=>(h.votes x hx).rd⟩
theorem OwnPs.later {base:Nat} {w w':World} {v:Value} {L:List PromC} (h:OwnPs base w v L) (hb:Below w.heap.size w w'):OwnPs base w' v L:=⟨Rw.own_below h.row hb,fun x hx=>(h.votes x hx).later hb⟩
theorem OwnPs.lower {base base':Nat} {w:World} {v:Value} {L:List PromC} (h:OwnPs base w v L) (hb:base'<=base):OwnPs base' w v L:=⟨own_lowerX h.row hb,fun x hx=>(h.votes x hx).lower hb⟩
theorem own_vP {base base':Nat} {w w':World} {m v:Value} {L:List VoteC} {n:Nat} {xs:List Value} (h:OwnV base w v L) (hm:w.ownsRow base' 59 6 m n xs) (hg:w.grownBy w' m.ownBlock):OwnV base w' v L:=
 ⟨Rw.own_other h.row hg (own_typesD hm h.row (by decide)),fun x hx=>Rw.own_other (h.reqs x hx) hg (own_typesD hm (h.reqs x hx) (by decide))⟩
theorem OwnPs.push {base:Nat} {w3 w6:World} {m v':Value} {L:List PromC} {x:PromC} (h:OwnPs base w3 m L)
  (hl:OwnV base w3 x.u x.votes) (hg:w3.grownBy w6 m.ownBlock) (ho:w6.ownsRow base 59 6 v' (L++ [x]).length (flatX cellsP (L++ [x]))):OwnPs base w6 v' (L++ [x]):=by
 refine⟨ho,fun y hy=>?_⟩
 rcases List.mem_append.1 hy with q | q
 ·exact own_vP (h.votes y q) h.row hg
 ·rw[List.mem_singleton] at q
  subst q
  exact own_vP hl h.row hg
end Pl
end Go.Proofs.Ytbpmfjjbfiiiaaa

/- Contracts of package view, and of the document's answers for it: quorums, leaders, who leads next. -/
set_option linter.unusedVariables false
set_option maxRecDepth 8000
set_option linter.unusedSimpArgs false
namespace Go.Proofs.Ytbpmfjjbfiiiaaa
open Lib (hid)
open Go.RowKit
namespace Vw

theorem within_any (v a b:Int) (w:World):Calls Try.prog 62 #[.int .i64 v,.int .i64 a,.int .i64 b] w (Tells (.bool (withinF v a b)) w):=by
  unfold withinF
  by_cases h1:a<=v<;>by_cases h2:v<=b<;>
    (go_enter Try.func62,Try.ntmps62
     go_wp2
     go_ret
     exact⟨by simp [h1,h2]<;>omega,rfl⟩)
theorem areReplicas_any (n:Int) (w:World):Calls Try.prog 49 #[.int .i64 n] w (Tells (.bool (someF n)) w):=by
 go_enter Try.func49,Try.ntmps49
 go_wp2_with (go_at_call 62;refine(within_any _ _ _ _).mono ?_;rintro e w' ⟨rfl,rfl⟩)
 go_ret
 exact⟨rfl,rfl⟩
theorem high12_any (v:Int) (w:World):Calls Try.prog 54 #[.int .i64 v,.int .i64 0] w (Tells (.bool (hiF v)) w):=by
  unfold hiF withinF
  by_cases h1:0<=v<;>by_cases h2:v<=2305843009213693952<;>
    (go_enter Try.func54,Try.ntmps54
     go_wp2
     go_ret
     exact⟨by simp [h1,h2]<;>omega,rfl⟩)
theorem someF_iff {n:Int} :someF n=true ↔ 1<=n/\n<=7:=by simp [someF,withinF]
theorem Quorum_any (n:Int) (w:World):Calls Try.prog 37 #[.int .i64 n] w (Tells (.int .i64 (quorumF n)) w):=by
 have CA:=hid (fun w=>areReplicas_any n w)
 unfold quorumF
 cases h:someF n<;>rw[h] at CA
 ·go_enter Try.func37,Try.ntmps37
  go_wp2_with (go_at_call 49;refine(CA.out _).mono ?_;rintro e w' ⟨rfl,rfl⟩)
  go_ret
  exact⟨rfl,rfl⟩
 ·obtain⟨h1,h2⟩:=someF_iff.1 h
  have e:n.tdiv 2=n / 2:=Int.tdiv_eq_ediv_of_nonneg (by omega)
  have e2:IntKind.i64.wrap (n / 2)=n / 2:=by rw[IntKind.wrap_i64];omega
  have e3:IntKind.i64.wrap (n / 2+1)=n / 2+1:=by rw[IntKind.wrap_i64];omega
  clear h
  go_enter Try.func37,Try.ntmps37
  go_wp2_with (go_at_call 49;refine(CA.out _).mono ?_;rintro e w' ⟨rfl,rfl⟩)
  go_ret
  exact⟨rfl,rfl⟩
end Vw
end Go.Proofs.Ytbpmfjjbfiiiaaa

/- The developers' lead in memory; its methods that are short; all methods of nil. -/
set_option linter.unusedVariables false
set_option maxRecDepth 8000
set_option linter.unusedSimpArgs false
namespace Go.Proofs.Ytbpmfjjbfiiiaaa
open Lib (hid)
open Go.RowKit
namespace Ld
open Cm Ac Pl Vw

structure OwnB (base:Nat) (w:World) (v:Value) (L:List BatC):Prop where
 row:OwnO w base 42 6 v L.length (flatX cellsB L)
 reqs: ∀x∈L,OwnQ base w x
section
variable {base : Nat} {w w' : World} {v : Value} {L : List BatC}
theorem OwnB.of (h:OwnBs base w v L):OwnB base w v L:=⟨OwnO.of h.row,h.reqs⟩
theorem OwnB.nil (base:Nat) (w:World):OwnB base w (.slice none 0 0) []:=OwnB.of (OwnBs.nil _ _)
theorem OwnB.rd (h:OwnB base w v L):RdB w v L:=⟨RdX.ownO cellsB_length h.row,fun x hx=>(h.reqs x hx).rd⟩
theorem OwnB.later (h:OwnB base w v L) (hb:Below w.heap.size w w'):OwnB base w' v L:=⟨h.row.later hb,fun x hx=>(h.reqs x hx).later hb⟩
theorem OwnB.lower {base':Nat} (h:OwnB base w v L) (hb:base'<=base):OwnB base' w v L:=⟨h.row.lower hb,fun x hx=>(h.reqs x hx).lower hb⟩
theorem OwnB.form (h:OwnB base w v L): ∃a c,v= .slice a L.length c:=h.row.form
theorem OwnQ.chg {S:Nat->Prop} {x:BatC} (h:OwnQ base w x) (hc:Chg S w w') (hS: ∀k cs,S k->w.heap[k]?=some (.cells cs 71)->False):OwnQ base w' x:=
 Rw.own_keep h fun k hk=>hc.block k (Rw.own_lt h k hk).2 fun q=>by
  rcases h.2 with ⟨e,_⟩ | ⟨g,cap,cur,e,_,hg,_⟩
  ·rw[e] at hk;cases hk
  ·rw[e] at hk
   have:g=k:=by simpa [Value.ownBlock] using hk
   subst this
   exact hS _ _ q hg
theorem own_rowP {base n:Nat} {v:Value} {xs:List Value} {w:World} {e:TypeId} {sz:Nat} (h:w.ownsRow base e sz v n xs) (k:Nat) (hk:v.ownBlock=some k): ∃cs,w.heap[k]?=some (.cells cs e):=by
 rcases h.2 with ⟨rfl,_⟩ | ⟨g,cap,cur,rfl,_,hg,_⟩
 ·cases hk
 ·have:g=k:=by simpa [Value.ownBlock] using hk
  subst this
  exact⟨_,hg⟩
theorem OwnO.blk {base n:Nat} {v:Value} {xs:List Value} {w:World} {e:TypeId} {sz:Nat} (h:OwnO w base e sz v n xs) (k:Nat) (hk:v.ownBlock=some k): ∃cs,w.heap[k]?=some (.cells cs e):=by
 rcases h.2 with ⟨rfl,_⟩ | ⟨g,off,cap,cur,rfl,_,hg,_⟩
 ·cases hk
 ·have:g=k:=by simpa [Value.ownBlock] using hk
  subst this
  exact⟨_,hg⟩
end

def hb (l:List Bool) (i:Nat):Bool:=l.getD i false
structure HasL (w:World) (g m:Nat) (s:LedV) (pv bv:Value):Prop where
 ex:w.heap[g]?=some (.cells #[.int .i64 s.n,.int .i64 s.ph,.int .i64 s.view,.bool (hb s.hd 0),.bool (hb s.hd 1),.bool (hb s.hd 2),.bool (hb s.hd 3),.bool (hb s.hd 4),.bool (hb s.hd 5),.bool (hb s.hd 6),pv,bv,.int .i64 s.next,.int .i64 s.tv,.int .i64 s.ts,.int .i64 s.time] 79)
 ps: ∃P:List PromC,valsP P=s.ps/\OwnPs m w pv P
 bs: ∃B:List BatC,valsB B=s.bats/\OwnB m w bv B
 gm:m<=g
def LS (g:Nat) (pv bv:Value) (k:Nat):Prop:=k=g\/pv.ownBlock=some k\/bv.ownBlock=some k
def Nxt (u u':Value) (H:Nat):Prop:= ∀k,u'.ownBlock=some k->u.ownBlock=some k\/H<=k
theorem Nxt.refl (u:Value) (H:Nat):Nxt u u H:=fun k h=>.inl h
theorem Nxt.nil (u:Value) (H:Nat):Nxt u (.slice none 0 0) H:=fun k h=>by cases h
section
variable {w w' : World} {g m : Nat} {s : LedV} {pv bv : Value}
theorem HasL.lt (h:HasL w g m s pv bv):g<w.heap.size:=get_ltB h.ex
theorem HasL.c0 (h:HasL w g m s pv bv):w.cell? ⟨g,0,none⟩=some (.int .i64 s.n):=cell_at h.ex 0
theorem HasL.c1 (h:HasL w g m s pv bv):w.cell? ⟨g,1,none⟩=some (.int .i64 s.ph):=cell_at h.ex 1
theorem HasL.c2 (h:HasL w g m s pv bv):w.cell? ⟨g,2,none⟩=some (.int .i64 s.view):=cell_at h.ex 2
theorem HasL.c3 (h:HasL w g m s pv bv):w.cell? ⟨g,3,none⟩=some (.bool (hb s.hd 0)):=cell_at h.ex 3
theorem HasL.c4 (h:HasL w g m s pv bv):w.cell? ⟨g,4,none⟩=some (.bool (hb s.hd 1)):=cell_at h.ex 4
theorem HasL.c5 (h:HasL w g m s pv bv):w.cell? ⟨g,5,none⟩=some (.bool (hb s.hd 2)):=cell_at h.ex 5
theorem HasL.c6 (h:HasL w g m s pv bv):w.cell? ⟨g,6,none⟩=some (.bool (hb s.hd 3)):=cell_at h.ex 6
theorem HasL.c7 (h:HasL w g m s pv bv):w.cell? ⟨g,7,none⟩=some (.bool (hb s.hd 4)):=cell_at h.ex 7
theorem HasL.c8 (h:HasL w g m s pv bv):w.cell? ⟨g,8,none⟩=some (.bool (hb s.hd 5)):=cell_at h.ex 8
theorem HasL.c9 (h:HasL w g m s pv bv):w.cell? ⟨g,9,none⟩=some (.bool (hb s.hd 6)):=cell_at h.ex 9
theorem HasL.c10 (h:HasL w g m s pv bv):w.cell? ⟨g,10,none⟩=some (pv):=cell_at h.ex 10
theorem HasL.c11 (h:HasL w g m s pv bv):w.cell? ⟨g,11,none⟩=some (bv):=cell_at h.ex 11
theorem HasL.c12 (h:HasL w g m s pv bv):w.cell? ⟨g,12,none⟩=some (.int .i64 s.next):=cell_at h.ex 12
theorem HasL.c13 (h:HasL w g m s pv bv):w.cell? ⟨g,13,none⟩=some (.int .i64 s.tv):=cell_at h.ex 13
theorem HasL.c14 (h:HasL w g m s pv bv):w.cell? ⟨g,14,none⟩=some (.int .i64 s.ts):=cell_at h.ex 14
theorem HasL.c15 (h:HasL w g m s pv bv):w.cell? ⟨g,15,none⟩=some (.int .i64 s.time):=cell_at h.ex 15
theorem HasL.f (h:HasL w g m s pv bv) (k:Nat):w.frozen? ⟨g,k,none⟩=false:=frozen_at h.ex k
theorem HasL.later (h:HasL w g m s pv bv) (hb:Below w.heap.size w w'):HasL w' g m s pv bv:=by
 obtain⟨P,h1,h2⟩:=h.ps
 obtain⟨B,h3,h4⟩:=h.bs
 exact⟨cells_later h.ex hb,⟨P,h1,h2.later hb⟩,⟨B,h3,h4.later hb⟩,h.gm⟩
theorem HasL.low (h:HasL w g m s pv bv): ∀k,LS g pv bv k->m<=k:=by
 rintro k (rfl | q | q)
 ·exact h.gm
 ·obtain⟨P,_,h2⟩:=h.ps
  exact(Rw.own_lt h2.row k q).1
 ·obtain⟨B,_,h4⟩:=h.bs
  exact(h4.row.lt k q).1
theorem HasL.ls_lt (h:HasL w g m s pv bv): ∀k,LS g pv bv k->k<w.heap.size:=by
 rintro k (rfl | q | q)
 ·exact h.lt
 ·obtain⟨P,_,h2⟩:=h.ps
  exact(Rw.own_lt h2.row k q).2
 ·obtain⟨B,_,h4⟩:=h.bs
  exact(h4.row.lt k q).2
theorem HasL.ty (h:HasL w g m s pv bv) {k:Nat} {cs:Array Value} {t:TypeId} (hk:w.heap[k]?=some (.cells cs t)) (n1:t≠79) (n2:t≠59) (n3:t≠42): ¬LS g pv bv k:=by
 have key: ∀ {e:TypeId},(∃cs',w.heap[k]?=some (.cells cs' e))->t=e:=fun⟨cs',q⟩=>by
  rw[q] at hk
  injection hk with hk
  injection hk with _ hk
  exact hk.symm
 rintro (rfl | q | q)
 ·exact n1 (key ⟨_,h.ex⟩)
 ·obtain⟨P,_,h2⟩:=h.ps
  exact n2 (key (own_rowP h2.row k q))
 ·obtain⟨B,_,h4⟩:=h.bs
  exact n3 (key (h4.row.blk k q))
end

def put16 (w:World) (g:Nat) (x0 x1 x2 x3 x4 x5 x6 x7 x8 x9 x10 x11 x12 x13 x14 x15:Value):World:=(((((((((((((((w.setCell ⟨g,0,none⟩ x0).setCell ⟨g,1,none⟩ x1).setCell ⟨g,2,none⟩ x2).setCell ⟨g,3,none⟩ x3).setCell ⟨g,4,none⟩ x4).setCell ⟨g,5,none⟩ x5).setCell ⟨g,6,none⟩ x6).setCell ⟨g,7,none⟩ x7).setCell ⟨g,8,none⟩ x8).setCell ⟨g,9,none⟩ x9).setCell ⟨g,10,none⟩ x10).setCell ⟨g,11,none⟩ x11).setCell ⟨g,12,none⟩ x12).setCell ⟨g,13,none⟩ x13).setCell ⟨g,14,none⟩ x14).setCell ⟨g,15,none⟩ x15
theorem put16_at {w:World} {g:Nat} {x0 x1 x2 x3 x4 x5 x6 x7 x8 x9 x10 x11 x12 x13 x14 x15 y0 y1 y2 y3 y4 y5 y6 y7 y8 y9 y10 y11 y12 y13 y14 y15:Value} {t:TypeId} (h:w.heap[g]?=some (.cells #[y0,y1,y2,y3,y4,y5,y6,y7,y8,y9,y10,y11,y12,y13,y14,y15] t)):(put16 w g x0 x1 x2 x3 x4 x5 x6 x7 x8 x9 x10 x11 x12 x13 x14 x15).heap[g]?=some (.cells #[x0,x1,x2,x3,x4,x5,x6,x7,x8,x9,x10,x11,x12,x13,x14,x15] t):=by
 unfold put16
 rw[(set_atB (set_atB (set_atB (set_atB (set_atB (set_atB (set_atB (set_atB (set_atB (set_atB (set_atB (set_atB (set_atB (set_atB (set_atB (set_atB h _ _) _ _) _ _) _ _) _ _) _ _) _ _) _ _) _ _) _ _) _ _) _ _) _ _) _ _) _ _) _ _)]
 simp only[List.setIfInBounds_toArray,List.set_cons_zero,List.set_cons_succ]
theorem put16_chg {S:Nat->Prop} {a w:World} {g:Nat} {x0 x1 x2 x3 x4 x5 x6 x7 x8 x9 x10 x11 x12 x13 x14 x15:Value} (h:Chg S a w) (hg:S g\/a.heap.size<=g):Chg S a (put16 w g x0 x1 x2 x3 x4 x5 x6 x7 x8 x9 x10 x11 x12 x13 x14 x15):=((((((((((((((((h.set g 0 _ hg).set g 1 _ hg).set g 2 _ hg).set g 3 _ hg).set g 4 _ hg).set g 5 _ hg).set g 6 _ hg).set g 7 _ hg).set g 8 _ hg).set g 9 _ hg).set g 10 _ hg).set g 11 _ hg).set g 12 _ hg).set g 13 _ hg).set g 14 _ hg).set g 15 _ hg)
def DidL (g m:Nat) (s:LedV) (pv bv:Value) (w w':World):Prop:=
 ∃pv' bv',HasL w' g m s pv' bv'/\Chg (LS g pv bv) w w'/\Nxt pv pv' w.heap.size/\Nxt bv bv' w.heap.size
theorem zeroLd:(Try.prog.info? 79).map (fun i=>i.zero)=some (some (.agg #[.int .i64 0,.int .i64 0,.int .i64 0,.bool false,.bool false,.bool false,.bool false,.bool false,.bool false,.bool false,.slice none 0 0,.slice none 0 0,.int .i64 0,.int .i64 0,.int .i64 0,.int .i64 0])):=by kernel_rfl
theorem LPhase_any (g m:Nat) (s:LedV) (pv bv:Value) (w:World) (h:HasL w g m s pv bv):Calls Try.prog 21 #[.pointer (some ⟨g,0,none⟩)] w (Tells (.int .i64 s.ph) w):=by
 have c0:=h.c1
 clear h
 go_enter Try.func21,Try.ntmps21
 go_wp2
 go_ret
 exact⟨rfl,rfl⟩
theorem LView_any (g m:Nat) (s:LedV) (pv bv:Value) (w:World) (h:HasL w g m s pv bv):Calls Try.prog 23 #[.pointer (some ⟨g,0,none⟩)] w (Tells (.int .i64 s.view) w):=by
 have c0:=h.c2
 clear h
 go_enter Try.func23,Try.ntmps23
 go_wp2
 go_ret
 exact⟨rfl,rfl⟩
theorem LNext_any (g m:Nat) (s:LedV) (pv bv:Value) (w:World) (h:HasL w g m s pv bv):Calls Try.prog 8 #[.pointer (some ⟨g,0,none⟩)] w (Tells (.int .i64 s.next) w):=by
 have c0:=h.c12
 clear h
 go_enter Try.func8,Try.ntmps8
 go_wp2
 go_ret
 exact⟨rfl,rfl⟩
theorem isNumL_any (v:Int) (w:World):Calls Try.prog 30 #[.int .i64 v] w (Tells (.bool (highF v 0)) w):=by
 unfold highF
 by_cases h1:0<=v
 ·by_cases h2:v<=2305843009213693952
  ·have d1:decide (0<=v)=true:=decide_eq_true h1
   have d2:decide (v<=2305843009213693952)=true:=decide_eq_true h2
   rw[d1,d2]
   clear h1 h2
   go_enter Try.func30,Try.ntmps30
   go_wp2
   go_ret
   exact⟨rfl,rfl⟩
  ·have d1:decide (0<=v)=true:=decide_eq_true h1
   have d2:decide (v<=2305843009213693952)=false:=decide_eq_false h2
   rw[d1,d2]
   clear h1 h2
   go_enter Try.func30,Try.ntmps30
   go_wp2
   go_ret
   exact⟨rfl,rfl⟩
 ·have d1:decide (0<=v)=false:=decide_eq_false h1
  rw[d1,Bool.false_and]
  clear h1
  go_enter Try.func30,Try.ntmps30
  go_wp2
  go_ret
  exact⟨rfl,rfl⟩
theorem LNew_any (n:Int) (w:World):Calls Try.prog 17 #[.int .i64 n] w (fun e w'=>if someF n=true then e= .returned (.pointer (some ⟨w.heap.size,0,none⟩))/\HasL w' w.heap.size w.heap.size (idleL n 0) (.slice none 0 0) (.slice none 0 0)/\Below w.heap.size w w' else e= .returned (.pointer none)/\w'=w):=by
 have hz:=fun w=>run_zero zeroLd w
 have CQ:=hid (Quorum_any n w)
 unfold quorumF at CQ
 have HH:Hid (HasL (w.alloc (.cells #[.int .i64 n,.int .i64 0,.int .i64 0,.bool false,.bool false,.bool false,.bool false,.bool false,.bool false,.bool false,.slice none 0 0,.slice none 0 0,.int .i64 0,.int .i64 0,.int .i64 0,.int .i64 0] 79)) w.heap.size w.heap.size (idleL n 0) (.slice none 0 0) (.slice none 0 0)):=
  hid ⟨alloc_atB _ _ _ rfl,⟨[],rfl,OwnPs.nil _ _⟩,⟨[],rfl,OwnB.nil _ _⟩,Nat.le_refl _⟩
 have HB:=hid (newAlloc w (.cells #[.int .i64 n,.int .i64 0,.int .i64 0,.bool false,.bool false,.bool false,.bool false,.bool false,.bool false,.bool false,.slice none 0 0,.slice none 0 0,.int .i64 0,.int .i64 0,.int .i64 0,.int .i64 0] 79))
 cases h:someF n<;>rw[h] at CQ
 ·rw[if_neg Bool.false_ne_true] at CQ
  go_enter Try.func17,Try.ntmps17
  go_wp2_with (go_at_call 37;refine CQ.out.mono ?_;rintro e w1 ⟨rfl,rfl⟩)
  go_ret
  simp
 ·rw[if_pos rfl] at CQ
  obtain⟨h1,h2⟩:=someF_iff.1 h
  have d0:(n / 2+1==0)=false:=by
   have:n / 2+1≠0:=by omega
   simpa using this
  clear h h1 h2
  go_enter Try.func17,Try.ntmps17
  go_wp2_with (go_at_call 37;refine CQ.out.mono ?_;rintro e w1 ⟨rfl,rfl⟩)
  go_ret
  simp only[if_true]
  exact⟨rfl,HH.out,HB.out⟩
theorem LFirst_any (g m:Nat) (s:LedV) (pv bv:Value) (w:World) (h:HasL w g m s pv bv) (h1:0<=firstF s) (h2:s.next<=2305843009213693962):Calls Try.prog 35 #[.pointer (some ⟨g,0,none⟩)] w (TellsB (.int .i64 (firstF s)) w):=by
 have c11:=h.c11
 have c12:=h.c12
 obtain⟨B,e,ho⟩:=h.bs
 have hl:s.bats.length=B.length:=by rw[<-e,valsB_length]
 have hlm:=ho.rd.row.len
 obtain⟨a,c,rfl⟩:=ho.form
 unfold firstF at h1 ⊢
 rw[hl] at h1 ⊢
 generalize B.length=N at*
 generalize s.next=x at*
 have ew:IntKind.i64.wrap (x - (N:Int))=x - (N:Int):=by rw[IntKind.wrap_i64];omega
 clear h e ho hl h1 h2 hlm
 go_enter Try.func35,Try.ntmps35
 go_upto_region 1 with fail
 go_quiet (fail)
 go_wp2
 go_ret
 exact⟨rfl,below_drewB (Below.refl _ _) nq⟩
end Ld
end Go.Proofs.Ytbpmfjjbfiiiaaa

/- Stop, Begin, Last; the methods of nil. -/
set_option linter.unusedVariables false
set_option maxRecDepth 8000
set_option linter.unusedSimpArgs false
namespace Go.Proofs.Ytbpmfjjbfiiiaaa
open Lib (hid)
open Go.RowKit
namespace Ld
open Cm Ac Pl Vw

section
variable {w w' : World} {g m : Nat} {s : LedV} {pv bv : Value}
theorem HasL.put0 (h:HasL w g m s pv bv):HasL (put16 w g (.int .i64 s.n) (.int .i64 0) (.int .i64 s.view) (.bool false) (.bool false) (.bool false) (.bool false) (.bool false) (.bool false) (.bool false) (.slice none 0 0) (.slice none 0 0) (.int .i64 0) (.int .i64 0) (.int .i64 0) (.int .i64 0)) g m (idleL s.n s.view) (.slice none 0 0) (.slice none 0 0)/\Chg (LS g pv bv) w (put16 w g (.int .i64 s.n) (.int .i64 0) (.int .i64 s.view) (.bool false) (.bool false) (.bool false) (.bool false) (.bool false) (.bool false) (.bool false) (.slice none 0 0) (.slice none 0 0) (.int .i64 0) (.int .i64 0) (.int .i64 0) (.int .i64 0)):=
 ⟨⟨put16_at h.ex,⟨[],rfl,OwnPs.nil _ _⟩,⟨[],rfl,OwnB.nil _ _⟩,h.gm⟩,put16_chg (Chg.refl _ _) (.inl (.inl rfl))⟩
theorem HasL.put1 (h:HasL w g m s pv bv) (v:Int):HasL (put16 w g (.int .i64 s.n) (.int .i64 1) (.int .i64 v) (.bool false) (.bool false) (.bool false) (.bool false) (.bool false) (.bool false) (.bool false) (.slice none 0 0) (.slice none 0 0) (.int .i64 0) (.int .i64 0) (.int .i64 0) (.int .i64 0)) g m (askL s.n v) (.slice none 0 0) (.slice none 0 0)/\Chg (LS g pv bv) w (put16 w g (.int .i64 s.n) (.int .i64 1) (.int .i64 v) (.bool false) (.bool false) (.bool false) (.bool false) (.bool false) (.bool false) (.bool false) (.slice none 0 0) (.slice none 0 0) (.int .i64 0) (.int .i64 0) (.int .i64 0) (.int .i64 0)):=
 ⟨⟨put16_at h.ex,⟨[],rfl,OwnPs.nil _ _⟩,⟨[],rfl,OwnB.nil _ _⟩,h.gm⟩,put16_chg (Chg.refl _ _) (.inl (.inl rfl))⟩
end
def StopL (g m:Nat) (s:LedV) (pv bv:Value) (w:World) (e:Ending) (w':World):Prop:=e= .returned (.tuple #[])/\DidL g m (idleL s.n s.view) pv bv w w'
def BeginL (g m:Nat) (s:LedV) (v:Int) (pv bv:Value) (w:World) (e:Ending) (w':World):Prop:=e= .returned (.int .i64 (beginF s v).2)/\DidL g m (beginF s v).1 pv bv w w'
theorem LStop_any (g m:Nat) (s:LedV) (pv bv:Value) (w:World) (h:HasL w g m s pv bv):Calls Try.prog 24 #[.pointer (some ⟨g,0,none⟩)] w (StopL g m s pv bv w):=by
 have c0:=h.c0
 have c1:=h.c1
 have c2:=h.c2
 have c3:=h.c3
 have c4:=h.c4
 have c5:=h.c5
 have c6:=h.c6
 have c7:=h.c7
 have c8:=h.c8
 have c9:=h.c9
 have c10:=h.c10
 have c11:=h.c11
 have c12:=h.c12
 have c13:=h.c13
 have c14:=h.c14
 have c15:=h.c15
 have cf:=h.f
 have HP:=hid h.put0
 have HL:=hid h.lt
 unfold put16 at HP
 have hz:=fun w=>run_zero zeroLd w
 clear h
 obtain⟨sn,sp,sv,sh,sps,sb,sx,s1,s2,s3⟩:=s
 dsimp only at c0 c1 c2 c3 c4 c5 c6 c7 c8 c9 c10 c12 c13 c14 c15 HP
 unfold StopL DidL
 dsimp only
 go_enter Try.func24,Try.ntmps24
 go_upto_region 1 with fail
 go_region
 go_wp2
 go_end0
 exact⟨rfl,_,_,HP.out.1.later (Below.refl _ _).drew,HP.out.2.below (Below.refl _ _).drew,Nxt.nil _ _,Nxt.nil _ _⟩
theorem LBegin_any (g m:Nat) (s:LedV) (v:Int) (pv bv:Value) (w:World) (h:HasL w g m s pv bv):Calls Try.prog 19 #[.pointer (some ⟨g,0,none⟩),.int .i64 v] w (BeginL g m s v pv bv w):=by
 have CN:=hid (isNumL_any v w)
 have c0:=h.c0
 have c1:=h.c1
 have c2:=h.c2
 have c3:=h.c3
 have c4:=h.c4
 have c5:=h.c5
 have c6:=h.c6
 have c7:=h.c7
 have c8:=h.c8
 have c9:=h.c9
 have c10:=h.c10
 have c11:=h.c11
 have c12:=h.c12
 have c13:=h.c13
 have c14:=h.c14
 have c15:=h.c15
 have cf:=h.f
 have HH:=hid h
 have HP:=hid (h.put1 v)
 unfold put16 at HP
 have hz:=fun w=>run_zero zeroLd w
 clear h
 unfold BeginL beginF
 cases hv:highF v 0<;>rw[hv] at CN
 ·rw[if_neg Bool.false_ne_true]
  go_enter Try.func19,Try.ntmps19
  go_wp2_with (go_at_call 30;refine CN.out.mono ?_;rintro e w1 ⟨rfl,rfl⟩)
  go_ret
  exact⟨rfl,_,_,HH.out,Chg.refl _ _,Nxt.refl _ _,Nxt.refl _ _⟩
 ·rw[if_pos rfl]
  clear hv
  obtain⟨sn,sp,sv,sh,sps,sb,sx,s1,s2,s3⟩:=s
  dsimp only at c0 c1 c2 c3 c4 c5 c6 c7 c8 c9 c10 c12 c13 c14 c15 HP
  unfold DidL
  dsimp only
  go_enter Try.func19,Try.ntmps19
  go_wp2_with (go_at_call 30;refine CN.out.mono ?_;rintro e w1 ⟨rfl,rfl⟩)
  go_ret
  exact⟨rfl,_,_,HP.out.1,HP.out.2,Nxt.nil _ _,Nxt.nil _ _⟩
end Ld
end Go.Proofs.Ytbpmfjjbfiiiaaa

/- lead.copyOf: a batch with requests of its own. -/
set_option linter.unusedVariables false
set_option maxRecDepth 8000
set_option linter.unusedSimpArgs false
namespace Go.Proofs.Ytbpmfjjbfiiiaaa
open Lib (hid)
open Go.RowKit
namespace Ld
open Cm Ac Pl Vw

set_option maxHeartbeats 4000000 in
theorem LCopy_any (x:BatC) (w:World) (h:RdR w x.u x.bat.reqs) (h3:x.bat.reqs.length<=1000):Calls Try.prog 31 #[batVal x.bat x.u] w (GivesB x.bat w):=by
 obtain⟨⟨f,v,t,q,m,l⟩,ua,uc⟩:=x
 unfold batVal
 dsimp only at h3
 rw[show BatC.u ⟨⟨f,v,t,q,m,l⟩,ua,uc⟩= .slice ua l.length uc from rfl] at h ⊢
 dsimp only at h ⊢
 have hb1:=newAlloc w (batObj f v t q m (.slice ua l.length uc))
 have k1:=alloc_atB w (batObj f v t q m (.slice ua l.length uc)) _ rfl
 obtain⟨W1,hW1⟩: ∃W1,W1=w.alloc (batObj f v t q m (.slice ua l.length uc)):=⟨_,rfl⟩
 rw[<-hW1] at hb1 k1
 have hs1:W1.heap.size=w.heap.size+1:=by rw[hW1];simp
 have hb2:=newAlloc W1 (batObj false 0 0 0 0 (.slice none 0 0))
 have d2:=alloc_atB W1 (batObj false 0 0 0 0 (.slice none 0 0)) _ hs1
 have k2:=cells_later k1 hb2
 obtain⟨W2,hW2⟩: ∃W2,W2=W1.alloc (batObj false 0 0 0 0 (.slice none 0 0)):=⟨_,rfl⟩
 rw[<-hW2] at hb2 d2 k2
 have hs2:W2.heap.size=w.heap.size+2:=by rw[hW2];simp [hs1]
 have HB2:=hid (step hb1 hb2)
 have HR2:=hid (h.later (step hb1 hb2))
 have HK2:=hid k2
 have HD2:=hid d2
 have HS2:=hid hs2
 have HL:=hid h3
 have c0:=cell_at k2 0
 have c1:=cell_at k2 1
 have c2:=cell_at k2 2
 have c3:=cell_at k2 3
 have c4:=cell_at k2 4
 have c5:=cell_at k2 5
 simp at c0 c1 c2 c3 c4 c5
 obtain⟨i5,hi5,h50,h51,h52⟩:=info_partsP infoReqP
 clear h hb1 hb2 k1 k2 d2 h3
 unfold batObj at hW1 hW2
 go_enter Try.func31,Try.ntmps31
 go_upto_region 1 with fail
 rw[<-hW1,<-hW2]
 clear hW1 hW2 hs1 hs2
 go_wp2_with (at_builtin;refine wpList_append_rdx cellsR_length (by omega) cellsR_one rfl _ _ 38 rfl (w.heap.size+2) 71 i5 _ 48 Try.underlying38 hi5 h50 h51 h52 rfl (.slice none 0 0) 0 [] rfl (World.ownsRow_nil _ _ _ _) _ l rfl HR2.out (by have:=HL.out;unfold maxLen;omega) (by have:=HL.out;omega) (by have:=HS2.out;omega) ?_;intro v6 w6 hown6 hg6;rw[Nat.zero_add,List.nil_append] at hown6;obtain⟨va,vc,rfl⟩:=Rw.own_form hown6;have HO6:=hid hown6;have k6:w6.heap[w.heap.size]?= _:=(hg6.block _ (get_ltB HK2.out) (fun q=>by cases q)).trans HK2.out;have d6:w6.heap[w.heap.size+1]?= _:=(hg6.block _ (get_ltB HD2.out) (fun q=>by cases q)).trans HD2.out;have HB6:Hid (Below w.heap.size w w6):=hid (HB2.out.grown hg6 (by have:=HS2.out;omega) (fun k hk=>by cases hk));clear hown6 hg6;have g0:=cell_at k6 0;have g1:=cell_at k6 1;have g2:=cell_at k6 2;have g3:=cell_at k6 3;have g4:=cell_at k6 4;have g5:=cell_at k6 5;have gf:=frozen_at k6;have e0:=cell_at d6 0;have e1:=cell_at d6 1;have e2:=cell_at d6 2;have e3:=cell_at d6 3;have e4:=cell_at d6 4;have e5:=cell_at d6 5;have ef:=frozen_at d6;simp at g0 g1 g2 g3 g4 g5 e0 e1 e2 e3 e4 e5;clear k6 d6 c0 c1 c2 c3 c4 c5)
 refine bodyPost_ret (by simp [results,Try.results31,go_sem,g0,g1,g2,g3,g4,g5,e0,e1,e2,e3,e4,e5]<;>rfl) rfl ⟨⟨⟨f,v,t,q,m,l⟩,va,vc⟩,rfl,rfl,?_,?_⟩
 ·refine own_lowerX (base:=w.heap.size+2) (Rw.own_keep HO6.out fun k hk=>?_) (by omega)
  have hk1:=(Rw.own_lt HO6.out k hk).1
  have key: ∀(W:World) (g j:Nat) (u:Value),k≠g->(W.setCell ⟨g,j,none⟩ u).heap[k]?=W.heap[k]?:=fun W g j u hne=>Below.heap_setCell _ _ _ _ hne
  have n1:k≠w.heap.size+1:=by omega
  rw[key _ _ _ _ n1,key _ _ _ _ n1,key _ _ _ _ n1,key _ _ _ _ n1,key _ _ _ _ n1,key _ _ _ _ n1,key _ _ _ _ (by omega)]
 ·have h1:w.heap.size<=w.heap.size+1:=by omega
  exact((((((HB6.out.setCell (p:=⟨w.heap.size,5,none⟩) (Nat.le_refl _) _).setCell h1 _).setCell h1 _).setCell h1 _).setCell h1 _).setCell h1 _).setCell h1 _
end Ld
end Go.Proofs.Ytbpmfjjbfiiiaaa
