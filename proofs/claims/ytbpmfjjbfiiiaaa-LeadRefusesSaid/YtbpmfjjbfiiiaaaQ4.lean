/- Texts laid together by program. -/
import Derived.Test.YtbpmfjjbfiiiaaaQ3
/- Contracts: the document's nums, Get of a batch. -/
set_option linter.unusedVariables false
set_option maxRecDepth 8000
set_option linter.unusedSimpArgs false
namespace Go.Proofs.Ytbpmfjjbfiiiaaa
open Lib (hid)
open Go.RowKit
namespace Cm

theorem GB.below1 {w:World} {A:Nat} {o:Obj} {wr wx:World} (h:GB w A o wr) (hb:Below (A+1) wr wx):GB w A o wx:=by
 have hl:=h.lt
 exact⟨h.below.trans (hb.mono (by omega)),(hb.block _ (by omega)).trans h.zero,(hb.block _ (by omega)).trans h.box,hl⟩
theorem GB.new {w W:World} (h:Below w.heap.size w W) (hz:W.heap[w.heap.size]?=some batZero) (o:Obj):GB w W.heap.size o (W.alloc o):=
 ⟨stepAlloc h _,((newAlloc W _).block _ (get_ltB hz)).trans hz,alloc_atB _ _ _ rfl,get_ltB hz⟩
theorem GB.put6 {w:World} {A:Nat} {x0 x1 x2 x3 x4 x5:Value} {wr:World} (h:GB w A (.cells #[x0,x1,x2,x3,x4,x5] 42) wr) (y0 y1 y2 y3 y4 y5:Value):
  GB w A (.cells #[y0,y1,y2,y3,y4,y5] 42) ((((((wr.setCell ⟨A,0,none⟩ y0).setCell ⟨A,1,none⟩ y1).setCell ⟨A,2,none⟩ y2).setCell ⟨A,3,none⟩ y3).setCell ⟨A,4,none⟩ y4).setCell ⟨A,5,none⟩ y5):=by
 have hl:=h.lt
 have hA:w.heap.size<=A:=by omega
 have hne:w.heap.size≠A:=by omega
 have key: ∀(W:World) (i:Nat) (u:Value),(W.setCell ⟨A,i,none⟩ u).heap[w.heap.size]?=W.heap[w.heap.size]?:=fun W i u=>Below.heap_setCell _ _ _ _ hne
 refine⟨((((((h.below.setCell hA _).setCell hA _).setCell hA _).setCell hA _).setCell hA _).setCell hA _),?_,?_,hl⟩
 ·rw[key,key,key,key,key,key]
  exact h.zero
 ·exact set_atB (set_atB (set_atB (set_atB (set_atB (set_atB h.box 0 y0) 1 y1) 2 y2) 3 y3) 4 y4) 5 y5
end Cm
end Go.Proofs.Ytbpmfjjbfiiiaaa

/- Contracts of the statements' own helpers of layer 12: awake (and Walk of one batch), Great. -/
set_option linter.unusedVariables false
set_option maxRecDepth 8000
set_option linter.unusedSimpArgs false
namespace Go.Proofs.Ytbpmfjjbfiiiaaa
open Lib (hid)
open Go.RowKit
namespace Cm

theorem cells_later {w w':World} {g:Nat} {o:Obj} (h:w.heap[g]?=some o) (hb:Below w.heap.size w w'):w'.heap[g]?=some o:=(hb.block _ (get_ltB h)).trans h
def tipObj (a b:Int):Obj:=.cells #[.int .i64 a,.int .i64 b] 28
def HeapAt (w:World) (g:Nat) (o:Obj):Prop:=w.heap[g]?=some o
theorem HeapAt.later {w w':World} {g:Nat} {o:Obj} (h:HeapAt w g o) (hb:Below w.heap.size w w'):HeapAt w' g o:=cells_later h hb
theorem HeapAt.other {w:World} {g k i:Nat} {o:Obj} (h:HeapAt w g o) (hne:g≠k) (u:Value):HeapAt (w.setCell ⟨k,i,none⟩ u) g o:=by
 unfold HeapAt
 rw[Below.heap_setCell _ _ _ _ hne]
 exact h
end Cm
end Go.Proofs.Ytbpmfjjbfiiiaaa

/- Contract of the statements' Batch of layer 12. -/
set_option linter.unusedVariables false
set_option maxRecDepth 8000
set_option linter.unusedSimpArgs false
namespace Go.Proofs.Ytbpmfjjbfiiiaaa
open Lib (hid)
open Go.RowKit
namespace Cm

theorem okR_push {l:List ReqV} {r:ReqV} : ∀p,okR p l=true->mayR r=true->hasC (p++l) r.client=false->okR p (l++ [r])=true:=by
 induction l with
 | nil=>intro p h hm hc;rw[List.append_nil] at hc;simp [okR,hm,hc]
 | cons x l ih=>
  intro p h hm hc
  rw[okR] at h
  simp only[Bool.and_eq_true] at h
  rw[List.cons_append,okR,h.1.1,h.1.2,ih (p++ [x]) h.2 hm (by rw[List.append_assoc];exact hc)]
  rfl
def bAtB (A:List UInt8) (i:Nat):Nat:=(A.getD i 0).toNat
theorem bAtB_lt (A:List UInt8) (i:Nat):bAtB A i<256:=UInt8.toNat_lt _
theorem byte_at {w:World} {a:Option Addr} {len cap:Nat} {A:List UInt8} (h:Rd w (.slice a len cap) A) (h0:0<len):
  ∃b o,a=some ⟨b,o,none⟩/\ ∀w':World,Below w.heap.size w w'-> ∀i,i<len->w'.cell? ⟨b,o+i,none⟩=some (.int .u8 (bAtB A i:Int)):=by
 obtain⟨a',len',cap',hv,hl,hc,hm,hn,hx⟩:=h.ex
 cases hv
 match a,hn,hx with
 | none,hn,_=>have:=(hn rfl).1;omega
 | some x,_,hx=>
  obtain⟨b,o,sp⟩:=x
  obtain⟨hs,hi⟩:=hx _ rfl h0
  simp only at hs hi
  subst hs
  refine⟨b,o,rfl,fun w' hb i hil=>?_⟩
  rw[hb.cell (p:=⟨b,o+i,none⟩) (lt_of_cell (hi i hil))]
  exact hi i hil
theorem mayB_mk {a b c d:Int} {l:List ReqV} (ha:0<=a/\a<=2305843009213693952) (hb:0<=b/\b<=2305843009213693952) (hc:0<=c/\c<=2305843009213693952) (hd:0<=d/\d<=2305843009213693952) (hl:l.length<=3) (hok:okR [] l=true):mayB ⟨false,a,b,c,d,l⟩=true:=by
 rw[show mayB ⟨false,a,b,c,d,l⟩=(highF a 0 && highF b 0 && highF c 0 && highF d 0 && reqsF l) from rfl]
 simp [highF,reqsF,hok]
 omega
end Cm
end Go.Proofs.Ytbpmfjjbfiiiaaa
