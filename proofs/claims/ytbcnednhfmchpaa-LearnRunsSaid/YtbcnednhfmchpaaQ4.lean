/- Texts laid together by program. -/
import Derived.Test.YtbcnednhfmchpaaQ3
/- Contracts: package batch's getReqs; the document's nums. -/
set_option linter.unusedVariables false
set_option maxRecDepth 8000
set_option linter.unusedSimpArgs false
namespace Go.Proofs.Ytbcnednhfmchpaa
open Lib (hid)
open Go.RowKit
namespace Cm

theorem infoReqB:(Try.prog.info? 73).map (fun i=>(i.zero,i.size,i.bytes))=some (some (.agg #[.int .i64 0,.int .i64 0,.int .i64 0,.int .i64 0,.string ⟨#[]⟩]),5,48):=by kernel_rfl
theorem info_partsB {e:TypeId} {z:Option Value} {s b:Nat} (h:(Try.prog.info? e).map (fun i=>(i.zero,i.size,i.bytes))=some (z,s,b)): ∃i,Try.prog.info? e=some i/\i.zero=z/\i.size=s/\i.bytes=b:=by
 match hi:Try.prog.info? e with
 | none=>rw[hi] at h;cases h
 | some i=>
  rw[hi] at h
  simp at h
  exact⟨i,rfl,h.1,h.2.1,h.2.2⟩
end Cm
end Go.Proofs.Ytbcnednhfmchpaa

/- Contract: package batch's Get. -/
set_option linter.unusedVariables false
set_option maxRecDepth 8000
set_option linter.unusedSimpArgs false
namespace Go.Proofs.Ytbcnednhfmchpaa
open Lib (hid)
open Go.RowKit
namespace Cm

def batZero:Obj:=.cells #[.bool false,.int .i64 0,.int .i64 0,.int .i64 0,.int .i64 0,.slice none 0 0] 38
def batBox (G:List Int) (v:Value):Obj:=.cells #[.bool false,.int .i64 (G.getD 0 0),.int .i64 (G.getD 1 0),.int .i64 (G.getD 2 0),.int .i64 (G.getD 3 0),v] 38
theorem set_atB {w:World} {g:Nat} {cs:Array Value} {t:TypeId} (h:w.heap[g]?=some (.cells cs t)) (i:Nat) (u:Value):(w.setCell ⟨g,i,none⟩ u).heap[g]?=some (.cells (cs.setIfInBounds i u) t):=by
 have hl:=get_ltB h
 have h':w.heap[g]= .cells cs t:=by simpa [hl] using h
 simp [World.setCell,h',hl,Array.getElem_modify]
theorem frozen_at {w:World} {g:Nat} {cs:Array Value} {t:TypeId} (h:w.heap[g]?=some (.cells cs t)) (k:Nat):w.frozen? ⟨g,k,none⟩=false:=by
 simp [World.frozen?,h]
structure GB (w:World) (A:Nat) (o:Obj) (wr:World):Prop where
 below:Below w.heap.size w wr
 zero:wr.heap[w.heap.size]?=some batZero
 box:wr.heap[A]?=some o
 lt:w.heap.size<A
theorem GB.later {w:World} {A:Nat} {o:Obj} {wr wx:World} (h:GB w A o wr) (hb:Below wr.heap.size wr wx):GB w A o wx:=
 ⟨h.below.trans (hb.mono h.below.size),(hb.block _ (get_ltB h.zero)).trans h.zero,(hb.block _ (get_ltB h.box)).trans h.box,h.lt⟩
theorem GB.zc {w:World} {A:Nat} {o:Obj} {wr:World} (h:GB w A o wr):
  (wr.cell? ⟨w.heap.size,0,none⟩=some (.bool false)/\wr.cell? ⟨w.heap.size,1,none⟩=some (.int .i64 0)/\wr.cell? ⟨w.heap.size,2,none⟩=some (.int .i64 0)/\wr.cell? ⟨w.heap.size,3,none⟩=some (.int .i64 0)/\wr.cell? ⟨w.heap.size,4,none⟩=some (.int .i64 0)/\wr.cell? ⟨w.heap.size,5,none⟩=some (.slice none 0 0))/\ ∀k,wr.frozen? ⟨w.heap.size,k,none⟩=false:=by
 have hz:=h.zero
 unfold batZero at hz
 exact⟨⟨cell_at hz 0,cell_at hz 1,cell_at hz 2,cell_at hz 3,cell_at hz 4,cell_at hz 5⟩,frozen_at hz⟩
theorem GB.bc {w:World} {A:Nat} {G:List Int} {v:Value} {wr:World} (h:GB w A (batBox G v) wr):
  (wr.cell? ⟨A,0,none⟩=some (.bool false)/\wr.cell? ⟨A,1,none⟩=some (.int .i64 (G.getD 0 0))/\wr.cell? ⟨A,2,none⟩=some (.int .i64 (G.getD 1 0))/\wr.cell? ⟨A,3,none⟩=some (.int .i64 (G.getD 2 0))/\wr.cell? ⟨A,4,none⟩=some (.int .i64 (G.getD 3 0))/\wr.cell? ⟨A,5,none⟩=some v)/\ ∀k,wr.frozen? ⟨A,k,none⟩=false:=by
 have hz:=h.box
 unfold batBox at hz
 exact⟨⟨cell_at hz 0,cell_at hz 1,cell_at hz 2,cell_at hz 3,cell_at hz 4,cell_at hz 5⟩,frozen_at hz⟩
theorem GB.bc4 {w:World} {A:Nat} {a b c d:Int} {v:Value} {wr:World} (h:GB w A (batBox [a,b,c,d] v) wr):
  (wr.cell? ⟨A,0,none⟩=some (.bool false)/\wr.cell? ⟨A,1,none⟩=some (.int .i64 a)/\wr.cell? ⟨A,2,none⟩=some (.int .i64 b)/\wr.cell? ⟨A,3,none⟩=some (.int .i64 c)/\wr.cell? ⟨A,4,none⟩=some (.int .i64 d)/\wr.cell? ⟨A,5,none⟩=some v)/\ ∀k,wr.frozen? ⟨A,k,none⟩=false:=h.bc
theorem GB.list {w:World} {A:Nat} {G:List Int} {v:Value} {wr:World} (h:GB w A (batBox G v) wr) (u:Value):GB w A (batBox G u) (wr.setCell ⟨A,5,none⟩ u):=by
 refine⟨h.below.setCell (by have:=h.lt;show w.heap.size<=A;omega) _,?_,?_,h.lt⟩
 ·rw[Below.heap_setCell _ _ _ _ (by have:=h.lt;show w.heap.size≠A;omega)]
  exact h.zero
 ·have hb:=h.box
  unfold batBox at hb
  rw[set_atB hb]
  rfl
theorem set6z {w w1:World} (h:Below w.heap.size w w1) (x0 x1 x2 x3 x4 x5:Value):Below w.heap.size w ((((((w1.setCell ⟨w.heap.size,0,none⟩ x0).setCell ⟨w.heap.size,1,none⟩ x1).setCell ⟨w.heap.size,2,none⟩ x2).setCell ⟨w.heap.size,3,none⟩ x3).setCell ⟨w.heap.size,4,none⟩ x4).setCell ⟨w.heap.size,5,none⟩ x5):=
 (((((h.setCell (Nat.le_refl _) _).setCell (Nat.le_refl _) _).setCell (Nat.le_refl _) _).setCell (Nat.le_refl _) _).setCell (Nat.le_refl _) _).setCell (Nat.le_refl _) _
theorem alloc_atB (w:World) (o:Obj) (H:Nat) (hH:w.heap.size=H):(w.alloc o).heap[H]?=some o:=by
 subst hH
 show(w.heap.push o)[w.heap.size]?= _
 simp
theorem own_box {w':World} {base A n:Nat} {e:TypeId} {v:Value} {xs:List Value} (h:w'.ownsRow base e 5 v n xs) (hA:A<base) (u:Value):(w'.setCell ⟨A,5,none⟩ u).ownsRow base e 5 v n xs:=
 Rw.own_keep h fun g hg=>Below.heap_setCell _ _ _ _ (by have:=(Rw.own_lt h g hg).1;show g≠A;omega)
end Cm
end Go.Proofs.Ytbcnednhfmchpaa

/- Contracts: the document's nums, Get of a batch. -/
set_option linter.unusedVariables false
set_option maxRecDepth 8000
set_option linter.unusedSimpArgs false
namespace Go.Proofs.Ytbcnednhfmchpaa
open Lib (hid)
open Go.RowKit
namespace Cm

theorem GB.below1 {w:World} {A:Nat} {o:Obj} {wr wx:World} (h:GB w A o wr) (hb:Below (A+1) wr wx):GB w A o wx:=by
 have hl:=h.lt
 exact⟨h.below.trans (hb.mono (by omega)),(hb.block _ (by omega)).trans h.zero,(hb.block _ (by omega)).trans h.box,hl⟩
theorem GB.new {w W:World} (h:Below w.heap.size w W) (hz:W.heap[w.heap.size]?=some batZero) (o:Obj):GB w W.heap.size o (W.alloc o):=
 ⟨stepAlloc h _,((newAlloc W _).block _ (get_ltB hz)).trans hz,alloc_atB _ _ _ rfl,get_ltB hz⟩
theorem GB.put6 {w:World} {A:Nat} {x0 x1 x2 x3 x4 x5:Value} {wr:World} (h:GB w A (.cells #[x0,x1,x2,x3,x4,x5] 38) wr) (y0 y1 y2 y3 y4 y5:Value):
  GB w A (.cells #[y0,y1,y2,y3,y4,y5] 38) ((((((wr.setCell ⟨A,0,none⟩ y0).setCell ⟨A,1,none⟩ y1).setCell ⟨A,2,none⟩ y2).setCell ⟨A,3,none⟩ y3).setCell ⟨A,4,none⟩ y4).setCell ⟨A,5,none⟩ y5):=by
 have hl:=h.lt
 have hA:w.heap.size<=A:=by omega
 have hne:w.heap.size≠A:=by omega
 have key: ∀(W:World) (i:Nat) (u:Value),(W.setCell ⟨A,i,none⟩ u).heap[w.heap.size]?=W.heap[w.heap.size]?:=fun W i u=>Below.heap_setCell _ _ _ _ hne
 refine⟨((((((h.below.setCell hA _).setCell hA _).setCell hA _).setCell hA _).setCell hA _).setCell hA _),?_,?_,hl⟩
 ·rw[key,key,key,key,key,key]
  exact h.zero
 ·exact set_atB (set_atB (set_atB (set_atB (set_atB (set_atB h.box 0 y0) 1 y1) 2 y2) 3 y3) 4 y4) 5 y5
end Cm
end Go.Proofs.Ytbcnednhfmchpaa

/- Contracts of the statements' own helpers of layer 12: awake (and Walk of one batch), Great. -/
set_option linter.unusedVariables false
set_option maxRecDepth 8000
set_option linter.unusedSimpArgs false
namespace Go.Proofs.Ytbcnednhfmchpaa
open Lib (hid)
open Go.RowKit
namespace Cm

theorem cells_later {w w':World} {g:Nat} {o:Obj} (h:w.heap[g]?=some o) (hb:Below w.heap.size w w'):w'.heap[g]?=some o:=(hb.block _ (get_ltB h)).trans h
def HeapAt (w:World) (g:Nat) (o:Obj):Prop:=w.heap[g]?=some o
theorem HeapAt.later {w w':World} {g:Nat} {o:Obj} (h:HeapAt w g o) (hb:Below w.heap.size w w'):HeapAt w' g o:=cells_later h hb
theorem HeapAt.other {w:World} {g k i:Nat} {o:Obj} (h:HeapAt w g o) (hne:g≠k) (u:Value):HeapAt (w.setCell ⟨k,i,none⟩ u) g o:=by
 unfold HeapAt
 rw[Below.heap_setCell _ _ _ _ hne]
 exact h
end Cm
end Go.Proofs.Ytbcnednhfmchpaa

/- Contract of the statements' Batch of layer 12. -/
set_option linter.unusedVariables false
set_option maxRecDepth 8000
set_option linter.unusedSimpArgs false
namespace Go.Proofs.Ytbcnednhfmchpaa
open Lib (hid)
open Go.RowKit
namespace Cm

theorem okR_push {l:List ReqV} {r:ReqV} : ∀p,okR p l=true->mayR r=true->hasC (p++l) r.client=false->okR p (l++ [r])=true:=by
 induction l with
 | nil=>intro p h hm hc;rw[List.append_nil] at hc;simp [okR,hm,hc]
 | cons x l ih=>
  intro p h hm hc
  rw[okR] at h
  simp only[Bool.and_eq_true] at h
  rw[List.cons_append,okR,h.1.1,h.1.2,ih (p++ [x]) h.2 hm (by rw[List.append_assoc];exact hc)]
  rfl
def bAtB (A:List UInt8) (i:Nat):Nat:=(A.getD i 0).toNat
theorem bAtB_lt (A:List UInt8) (i:Nat):bAtB A i<256:=UInt8.toNat_lt _
theorem byte_at {w:World} {a:Option Addr} {len cap:Nat} {A:List UInt8} (h:Rd w (.slice a len cap) A) (h0:0<len):
  ∃b o,a=some ⟨b,o,none⟩/\ ∀w':World,Below w.heap.size w w'-> ∀i,i<len->w'.cell? ⟨b,o+i,none⟩=some (.int .u8 (bAtB A i:Int)):=by
 obtain⟨a',len',cap',hv,hl,hc,hm,hn,hx⟩:=h.ex
 cases hv
 match a,hn,hx with
 | none,hn,_=>have:=(hn rfl).1;omega
 | some x,_,hx=>
  obtain⟨b,o,sp⟩:=x
  obtain⟨hs,hi⟩:=hx _ rfl h0
  simp only at hs hi
  subst hs
  refine⟨b,o,rfl,fun w' hb i hil=>?_⟩
  rw[hb.cell (p:=⟨b,o+i,none⟩) (lt_of_cell (hi i hil))]
  exact hi i hil
theorem mayB_mk {a b c d:Int} {l:List ReqV} (ha:0<=a/\a<=2305843009213693952) (hb:0<=b/\b<=2305843009213693952) (hc:0<=c/\c<=2305843009213693952) (hd:0<=d/\d<=2305843009213693952) (hl:l.length<=3) (hok:okR [] l=true):mayB ⟨false,a,b,c,d,l⟩=true:=by
 rw[show mayB ⟨false,a,b,c,d,l⟩=(highF a 0 && highF b 0 && highF c 0 && highF d 0 && reqsF l) from rfl]
 simp [highF,reqsF,hok]
 omega
end Cm
end Go.Proofs.Ytbcnednhfmchpaa
