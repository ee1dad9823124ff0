/- Texts laid together by program. -/
import Derived.Test.YtlnbmblbeaodcaaGreatQS22
import Derived.Test.YtlnbmblbeaodcaaGreatQS23
/- The developers' reader of package snap: sessions, memos. -/
set_option linter.unusedVariables false
set_option maxRecDepth 8000
set_option linter.unusedSimpArgs false
namespace Go.Proofs.YtlnbmblbeaodcaaGreat
open Lib (hid)
open Go.RowKit
open Go.Sort (grow)
namespace Cm
variable {α β : Type}

theorem thenR_err {f:Rdr α} {g:α->Rdr β} {bs:List UInt8} {t c:Int} (h:f bs t= .error c):thenR f g bs t= .error c:=by unfold thenR;rw[h]
theorem thenR_ok {f:Rdr α} {g:α->Rdr β} {bs:List UInt8} {t:Int} {x:α} {t':Int} (h:f bs t= .ok (x,t')):thenR f g bs t=g x bs t':=by unfold thenR;rw[h]
theorem RX.set {w0 w:World} {g k:Nat} {v:Value} {bs:List UInt8} {t:Int} (h:RX w0 g v bs t w) (hk:g<k) (i:Nat) (u:Value):RX w0 g v bs t (w.setCell ⟨k,i,none⟩ u):=
 ⟨h.rd,h.ge,h.below.setCell (p:=⟨k,i,none⟩) (Nat.le_trans h.ge (Nat.le_of_lt hk)) u,(Below.heap_setCell _ _ _ _ (by show g≠k;omega)).trans h.box,h.top⟩
def Gr (g:Nat) (a w:World):Prop:=a.grownBy w (some g)
theorem Gr.of {g:Nat} {a w:World} (h:a.grownBy w (some g)):Gr g a w:=h
theorem Gr.new {g:Nat} {a w:World} (hb:Below a.heap.size a w):Gr g a w:=Lib.grownBy_below (World.grownBy.refl _ _) hb
theorem Gr.trans {g:Nat} {a b c:World} (h:Gr g a b) (k:Gr g b c):Gr g a c:=Lib.grownBy_trans h k
theorem Gr.below {g:Nat} {a b c:World} (h:Gr g a b) (k:Below b.heap.size b c):Gr g a c:=Lib.grownBy_below h k
theorem Gr.size {g:Nat} {a b:World} (h:Gr g a b):a.heap.size<=b.heap.size:=World.grownBy.size h
theorem Gr.block {g:Nat} {a b:World} (h:Gr g a b) (k:Nat) (hk:k<a.heap.size) (hne:k≠g):b.heap[k]?=a.heap[k]?:=World.grownBy.block h k hk (fun q=>hne (by cases q;rfl))
theorem Gr.set {g k:Nat} {a w:World} (h:Gr g a w) (hk:a.heap.size<=k) (i:Nat) (u:Value):Gr g a (w.setCell ⟨k,i,none⟩ u):=by
 refine⟨h.os,h.tape,h.output,Nat.le_trans h.size (by simp),fun j hj hne=>?_⟩
 exact(Below.heap_setCell _ _ _ _ (by show j≠k;omega)).trans (World.grownBy.block h j hj hne)
theorem Gr.at {g k:Nat} {a w:World} {o:Obj} (h:Gr g a w) (ha:a.heap[k]?=some o) (hne:k≠g):w.heap[k]?=some o:=(h.block k (get_ltW ha) hne).trans ha
theorem GetsSn.fails {α:Type} {val:α->Value} {w0:World} {g:Nat} {v:Value} {bs:List UInt8} {w w':World} {e:Ending} {r:Except Int (α × Int)} {c:Int} (hr:r= .error c) (h:FailsSn c e) (hb:Below w0.heap.size w0 w'):GetsSn val r w0 g v bs w e w':=by
 rw[hr];exact⟨h,hb⟩
theorem GetsSn.ok {α:Type} {val:α->Value} {w0:World} {g:Nat} {v:Value} {bs:List UInt8} {w w':World} {e:Ending} {r:Except Int (α × Int)} {x:α} {t:Int} (hr:r= .ok (x,t)) (h:e= .returned (val x)) (hx:RX w0 g v bs t w') (hg:Gr g w w'):GetsSn val r w0 g v bs w e w':=by
 rw[hr];exact⟨h,hx,hg⟩
theorem GetsSn.bad {α:Type} {val:α->Value} {w0:World} {g:Nat} {v:Value} {bs:List UInt8} {w w':World} {e:Ending} {r:Except Int (α × Int)} {c:Int} (h:GetsSn val r w0 g v bs w e w') (hr:r= .error c):FailsSn c e/\Below w0.heap.size w0 w':=by
 rw[hr] at h;exact h
theorem GetsSn.good {α:Type} {val:α->Value} {w0:World} {g:Nat} {v:Value} {bs:List UInt8} {w w':World} {e:Ending} {r:Except Int (α × Int)} {x:α} {t:Int} (h:GetsSn val r w0 g v bs w e w') (hr:r= .ok (x,t)):e= .returned (val x)/\RX w0 g v bs t w'/\Gr g w w':=by
 rw[hr] at h;exact h
set_option maxHeartbeats 1000000 in
theorem SnapGetSession (w0:World) (g:Nat) (v:Value) (bs:List UInt8) (t:Int) (w:World) (h:RX w0 g v bs t w):
  Calls Tryz.prog 182 #[.pointer (some ⟨g,0,none⟩)] w (GetsSn sesVal (sesR bs t) w0 g v bs w):=by
 have hlt:=h.lt
 have hS: ∀r,sesR bs t=r->sesR bs t=r:=fun _ h=>h
 have HX:Hid (RX w0 g v bs t (w.alloc (.cells #[.int .i64 0,.int .i64 0,.int .i64 0] 73))):=hid (h.later (newAlloc _ _))
 have HG:Hid (Gr g w (w.alloc (.cells #[.int .i64 0,.int .i64 0,.int .i64 0] 73))):=hid (Gr.new (newAlloc _ _))
 have HA:Hid ((w.alloc (.cells #[.int .i64 0,.int .i64 0,.int .i64 0] 73)).heap[w.heap.size]?=some (.cells #[.int .i64 0,.int .i64 0,.int .i64 0] 73)):=hid (by show(w.heap.push _)[w.heap.size]?= _;simp)
 have HL:Hid (g<w.heap.size):=hid hlt
 clear h hlt hS
 go_enter Tryz.func182,Tryz.ntmps182
 go_upto_region 1 with fail
 generalize hW:w.alloc _=W at HX HG HA ⊢
 clear hW
 have HN:Hid (w.heap.size=w.heap.size):=hid rfl
 have HR:Hid (sesR bs t=thenR byteR (fun c=>thenR numR fun n=>thenR numR fun r=>pureR ⟨c,n,r⟩) bs t):=hid rfl
 have C:=hid (SnapGetByte w0 g v bs t W HX.out)
 cases hq:byteR bs t with
 | error c=>
  have HQ:=hid hq
  clear hq
  go_wp2_with fail
  refine C.out.mono ?_
  rintro e w2 hh
  obtain⟨hf,hb⟩:=hh.bad HQ.out
  rw[hf]
  exact⟨rfl,GetsSn.fails (HR.out.trans (thenR_err HQ.out)) rfl hb⟩
 | ok p=>
 obtain⟨x1,t1⟩:=p
 have HR:=hid (HR.out.trans (thenR_ok hq))
 have HQ:=hid hq
 clear hq
 go_wp2_with fail
 refine C.out.mono ?_
 rintro e w2 hh
 obtain⟨rfl,hx,hg⟩:=hh.good HQ.out
 have HX:=hid hx
 have hA:=hg.at HA.out (by have:=HL.out;omega)
 have HG:=hid (HG.out.trans hg)
 clear hh hx hg C HQ
 unfold intV
 have k0:=cell_atW hA 0
 have k1:=cell_atW hA 1
 have k2:=cell_atW hA 2
 have kf:=frozen_atW hA
 simp only[List.getElem?_toArray,List.getElem?_cons_zero,List.getElem?_cons_succ] at k0 k1 k2
 go_upto_region 2 with fail
 have HX:=hid (HX.out.set HL.out 0 (.int .i64 x1))
 have HG:=hid (HG.out.set (Nat.le_refl _) 0 (.int .i64 x1))
 have HA:Hid ((w2.setCell ⟨w.heap.size,0,none⟩ (.int .i64 x1)).heap[w.heap.size]?=some (.cells #[.int .i64 x1,.int .i64 0,.int .i64 0] 73)):=hid (set_atW hA 0 (.int .i64 x1))
 generalize hW:w2.setCell _ _=W at HX HG HA ⊢
 clear hW hA kf k0 k1 k2
 have C:=hid (SnapGetNum w0 g v bs t1 W HX.out)
 cases hq:numR bs t1 with
 | error c=>
  have HQ:=hid hq
  clear hq
  go_wp2_with fail
  refine C.out.mono ?_
  rintro e w2 hh
  obtain⟨hf,hb⟩:=hh.bad HQ.out
  rw[hf]
  exact⟨rfl,GetsSn.fails (HR.out.trans (thenR_err HQ.out)) rfl hb⟩
 | ok p=>
 obtain⟨x2,t2⟩:=p
 have HR:=hid (HR.out.trans (thenR_ok hq))
 have HQ:=hid hq
 clear hq
 go_wp2_with fail
 refine C.out.mono ?_
 rintro e w2 hh
 obtain⟨rfl,hx,hg⟩:=hh.good HQ.out
 have HX:=hid hx
 have hA:=hg.at HA.out (by have:=HL.out;omega)
 have HG:=hid (HG.out.trans hg)
 clear hh hx hg C HQ
 unfold intV
 have k0:=cell_atW hA 0
 have k1:=cell_atW hA 1
 have k2:=cell_atW hA 2
 have kf:=frozen_atW hA
 simp only[List.getElem?_toArray,List.getElem?_cons_zero,List.getElem?_cons_succ] at k0 k1 k2
 go_upto_region 3 with fail
 have HX:=hid (HX.out.set HL.out 1 (.int .i64 x2))
 have HG:=hid (HG.out.set (Nat.le_refl _) 1 (.int .i64 x2))
 have HA:Hid ((w2.setCell ⟨w.heap.size,1,none⟩ (.int .i64 x2)).heap[w.heap.size]?=some (.cells #[.int .i64 x1,.int .i64 x2,.int .i64 0] 73)):=hid (set_atW hA 1 (.int .i64 x2))
 generalize hW:w2.setCell _ _=W at HX HG HA ⊢
 clear hW hA kf k0 k1 k2
 have C:=hid (SnapGetNum w0 g v bs t2 W HX.out)
 cases hq:numR bs t2 with
 | error c=>
  have HQ:=hid hq
  clear hq
  go_wp2_with fail
  refine C.out.mono ?_
  rintro e w2 hh
  obtain⟨hf,hb⟩:=hh.bad HQ.out
  rw[hf]
  exact⟨rfl,GetsSn.fails (HR.out.trans (thenR_err HQ.out)) rfl hb⟩
 | ok p=>
 obtain⟨x3,t3⟩:=p
 have HR:=hid (HR.out.trans (thenR_ok hq))
 have HQ:=hid hq
 clear hq
 go_wp2_with fail
 refine C.out.mono ?_
 rintro e w2 hh
 obtain⟨rfl,hx,hg⟩:=hh.good HQ.out
 have HX:=hid hx
 have hA:=hg.at HA.out (by have:=HL.out;omega)
 have HG:=hid (HG.out.trans hg)
 clear hh hx hg C HQ
 unfold intV
 have k0:=cell_atW hA 0
 have k1:=cell_atW hA 1
 have k2:=cell_atW hA 2
 have kf:=frozen_atW hA
 simp only[List.getElem?_toArray,List.getElem?_cons_zero,List.getElem?_cons_succ] at k0 k1 k2
 go_upto_region 4 with fail
 have HX:=hid (HX.out.set HL.out 2 (.int .i64 x3))
 have HG:=hid (HG.out.set (Nat.le_refl _) 2 (.int .i64 x3))
 have HA:Hid ((w2.setCell ⟨w.heap.size,2,none⟩ (.int .i64 x3)).heap[w.heap.size]?=some (.cells #[.int .i64 x1,.int .i64 x2,.int .i64 x3] 73)):=hid (set_atW hA 2 (.int .i64 x3))
 generalize hW:w2.setCell _ _=W at HX HG HA ⊢
 clear hW hA kf k0 k1 k2
 have hA:=HA.out
 have k0:=cell_atW hA 0
 have k1:=cell_atW hA 1
 have k2:=cell_atW hA 2
 have kf:=frozen_atW hA
 simp only[List.getElem?_toArray,List.getElem?_cons_zero,List.getElem?_cons_succ] at k0 k1 k2
 go_wp2
 refine bodyPost_ret (by simp [results,Tryz.results182,go_sem,k0,k1,k2]<;>rfl) rfl (GetsSn.ok (x:=⟨x1,x2,x3⟩) (t:=t3) HR.out rfl ?_ ?_)
 ·exact((HX.out.set HL.out _ _).set HL.out _ _).set HL.out _ _
 ·exact((HG.out.set (Nat.le_refl _) _ _).set (Nat.le_refl _) _ _).set (Nat.le_refl _) _ _
end Cm
end Go.Proofs.YtlnbmblbeaodcaaGreat

/- States in memory: where their lists lie; what a call's result has new, and what it has of what was handed in. Contract: padlockref6's Same. -/
set_option linter.unusedVariables false
set_option maxRecDepth 8000
set_option linter.unusedSimpArgs false
namespace Go.Proofs.YtlnbmblbeaodcaaGreat
open Lib (hid)
open Go.RowKit
namespace Cm

structure StC where
 time:Int
 num:Int
 token:Int
 S:List SesV
 sa:Option Addr
 sc:Nat
 K:List LockC
 ka:Option Addr
 kc:Nat
 M:List MemC
 ma:Option Addr
 mc:Nat
def StC.sv (x:StC):Value:=.slice x.sa x.S.length x.sc
def StC.kv (x:StC):Value:=.slice x.ka x.K.length x.kc
def StC.mv (x:StC):Value:=.slice x.ma x.M.length x.mc
def StC.v (x:StC):StV:=⟨x.time,x.num,x.token,x.S,vals x.K,valsM x.M⟩
def stVal (x:StC):Value:=.agg #[.int .i64 x.time,.int .i64 x.num,.int .i64 x.token,x.sv,x.kv,x.mv]
def zeroC10:StC:=⟨0,0,0,[],none,0,[],none,0,[],none,0⟩
structure RdSt (w:World) (x:StC):Prop where
 s:RdS w x.sv x.S
 k:RdK w x.kv x.K
 m:RdM w x.mv x.M
theorem RdSt.later {w w':World} {x:StC} (h:RdSt w x) (hb:Below w.heap.size w w'):RdSt w' x:=⟨h.s.later hb,h.k.later hb,h.m.later hb⟩
theorem RdSt.zero (w:World):RdSt w zeroC10:=⟨RdX.nil w,⟨RdX.nil w,fun x hx=>by cases hx⟩,RdM.nil w⟩
structure FromS (base:Nat) (w:World) (x y:StC):Prop where
 s:(y.S=x.S/\y.sa=x.sa/\y.sc=x.sc)\/w.ownsRow base 73 3 y.sv y.S.length (flatX cellsS y.S)
 k:(y.K=x.K/\y.ka=x.ka/\y.kc=x.kc)\/OwnN base w y.kv y.K
 m:(y.M=x.M/\y.ma=x.ma/\y.mc=x.mc)\/(w.ownsRow base 76 6 y.mv y.M.length (flatX cellsM y.M)/\ ∀z∈y.M,z∈x.M\/w.ownsRow base 141 2 z.hv z.m.rep.held.length (flatX cellsG z.m.rep.held))
theorem FromS.refl (base:Nat) (w:World) (x:StC):FromS base w x x:=⟨.inl ⟨rfl,rfl,rfl⟩,.inl ⟨rfl,rfl,rfl⟩,.inl ⟨rfl,rfl,rfl⟩⟩
theorem FromS.later {base:Nat} {w w':World} {x y:StC} (h:FromS base w x y) (hb:Below w.heap.size w w'):FromS base w' x y:=
 ⟨h.s.imp id fun q=>Rw.own_below q hb,h.k.imp id fun q=>q.later hb,h.m.imp id fun q=>⟨Rw.own_below q.1 hb,fun z hz=>(q.2 z hz).imp id fun r=>Rw.own_below r hb⟩⟩
theorem FromS.lower {base base':Nat} {w:World} {x y:StC} (h:FromS base w x y) (hb:base'<=base):FromS base' w x y:=
 ⟨h.s.imp id fun q=>own_lowerX q hb,h.k.imp id fun q=>q.lower hb,h.m.imp id fun q=>⟨own_lowerX q.1 hb,fun z hz=>(q.2 z hz).imp id fun r=>own_lowerX r hb⟩⟩
theorem FromS.trans {base:Nat} {w:World} {x y z:StC} (h:FromS base w x y) (h2:FromS base w y z):FromS base w x z:=by
 refine⟨?_,?_,?_⟩
 ·rcases h2.s with ⟨q1,q2,q3⟩ | q
  ·rcases h.s with ⟨p1,p2,p3⟩ | p
   ·exact .inl ⟨q1.trans p1,q2.trans p2,q3.trans p3⟩
   ·refine .inr ?_
    unfold StC.sv at p ⊢
    rw[q1,q2,q3];exact p
  ·exact .inr q
 ·rcases h2.k with ⟨q1,q2,q3⟩ | q
  ·rcases h.k with ⟨p1,p2,p3⟩ | p
   ·exact .inl ⟨q1.trans p1,q2.trans p2,q3.trans p3⟩
   ·refine .inr ?_
    unfold StC.kv at p ⊢
    rw[q1,q2,q3];exact p
  ·exact .inr q
 ·rcases h2.m with ⟨q1,q2,q3⟩ | ⟨q,q'⟩
  ·rcases h.m with ⟨p1,p2,p3⟩ | ⟨p,p'⟩
   ·exact .inl ⟨q1.trans p1,q2.trans p2,q3.trans p3⟩
   ·refine .inr ?_
    unfold StC.mv at p ⊢
    rw[q1,q2,q3];exact⟨p,p'⟩
  ·refine .inr ⟨q,fun z hz=>?_⟩
   rcases q' z hz with r | r
   ·rcases h.m with ⟨p1,p2,p3⟩ | ⟨p,p'⟩
    ·exact .inl (p1 ▸ r)
    ·exact p' z r
   ·exact .inr r
theorem FromS.rd {base:Nat} {w:World} {x y:StC} (h:FromS base w x y) (hx:RdSt w x):RdSt w y:=by
 refine⟨?_,?_,?_⟩
 ·rcases h.s with ⟨q1,q2,q3⟩ | q
  ·have:=hx.s
   unfold StC.sv at this ⊢
   rw[q1,q2,q3];exact this
  ·exact RdX.own cellsS_length q
 ·rcases h.k with ⟨q1,q2,q3⟩ | q
  ·have:=hx.k
   unfold StC.kv at this ⊢
   rw[q1,q2,q3];exact this
  ·exact q.rd
 ·rcases h.m with ⟨q1,q2,q3⟩ | ⟨q,q'⟩
  ·have:=hx.m
   unfold StC.mv at this ⊢
   rw[q1,q2,q3];exact this
  ·refine⟨RdX.own cellsM_length q,fun z hz=>?_⟩
   rcases q' z hz with r | r
   ·exact hx.m.held z r
   ·exact RdH.of (RdX.own cellsG_length r)
theorem NewI.setBelow {base:Nat} {w:World} {u:Value} {l:List Int} (h:NewI base w u l) {g:Nat} (hg:g<base) (j:Nat) (y:Value):NewI base (w.setCell ⟨g,j,none⟩ y) u l:=by
 obtain⟨hr,ho⟩:=h
 obtain⟨a,cap,rfl,h1,h2,h3,h4⟩:=hr.ex
 refine⟨⟨a,cap,rfl,h1,h2,h3,fun x hx hp=>?_⟩,fun k hk=>?_⟩
 ·obtain⟨hs,hc⟩:=h4 x hx hp
  refine⟨hs,fun i hi n q hq=>?_⟩
  have hcell:=hc i hi n q hq
  have hk:(Value.slice a l.length cap).ownBlock =some x.block:=by subst hx;rfl
  have hne:=(ho _ hk).1
  simp only[World.cell?] at hcell ⊢
  rw[Below.heap_setCell w ⟨g,j,none⟩ y x.block (fun q=>by have:x.block=g:=q;omega)]
  exact hcell
 ·obtain⟨h5,cs,h6⟩:=ho k hk
  refine⟨h5,cs,?_⟩
  rw[Below.heap_setCell w ⟨g,j,none⟩ y k (fun q=>by have:k=g:=q;omega)]
  exact h6
theorem OwnN.setBelow {base:Nat} {w:World} {v:Value} {M:List LockC} (h:OwnN base w v M) {g:Nat} (hg:g<base) (j:Nat) (y:Value):OwnN base (w.setCell ⟨g,j,none⟩ y) v M:=
 ⟨ownsRow_setCell_below h.row hg _,fun x hx=>(h.line x hx).setBelow hg j y⟩
theorem FromS.setBelow {base:Nat} {w:World} {x y:StC} (h:FromS base w x y) {g:Nat} (hg:g<base) (j:Nat) (u:Value):FromS base (w.setCell ⟨g,j,none⟩ u) x y:=
 ⟨h.s.imp id fun q=>ownsRow_setCell_below q hg _,h.k.imp id fun q=>q.setBelow hg j u,h.m.imp id fun q=>⟨ownsRow_setCell_below q.1 hg _,fun z hz=>(q.2 z hz).imp id fun r=>ownsRow_setCell_below r hg _⟩⟩
def GetsSt (r:StV) (x:StC) (w:World) (e:Ending) (w':World):Prop:=
 ∃y:StC,e= .returned (stVal y)/\y.v=r/\FromS w.heap.size w' x y/\Below w.heap.size w w'
end Cm
end Go.Proofs.YtlnbmblbeaodcaaGreat

/- States in a box of the call's own; contract: padlockref6's drop. -/
set_option linter.unusedVariables false
set_option maxRecDepth 8000
set_option linter.unusedSimpArgs false
namespace Go.Proofs.YtlnbmblbeaodcaaGreat
open Lib (hid)
open Go.RowKit
namespace Cm

structure BoxS (w:World) (b:Nat) (x:StC):Prop where
 c0:w.cell? ⟨b,0,none⟩=some (.int .i64 x.time)
 c1:w.cell? ⟨b,1,none⟩=some (.int .i64 x.num)
 c2:w.cell? ⟨b,2,none⟩=some (.int .i64 x.token)
 c3:w.cell? ⟨b,3,none⟩=some x.sv
 c4:w.cell? ⟨b,4,none⟩=some x.kv
 c5:w.cell? ⟨b,5,none⟩=some x.mv
 fr: ∀k,w.frozen? ⟨b,k,none⟩=false
theorem BoxS.lt {w:World} {b:Nat} {x:StC} (h:BoxS w b x):b<w.heap.size:=lt_of_cell h.c0
theorem BoxS.later {w w':World} {b:Nat} {x:StC} (h:BoxS w b x) (hb:Below w.heap.size w w'):BoxS w' b x:=
 ⟨(hb.cell (lt_of_cell h.c0)).trans h.c0,(hb.cell (lt_of_cell h.c1)).trans h.c1,(hb.cell (lt_of_cell h.c2)).trans h.c2,(hb.cell (lt_of_cell h.c3)).trans h.c3,(hb.cell (lt_of_cell h.c4)).trans h.c4,(hb.cell (lt_of_cell h.c5)).trans h.c5,fun k=>(hb.frozen (p:=⟨b,k,none⟩) h.lt).trans (h.fr k)⟩
theorem BoxS.new (w:World) (x:StC) (t:TypeId):BoxS (w.alloc (.cells #[.int .i64 x.time,.int .i64 x.num,.int .i64 x.token,x.sv,x.kv,x.mv] t)) w.heap.size x:=by
 obtain⟨c0,c1,c2,c3,c4,c5⟩:=box6 (Below.refl _ (w.alloc (.cells #[.int .i64 x.time,.int .i64 x.num,.int .i64 x.token,x.sv,x.kv,x.mv] t)))
 exact⟨c0,c1,c2,c3,c4,c5,free6m (Below.refl _ _)⟩
theorem BoxS.other {w:World} {b g:Nat} {x:StC} (h:BoxS w b x) (hg:g≠b) (j:Nat) (v:Value):BoxS (w.setCell ⟨g,j,none⟩ v) b x:=by
 obtain⟨c0,c1,c2,c3,c4,c5,fr⟩:=h
 have hn: ∀k,(w.setCell ⟨g,j,none⟩ v).cell? ⟨b,k,none⟩=w.cell? ⟨b,k,none⟩:=fun k=>by
  simp only[World.cell?]
  rw[Below.heap_setCell w ⟨g,j,none⟩ v b (fun q=>hg (by have:b=g:=q;exact this.symm))]
 refine⟨(hn 0).trans c0,(hn 1).trans c1,(hn 2).trans c2,(hn 3).trans c3,(hn 4).trans c4,(hn 5).trans c5,fun k=>?_⟩
 rw[<-fr k]
 simp [go_sem]
theorem BoxS.other6 {w:World} {b g:Nat} {x:StC} (h:BoxS w b x) (hg:g≠b) (v0 v1 v2 v3 v4 v5:Value):BoxS ((((((w.setCell ⟨g,0,none⟩ v0).setCell ⟨g,1,none⟩ v1).setCell ⟨g,2,none⟩ v2).setCell ⟨g,3,none⟩ v3).setCell ⟨g,4,none⟩ v4).setCell ⟨g,5,none⟩ v5) b x:=
 (((((h.other hg 0 v0).other hg 1 v1).other hg 2 v2).other hg 3 v3).other hg 4 v4).other hg 5 v5
theorem BoxS.cells {w:World} {b:Nat} {t n k:Int} {S:List SesV} {sa:Option Addr} {sc:Nat} {K:List LockC} {ka:Option Addr} {kc:Nat} {M:List MemC} {ma:Option Addr} {mc:Nat} (h:BoxS w b ⟨t,n,k,S,sa,sc,K,ka,kc,M,ma,mc⟩):
  (w.cell? ⟨b,0,none⟩=some (.int .i64 t)/\w.cell? ⟨b,1,none⟩=some (.int .i64 n)/\w.cell? ⟨b,2,none⟩=some (.int .i64 k))/\w.cell? ⟨b,3,none⟩=some (.slice sa S.length sc)/\w.cell? ⟨b,4,none⟩=some (.slice ka K.length kc)/\w.cell? ⟨b,5,none⟩=some (.slice ma M.length mc):=
 ⟨⟨h.c0,h.c1,h.c2⟩,h.c3,h.c4,h.c5⟩
theorem BoxS.set0 {w:World} {b:Nat} {x:StC} (h:BoxS w b x) (t:Int):BoxS (w.setCell ⟨b,0,none⟩ (.int .i64 t)) b { x with time:=t } :=by
 obtain⟨c0,c1,c2,c3,c4,c5,fr⟩:=h
 refine⟨?_,?_,?_,?_,?_,?_,fun k=>?_⟩<;>simp [go_sem,c0,c1,c2,c3,c4,c5,fr]<;>rfl
theorem BoxS.set1 {w:World} {b:Nat} {x:StC} (h:BoxS w b x) (t:Int):BoxS (w.setCell ⟨b,1,none⟩ (.int .i64 t)) b { x with num:=t } :=by
 obtain⟨c0,c1,c2,c3,c4,c5,fr⟩:=h
 refine⟨?_,?_,?_,?_,?_,?_,fun k=>?_⟩<;>simp [go_sem,c0,c1,c2,c3,c4,c5,fr]<;>rfl
theorem BoxS.set2 {w:World} {b:Nat} {x:StC} (h:BoxS w b x) (t:Int):BoxS (w.setCell ⟨b,2,none⟩ (.int .i64 t)) b { x with token:=t } :=by
 obtain⟨c0,c1,c2,c3,c4,c5,fr⟩:=h
 refine⟨?_,?_,?_,?_,?_,?_,fun k=>?_⟩<;>simp [go_sem,c0,c1,c2,c3,c4,c5,fr]<;>rfl
theorem BoxS.set3 {w:World} {b:Nat} {x:StC} (h:BoxS w b x) (S:List SesV) (a:Option Addr) (c:Nat):BoxS (w.setCell ⟨b,3,none⟩ (.slice a S.length c)) b { x with S:=S,sa:=a,sc:=c } :=by
 obtain⟨c0,c1,c2,c3,c4,c5,fr⟩:=h
 refine⟨?_,?_,?_,?_,?_,?_,fun k=>?_⟩<;>simp [go_sem,c0,c1,c2,c3,c4,c5,fr]<;>rfl
theorem BoxS.set4 {w:World} {b:Nat} {x:StC} (h:BoxS w b x) (K:List LockC) (a:Option Addr) (c:Nat):BoxS (w.setCell ⟨b,4,none⟩ (.slice a K.length c)) b { x with K:=K,ka:=a,kc:=c } :=by
 obtain⟨c0,c1,c2,c3,c4,c5,fr⟩:=h
 refine⟨?_,?_,?_,?_,?_,?_,fun k=>?_⟩<;>simp [go_sem,c0,c1,c2,c3,c4,c5,fr]<;>rfl
theorem BoxS.set5 {w:World} {b:Nat} {x:StC} (h:BoxS w b x) (M:List MemC) (a:Option Addr) (c:Nat):BoxS (w.setCell ⟨b,5,none⟩ (.slice a M.length c)) b { x with M:=M,ma:=a,mc:=c } :=by
 obtain⟨c0,c1,c2,c3,c4,c5,fr⟩:=h
 refine⟨?_,?_,?_,?_,?_,?_,fun k=>?_⟩<;>simp [go_sem,c0,c1,c2,c3,c4,c5,fr]<;>rfl
end Cm
end Go.Proofs.YtlnbmblbeaodcaaGreat

/- What is said of all later worlds; blocks by their tag; sessions in a box. -/
set_option linter.unusedVariables false
set_option maxRecDepth 8000
set_option linter.unusedSimpArgs false
namespace Go.Proofs.YtlnbmblbeaodcaaGreat
open Lib (hid)
open Go.RowKit
namespace Cm

def Old (V:World) (P:World->Prop):Prop:= ∀W,Below V.heap.size V W->P W
theorem Old.later {V V':World} {P:World->Prop} (h:Old V P) (hb:Below V.heap.size V V'):Old V' P:=fun W hw=>h W (step hb hw)
theorem Old.now {V:World} {P:World->Prop} (h:Old V P):P V:=h V (Below.refl _ _)
end Cm
end Go.Proofs.YtlnbmblbeaodcaaGreat
