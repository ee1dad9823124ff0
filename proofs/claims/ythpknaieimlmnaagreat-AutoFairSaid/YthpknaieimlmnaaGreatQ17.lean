/- Texts laid together by program. -/
import Derived.Test.YthpknaieimlmnaaGreatQ14
import Derived.Test.YthpknaieimlmnaaGreatQ16
import Derived.Deep.RegionHeld3
/- States in memory: where their lists lie; what a call's result has new, and what it has of what was handed in. Contract: padlockref6's Same. -/
set_option linter.unusedVariables false
set_option maxRecDepth 8000
set_option linter.unusedSimpArgs false
namespace Go.Proofs.YthpknaieimlmnaaGreat
open Lib (hid)
open Go.RowKit
namespace Cm

structure StC where
 time:Int
 num:Int
 token:Int
 S:List SesV
 sa:Option Addr
 sc:Nat
 K:List LockC
 ka:Option Addr
 kc:Nat
 M:List MemC
 ma:Option Addr
 mc:Nat
def StC.sv (x:StC):Value:=.slice x.sa x.S.length x.sc
def StC.kv (x:StC):Value:=.slice x.ka x.K.length x.kc
def StC.mv (x:StC):Value:=.slice x.ma x.M.length x.mc
def StC.v (x:StC):StV:=⟨x.time,x.num,x.token,x.S,vals x.K,valsM x.M⟩
def stVal (x:StC):Value:=.agg #[.int .i64 x.time,.int .i64 x.num,.int .i64 x.token,x.sv,x.kv,x.mv]
def zeroC10:StC:=⟨0,0,0,[],none,0,[],none,0,[],none,0⟩
structure RdSt (w:World) (x:StC):Prop where
 s:RdS w x.sv x.S
 k:RdK w x.kv x.K
 m:RdM w x.mv x.M
theorem RdSt.later {w w':World} {x:StC} (h:RdSt w x) (hb:Below w.heap.size w w'):RdSt w' x:=⟨h.s.later hb,h.k.later hb,h.m.later hb⟩
theorem RdSt.zero (w:World):RdSt w zeroC10:=⟨RdX.nil w,⟨RdX.nil w,fun x hx=>by cases hx⟩,RdM.nil w⟩
structure FromS (base:Nat) (w:World) (x y:StC):Prop where
 s:(y.S=x.S/\y.sa=x.sa/\y.sc=x.sc)\/w.ownsRow base 56 3 y.sv y.S.length (flatX cellsS y.S)
 k:(y.K=x.K/\y.ka=x.ka/\y.kc=x.kc)\/OwnN base w y.kv y.K
 m:(y.M=x.M/\y.ma=x.ma/\y.mc=x.mc)\/(w.ownsRow base 61 6 y.mv y.M.length (flatX cellsM y.M)/\ ∀z∈y.M,z∈x.M\/w.ownsRow base 67 2 z.hv z.m.rep.held.length (flatX cellsG z.m.rep.held))
theorem FromS.refl (base:Nat) (w:World) (x:StC):FromS base w x x:=⟨.inl ⟨rfl,rfl,rfl⟩,.inl ⟨rfl,rfl,rfl⟩,.inl ⟨rfl,rfl,rfl⟩⟩
theorem FromS.later {base:Nat} {w w':World} {x y:StC} (h:FromS base w x y) (hb:Below w.heap.size w w'):FromS base w' x y:=
 ⟨h.s.imp id fun q=>Rw.own_below q hb,h.k.imp id fun q=>q.later hb,h.m.imp id fun q=>⟨Rw.own_below q.1 hb,fun z hz=>(q.2 z hz).imp id fun r=>Rw.own_below r hb⟩⟩
theorem FromS.lower {base base':Nat} {w:World} {x y:StC} (h:FromS base w x y) (hb:base'<=base):FromS base' w x y:=
 ⟨h.s.imp id fun q=>own_lowerX q hb,h.k.imp id fun q=>q.lower hb,h.m.imp id fun q=>⟨own_lowerX q.1 hb,fun z hz=>(q.2 z hz).imp id fun r=>own_lowerX r hb⟩⟩
theorem FromS.trans {base:Nat} {w:World} {x y z:StC} (h:FromS base w x y) (h2:FromS base w y z):FromS base w x z:=by
 refine⟨?_,?_,?_⟩
 ·rcases h2.s with ⟨q1,q2,q3⟩ | q
  ·rcases h.s with ⟨p1,p2,p3⟩ | p
   ·exact .inl ⟨q1.trans p1,q2.trans p2,q3.trans p3⟩
   ·refine .inr ?_
    unfold StC.sv at p ⊢
    rw[q1,q2,q3];exact p
  ·exact .inr q
 ·rcases h2.k with ⟨q1,q2,q3⟩ | q
  ·rcases h.k with ⟨p1,p2,p3⟩ | p
   ·exact .inl ⟨q1.trans p1,q2.trans p2,q3.trans p3⟩
   ·refine .inr ?_
    unfold StC.kv at p ⊢
    rw[q1,q2,q3];exact p
  ·exact .inr q
 ·rcases h2.m with ⟨q1,q2,q3⟩ | ⟨q,q'⟩
  ·rcases h.m with ⟨p1,p2,p3⟩ | ⟨p,p'⟩
   ·exact .inl ⟨q1.trans p1,q2.trans p2,q3.trans p3⟩
   ·refine .inr ?_
    unfold StC.mv at p ⊢
    rw[q1,q2,q3];exact⟨p,p'⟩
  ·refine .inr ⟨q,fun z hz=>?_⟩
   rcases q' z hz with r | r
   ·rcases h.m with ⟨p1,p2,p3⟩ | ⟨p,p'⟩
    ·exact .inl (p1 ▸ r)
    ·exact p' z r
   ·exact .inr r
theorem FromS.rd {base:Nat} {w:World} {x y:StC} (h:FromS base w x y) (hx:RdSt w x):RdSt w y:=by
 refine⟨?_,?_,?_⟩
 ·rcases h.s with ⟨q1,q2,q3⟩ | q
  ·have:=hx.s
   unfold StC.sv at this ⊢
   rw[q1,q2,q3];exact this
  ·exact RdX.own cellsS_length q
 ·rcases h.k with ⟨q1,q2,q3⟩ | q
  ·have:=hx.k
   unfold StC.kv at this ⊢
   rw[q1,q2,q3];exact this
  ·exact q.rd
 ·rcases h.m with ⟨q1,q2,q3⟩ | ⟨q,q'⟩
  ·have:=hx.m
   unfold StC.mv at this ⊢
   rw[q1,q2,q3];exact this
  ·refine⟨RdX.own cellsM_length q,fun z hz=>?_⟩
   rcases q' z hz with r | r
   ·exact hx.m.held z r
   ·exact RdH.of (RdX.own cellsG_length r)
theorem NewI.setBelow {base:Nat} {w:World} {u:Value} {l:List Int} (h:NewI base w u l) {g:Nat} (hg:g<base) (j:Nat) (y:Value):NewI base (w.setCell ⟨g,j,none⟩ y) u l:=by
 obtain⟨hr,ho⟩:=h
 obtain⟨a,cap,rfl,h1,h2,h3,h4⟩:=hr.ex
 refine⟨⟨a,cap,rfl,h1,h2,h3,fun x hx hp=>?_⟩,fun k hk=>?_⟩
 ·obtain⟨hs,hc⟩:=h4 x hx hp
  refine⟨hs,fun i hi n q hq=>?_⟩
  have hcell:=hc i hi n q hq
  have hk:(Value.slice a l.length cap).ownBlock =some x.block:=by subst hx;rfl
  have hne:=(ho _ hk).1
  simp only[World.cell?] at hcell ⊢
  rw[Below.heap_setCell w ⟨g,j,none⟩ y x.block (fun q=>by have:x.block=g:=q;omega)]
  exact hcell
 ·obtain⟨h5,cs,h6⟩:=ho k hk
  refine⟨h5,cs,?_⟩
  rw[Below.heap_setCell w ⟨g,j,none⟩ y k (fun q=>by have:k=g:=q;omega)]
  exact h6
theorem OwnN.setBelow {base:Nat} {w:World} {v:Value} {M:List LockC} (h:OwnN base w v M) {g:Nat} (hg:g<base) (j:Nat) (y:Value):OwnN base (w.setCell ⟨g,j,none⟩ y) v M:=
 ⟨ownsRow_setCell_below h.row hg _,fun x hx=>(h.line x hx).setBelow hg j y⟩
theorem FromS.setBelow {base:Nat} {w:World} {x y:StC} (h:FromS base w x y) {g:Nat} (hg:g<base) (j:Nat) (u:Value):FromS base (w.setCell ⟨g,j,none⟩ u) x y:=
 ⟨h.s.imp id fun q=>ownsRow_setCell_below q hg _,h.k.imp id fun q=>q.setBelow hg j u,h.m.imp id fun q=>⟨ownsRow_setCell_below q.1 hg _,fun z hz=>(q.2 z hz).imp id fun r=>ownsRow_setCell_below r hg _⟩⟩
def GetsSt (r:StV) (x:StC) (w:World) (e:Ending) (w':World):Prop:=
 ∃y:StC,e= .returned (stVal y)/\y.v=r/\FromS w.heap.size w' x y/\Below w.heap.size w w'
end Cm
end Go.Proofs.YthpknaieimlmnaaGreat

/- States in a box of the call's own; contract: padlockref6's drop. -/
set_option linter.unusedVariables false
set_option maxRecDepth 8000
set_option linter.unusedSimpArgs false
namespace Go.Proofs.YthpknaieimlmnaaGreat
open Lib (hid)
open Go.RowKit
namespace Cm

structure BoxS (w:World) (b:Nat) (x:StC):Prop where
 c0:w.cell? ⟨b,0,none⟩=some (.int .i64 x.time)
 c1:w.cell? ⟨b,1,none⟩=some (.int .i64 x.num)
 c2:w.cell? ⟨b,2,none⟩=some (.int .i64 x.token)
 c3:w.cell? ⟨b,3,none⟩=some x.sv
 c4:w.cell? ⟨b,4,none⟩=some x.kv
 c5:w.cell? ⟨b,5,none⟩=some x.mv
 fr: ∀k,w.frozen? ⟨b,k,none⟩=false
theorem BoxS.lt {w:World} {b:Nat} {x:StC} (h:BoxS w b x):b<w.heap.size:=lt_of_cell h.c0
theorem BoxS.later {w w':World} {b:Nat} {x:StC} (h:BoxS w b x) (hb:Below w.heap.size w w'):BoxS w' b x:=
 ⟨(hb.cell (lt_of_cell h.c0)).trans h.c0,(hb.cell (lt_of_cell h.c1)).trans h.c1,(hb.cell (lt_of_cell h.c2)).trans h.c2,(hb.cell (lt_of_cell h.c3)).trans h.c3,(hb.cell (lt_of_cell h.c4)).trans h.c4,(hb.cell (lt_of_cell h.c5)).trans h.c5,fun k=>(hb.frozen (p:=⟨b,k,none⟩) h.lt).trans (h.fr k)⟩
theorem BoxS.new (w:World) (x:StC) (t:TypeId):BoxS (w.alloc (.cells #[.int .i64 x.time,.int .i64 x.num,.int .i64 x.token,x.sv,x.kv,x.mv] t)) w.heap.size x:=by
 obtain⟨c0,c1,c2,c3,c4,c5⟩:=box6 (Below.refl _ (w.alloc (.cells #[.int .i64 x.time,.int .i64 x.num,.int .i64 x.token,x.sv,x.kv,x.mv] t)))
 exact⟨c0,c1,c2,c3,c4,c5,free6m (Below.refl _ _)⟩
theorem BoxS.other {w:World} {b g:Nat} {x:StC} (h:BoxS w b x) (hg:g≠b) (j:Nat) (v:Value):BoxS (w.setCell ⟨g,j,none⟩ v) b x:=by
 obtain⟨c0,c1,c2,c3,c4,c5,fr⟩:=h
 have hn: ∀k,(w.setCell ⟨g,j,none⟩ v).cell? ⟨b,k,none⟩=w.cell? ⟨b,k,none⟩:=fun k=>by
  simp only[World.cell?]
  rw[Below.heap_setCell w ⟨g,j,none⟩ v b (fun q=>hg (by have:b=g:=q;exact this.symm))]
 refine⟨(hn 0).trans c0,(hn 1).trans c1,(hn 2).trans c2,(hn 3).trans c3,(hn 4).trans c4,(hn 5).trans c5,fun k=>?_⟩
 rw[<-fr k]
 simp [go_sem]
theorem BoxS.other6 {w:World} {b g:Nat} {x:StC} (h:BoxS w b x) (hg:g≠b) (v0 v1 v2 v3 v4 v5:Value):BoxS ((((((w.setCell ⟨g,0,none⟩ v0).setCell ⟨g,1,none⟩ v1).setCell ⟨g,2,none⟩ v2).setCell ⟨g,3,none⟩ v3).setCell ⟨g,4,none⟩ v4).setCell ⟨g,5,none⟩ v5) b x:=
 (((((h.other hg 0 v0).other hg 1 v1).other hg 2 v2).other hg 3 v3).other hg 4 v4).other hg 5 v5
theorem BoxS.cells {w:World} {b:Nat} {t n k:Int} {S:List SesV} {sa:Option Addr} {sc:Nat} {K:List LockC} {ka:Option Addr} {kc:Nat} {M:List MemC} {ma:Option Addr} {mc:Nat} (h:BoxS w b ⟨t,n,k,S,sa,sc,K,ka,kc,M,ma,mc⟩):
  (w.cell? ⟨b,0,none⟩=some (.int .i64 t)/\w.cell? ⟨b,1,none⟩=some (.int .i64 n)/\w.cell? ⟨b,2,none⟩=some (.int .i64 k))/\w.cell? ⟨b,3,none⟩=some (.slice sa S.length sc)/\w.cell? ⟨b,4,none⟩=some (.slice ka K.length kc)/\w.cell? ⟨b,5,none⟩=some (.slice ma M.length mc):=
 ⟨⟨h.c0,h.c1,h.c2⟩,h.c3,h.c4,h.c5⟩
theorem BoxS.set0 {w:World} {b:Nat} {x:StC} (h:BoxS w b x) (t:Int):BoxS (w.setCell ⟨b,0,none⟩ (.int .i64 t)) b { x with time:=t } :=by
 obtain⟨c0,c1,c2,c3,c4,c5,fr⟩:=h
 refine⟨?_,?_,?_,?_,?_,?_,fun k=>?_⟩<;>simp [go_sem,c0,c1,c2,c3,c4,c5,fr]<;>rfl
theorem BoxS.set1 {w:World} {b:Nat} {x:StC} (h:BoxS w b x) (t:Int):BoxS (w.setCell ⟨b,1,none⟩ (.int .i64 t)) b { x with num:=t } :=by
 obtain⟨c0,c1,c2,c3,c4,c5,fr⟩:=h
 refine⟨?_,?_,?_,?_,?_,?_,fun k=>?_⟩<;>simp [go_sem,c0,c1,c2,c3,c4,c5,fr]<;>rfl
theorem BoxS.set2 {w:World} {b:Nat} {x:StC} (h:BoxS w b x) (t:Int):BoxS (w.setCell ⟨b,2,none⟩ (.int .i64 t)) b { x with token:=t } :=by
 obtain⟨c0,c1,c2,c3,c4,c5,fr⟩:=h
 refine⟨?_,?_,?_,?_,?_,?_,fun k=>?_⟩<;>simp [go_sem,c0,c1,c2,c3,c4,c5,fr]<;>rfl
theorem BoxS.set3 {w:World} {b:Nat} {x:StC} (h:BoxS w b x) (S:List SesV) (a:Option Addr) (c:Nat):BoxS (w.setCell ⟨b,3,none⟩ (.slice a S.length c)) b { x with S:=S,sa:=a,sc:=c } :=by
 obtain⟨c0,c1,c2,c3,c4,c5,fr⟩:=h
 refine⟨?_,?_,?_,?_,?_,?_,fun k=>?_⟩<;>simp [go_sem,c0,c1,c2,c3,c4,c5,fr]<;>rfl
theorem BoxS.set4 {w:World} {b:Nat} {x:StC} (h:BoxS w b x) (K:List LockC) (a:Option Addr) (c:Nat):BoxS (w.setCell ⟨b,4,none⟩ (.slice a K.length c)) b { x with K:=K,ka:=a,kc:=c } :=by
 obtain⟨c0,c1,c2,c3,c4,c5,fr⟩:=h
 refine⟨?_,?_,?_,?_,?_,?_,fun k=>?_⟩<;>simp [go_sem,c0,c1,c2,c3,c4,c5,fr]<;>rfl
theorem BoxS.set5 {w:World} {b:Nat} {x:StC} (h:BoxS w b x) (M:List MemC) (a:Option Addr) (c:Nat):BoxS (w.setCell ⟨b,5,none⟩ (.slice a M.length c)) b { x with M:=M,ma:=a,mc:=c } :=by
 obtain⟨c0,c1,c2,c3,c4,c5,fr⟩:=h
 refine⟨?_,?_,?_,?_,?_,?_,fun k=>?_⟩<;>simp [go_sem,c0,c1,c2,c3,c4,c5,fr]<;>rfl
end Cm
end Go.Proofs.YthpknaieimlmnaaGreat

/- Contract: padlockref6's drop (states). -/
set_option linter.unusedVariables false
set_option maxRecDepth 8000
set_option linter.unusedSimpArgs false
namespace Go.Proofs.YthpknaieimlmnaaGreat
open Lib (hid)
open Go.RowKit
namespace Cm

structure Small (x:StC):Prop where
 s:x.S.length<=1000
 k:x.K.length<=1000
 l: ∀k∈x.K,k.line.length<=1000
 m:x.M.length<=1000
 h: ∀m∈x.M,m.m.rep.held.length<=1000
 n:(vals x.K).Pairwise fun a b=>a.name≠b.name
 t:0<=x.token/\x.token<=2305843009213693952
theorem closeE_len (l:List SesV) (c:Int):(closeE l c).length <=l.length:=by
 unfold closeE
 split
 ·unfold closeS
  split
  ·simp
  ·exact List.length_filter_le _ _
 ·exact Nat.le_refl _
theorem closeAll_len (G:List Int): ∀l:List SesV,(closeAll l G).length <=l.length:=by
 induction G with
 | nil=>intro l;exact Nat.le_refl _
 | cons c G ih=>intro l;exact Nat.le_trans (ih (closeE l c)) (closeE_len l c)
theorem closeAll_succ (l:List SesV) (G:List Int) (k:Nat) (h:k<G.length):closeAll l (G.take (k+1))=closeE (closeAll l (G.take k)) G[k]:=by
 unfold closeAll
 rw[List.take_succ_eq_append_getElem h,List.foldl_append]
 rfl
theorem below_set6 {a w:World} {b:Nat} (h:Below b a w) (g:Nat) (hg:b<=g) (x y z u v s:Value):Below b a ((((((w.setCell ⟨g,0,none⟩ x).setCell ⟨g,1,none⟩ y).setCell ⟨g,2,none⟩ z).setCell ⟨g,3,none⟩ u).setCell ⟨g,4,none⟩ v).setCell ⟨g,5,none⟩ s):=set6m h g hg x y z u v s
theorem FromS.set6 {base:Nat} {w:World} {x y:StC} (h:FromS base w x y) {g:Nat} (hg:g<base) (v0 v1 v2 v3 v4 v5:Value):FromS base ((((((w.setCell ⟨g,0,none⟩ v0).setCell ⟨g,1,none⟩ v1).setCell ⟨g,2,none⟩ v2).setCell ⟨g,3,none⟩ v3).setCell ⟨g,4,none⟩ v4).setCell ⟨g,5,none⟩ v5) x y:=
 (((((h.setBelow hg 0 v0).setBelow hg 1 v1).setBelow hg 2 v2).setBelow hg 3 v3).setBelow hg 4 v4).setBelow hg 5 v5
set_option maxHeartbeats 8000000 in
theorem RefDrop_any (x:StC) (u:Value) (G:List Int) (w:World) (h:RdSt w x) (hG:RdI w u G) (hs:Small x):Calls Tryz.prog 58 #[stVal x,u] w (GetsSt (dropA x.v G) x w):=by
 obtain⟨W1,hW1⟩: ∃W1,W1=w.alloc (.cells #[.int .i64 x.time,.int .i64 x.num,.int .i64 x.token,x.sv,x.kv,x.mv] 28):=⟨_,rfl⟩
 have hb1:Below w.heap.size w W1:=by rw[hW1];exact newAlloc _ _
 have hB1:BoxS W1 w.heap.size x:=by rw[hW1];exact BoxS.new w x _
 have hs1:W1.heap.size=w.heap.size+1:=by rw[hW1];simp
 obtain⟨W2,hW2⟩: ∃W2,W2=W1.alloc (.cells #[.int .i64 0,.int .i64 0,.int .i64 0,.slice none 0 0,.slice none 0 0,.slice none 0 0] 28):=⟨_,rfl⟩
 have hb2:Below W1.heap.size W1 W2:=by rw[hW2];exact newAlloc _ _
 have hZ:BoxS W2 (w.heap.size+1) zeroC10:=by rw[<-hs1,hW2];exact BoxS.new W1 zeroC10 _
 have HX0:=hid (hB1.later hb2)
 have HZ0:=hid hZ
 have HB2:=hid (step hb1 hb2)
 have hs2:W2.heap.size=w.heap.size+2:=by rw[hW2];simp [hs1]
 have HS2:=hid hs2
 have HS1:Hid (W1.heap.size=w.heap.size+1):=hid hs1
 have HRD:Hid (∀W,Below w.heap.size w W->RdSt W x):=hid fun W hb=>h.later hb
 have HGR:Hid (∀W,Below w.heap.size w W->RdI W u G):=hid fun W hb=>hG.later hb
 have hdg:=dropK_count G (vals x.K) x.token
 rw[vals_length] at hdg
 have hk5:=hs.k
 have htk:=hs.t
 have KD:Hid (∀W,Below w.heap.size w W->Calls Tryz.prog 109 #[x.kv,u,.int .i64 x.token] W (GetsD (dropK G (vals x.K) x.token) W)):=hid fun W hb=>DropLocks_any x.kv u x.K G x.token W ((h.later hb).k) hs.k hs.l hs.t (hG.later hb) hs.n
 have HSM:=hid hs
 have HDV:Hid (dropA x.v G=⟨x.time,x.num,x.token+(dropK G (vals x.K) x.token).2,closeAll x.S G,(dropK G (vals x.K) x.token).1,valsM x.M⟩):=hid rfl
 have hm:=hG.len
 obtain⟨ga,gc,rfl⟩:=hG.form
 have HA:=hid (fun i hi=>rdi_at hG i hi)
 clear h hG hs hb1 hb2 hB1 hZ
 generalize dropK G (vals x.K) x.token=d at KD hdg HDV
 obtain⟨dl,dg⟩:=d
 dsimp only at hdg HDV
 obtain⟨N,hN⟩: ∃N,G.length=N:=⟨_,rfl⟩
 have HNN:=hid hN
 rw[hN] at hm KD ⊢
 clear hN
 have HDVV:=HDV
 obtain⟨R,hR⟩: ∃R,dropA x.v G=R:=⟨_,rfl⟩
 rw[hR] at HDV ⊢
 clear hR HDVV
 have e1:IntKind.i64.wrap (x.token+dg)=x.token+dg:=by rw[IntKind.wrap_i64];omega
 obtain⟨nb,hnb⟩: ∃nb,w.heap.size=nb:=⟨_,rfl⟩
 have HNB:=hid hnb
 have hHI:nb+2=W2.heap.size:=by omega
 have HHI:=hid hHI
 have HCL:=hid (closeAll_succ x.S G)
 have HCN:=hid (fun k=>closeAll_len (G.take k) x.S)
 clear hHI hs1 hs2
 unfold stVal
 rw[hnb] at HX0 HZ0 HS1
 clear hnb
 go_enter Tryz.func58,Tryz.ntmps58
 go_upto_region 1 with fail
 rw[<-hW1,<-hW2]
 rw[HNB.out]
 clear hW1 hW2
 obtain⟨c0,c1,c2,c3,c4,c5,cf⟩:=HX0.out
 go_upto_region 2 with (go_at_call 109;refine(KD.out _ HB2.out).mono ?_;rintro e w3 ⟨v3,M3,rfl,hv3,ho3,hb3⟩;have HV3:=hid hv3;have HO3:=hid ho3;have HB3:=hid hb3;obtain⟨a3,p3,rfl⟩:=Rw.own_form ho3.row;clear hv3 ho3 hb3)
 have hX3:=HX0.out.later HB3.out
 have hZ3:=HZ0.out.later HB3.out
 have HX4:=hid ((hX3.set4 M3 a3 p3).set2 (x.token+dg))
 have HZ4:=hid ((hZ3.other (Nat.ne_of_lt (Nat.lt_succ_self nb)) 4 (.slice a3 M3.length p3)).other (Nat.ne_of_lt (Nat.lt_succ_self nb)) 2 (.int .i64 (x.token+dg)))
 have hlt:nb<W2.heap.size:=by have:=HHI.out;omega
 have hf3:FromS W2.heap.size w3 x { x with token:=x.token+dg,K:=M3,ka:=a3,kc:=p3 } :=⟨.inl ⟨rfl,rfl,rfl⟩,.inr HO3.out,.inl ⟨rfl,rfl,rfl⟩⟩
 have HF4:Hid (FromS W2.heap.size ((w3.setCell ⟨nb,4,none⟩ (.slice a3 M3.length p3)).setCell ⟨nb,2,none⟩ (.int .i64 (x.token+dg))) x { x with token:=x.token+dg,K:=M3,ka:=a3,kc:=p3 }):=hid ((hf3.setBelow hlt 4 _).setBelow hlt 2 _)
 have HB4:Hid (Below w.heap.size w ((w3.setCell ⟨nb,4,none⟩ (.slice a3 M3.length p3)).setCell ⟨nb,2,none⟩ (.int .i64 (x.token+dg)))):=hid (((step HB2.out HB3.out).setCell (Nat.le_of_eq HNB.out) _).setCell (Nat.le_of_eq HNB.out) _)
 have hs4:W2.heap.size<=((w3.setCell ⟨nb,4,none⟩ (.slice a3 M3.length p3)).setCell ⟨nb,2,none⟩ (.int .i64 (x.token+dg))).heap.size :=by simpa using HB3.out.size
 obtain⟨y0,hy0⟩: ∃y0:StC,y0= { x with token:=x.token+dg,K:=M3,ka:=a3,kc:=p3 } :=⟨_,rfl⟩
 have HYV:Hid (y0.v=⟨x.time,x.num,x.token+dg,x.S,dl,valsM x.M⟩):=hid (by rw[hy0];show(⟨_,_,_,_,vals M3,_⟩:StV)= _;rw[HV3.out])
 rw[<-hy0] at HX4 HF4
 clear hy0
 obtain⟨d0,d1,d2,d3,d4,d5,df⟩:=hX3
 clear c0 c1 c2 c3 c4 c5 cf hZ3
 go_upto_region 4 with fail
 obtain⟨W4,hW4⟩: ∃W4,W4=(w3.setCell ⟨nb,4,none⟩ (.slice a3 M3.length p3)).setCell ⟨nb,2,none⟩ (.int .i64 (x.token+dg)):=⟨_,rfl⟩
 rw[<-hW4] at HX4 HZ4 HF4 HB4 hs4 ⊢
 clear hW4 d0 d1 d2 d3 d4 d5 df
 clear KD HX0 HZ0 hf3 HO3 HB3 hk5 htk hdg
 go_wp2
 go_loopw [7] (fun i wr=> ∃(k:Nat) (y:StC),k<=N/\i= .int .i64 k/\W2.heap.size<=wr.heap.size/\Hid (y.v=⟨x.time,x.num,x.token+dg,closeAll x.S (G.take k),dl,valsM x.M⟩)/\Hid (BoxS wr nb y)/\Hid (BoxS wr (nb+1) zeroC10)/\Hid (FromS W2.heap.size wr x y)/\Hid (Below w.heap.size w wr)) (fun i _=>N - (intOf i).toNat)
 case atStart=>exact⟨0,y0,by omega,rfl,hs4,HYV,HX4,HZ4,HF4,HB4⟩
 case round=>
  obtain⟨k,y,hk,rfl,hsz,HV,HX,HZ,HF,HB⟩:=hrel
  obtain⟨c0,c1,c2,c3,c4,c5,cf⟩:=HX.out
  by_cases hkN:k<N
  ·have hkG:k<G.length:=by rw[HNN.out];exact hkN
   obtain⟨b,o,rfl,hc⟩:=HA.out k hkG
   have q0:=hc _ HB.out
   have hcl:=HCL.out k hkG
   have hys:y.S=closeAll x.S (G.take k):=by have:=congrArg StV.ses HV.out;exact this
   have hlen:y.S.length<=1000:=by rw[hys];exact Nat.le_trans (HCN.out k) HSM.out.s
   rw[<-hys] at hcl
   unfold closeE at hcl
   have KC:=fun W (hb:Below wr.heap.size wr W)=>Close_any y.sv y.S G[k] W ((HF.out.later hb).rd (HRD.out W (step HB.out hb))).s hlen
   have HCC:Hid (∀W,Below wr.heap.size wr W->W.cell? ⟨b,o+k,none⟩=some (.int .i64 G[k])):=hid fun W hb=>hc W (step HB.out hb)
   generalize G[k]=gk at q0 hcl KC HCC
   generalize closeS y.S gk=r at hcl KC
   obtain⟨rl,rc⟩:=r
   dsimp only at hcl
   have KC:=hid KC
   have HCLL:=hid hcl
   have HYS:=hid hys
   clear hcl hys hc hlen HA HCL hkG
   have f1:(0:Int)<=(k:Int):=by omega
   have f2:(k:Int)<(N:Int):=by omega
   go_upto_region 7 with fail
   go_region_held3 (fun W=>W.cell? ⟨nb,3,none⟩=some y.sv/\W.cell? ⟨b,o+k,none⟩=some (.int .i64 gk)) (first | exact⟨c3,q0⟩ | exact⟨(HX.out.later (Below.refl _ wr).drew).c3,HCC.out _ (Below.refl _ wr).drew⟩ | exact⟨(HX.out.later HB5.out).c3,HCC.out _ HB5.out⟩ | go_keep) (first | (go_at_call 110;refine(KC.out _ (Below.refl _ wr).drew).mono ?_;rintro e w5 ⟨v5,rfl,ho5,hb5⟩;dsimp only at ho5;obtain⟨a5,p5,rfl⟩:=Rw.own_form ho5;have HO5:=hid ho5;have HB5:Hid (Below wr.heap.size wr w5):=hid (step (Below.refl wr.heap.size wr).drew hb5);clear ho5 hb5))
   have hX5:=HX.out.later HB5.out
   have HX5:=hid hX5
   have HZ5:=hid (HZ.out.later HB5.out)
   have HF5:=hid (HF.out.later HB5.out)
   have HB05:=hid (step HB.out HB5.out)
   have hsz5:W2.heap.size<=w5.heap.size:=Nat.le_trans hsz HB5.out.size
   obtain⟨d0,d1,d2,d3,d4,d5,df⟩:=hX5
   clear c0 c1 c2 c3 c4 c5 cf q0 KC HCC
   by_cases hr:rc=0
   ·have g1:(rc==0)=true:=by simpa using hr
    have HO6:=hid (own_lowerX HO5.out hsz)
    have hX6:=HX5.out.set3 rl a5 p5
    have hZ6:=HZ5.out.other (Nat.ne_of_lt (Nat.lt_succ_self nb)) 3 (.slice a5 rl.length p5)
    have hf6:FromS W2.heap.size w5 x { y with S:=rl,sa:=a5,sc:=p5 } :=⟨.inr HO6.out,HF5.out.k,HF5.out.m⟩
    have HX6:=hid hX6
    have HZ6:=hid hZ6
    have HF6:=hid (hf6.setBelow hlt 3 (.slice a5 rl.length p5))
    have HB6:Hid (Below w.heap.size w (w5.setCell ⟨nb,3,none⟩ (.slice a5 rl.length p5))):=hid (HB05.out.setCell (Nat.le_of_eq HNB.out) _)
    have hcl:=HCLL.out
    rw[if_pos hr] at hcl
    have HV6:Hid (({ y with S:=rl,sa:=a5,sc:=p5 } :StC).v =⟨x.time,x.num,x.token+dg,closeAll x.S (G.take (k+1)),dl,valsM x.M⟩):=hid (by
     have hv:=HV.out
     rw[hcl]
     unfold StC.v at hv ⊢
     injection hv with v1 v2 v3 v4 v5 v6
     dsimp only
     rw[v1,v2,v3,v5,v6])
    have hsz6:W2.heap.size<=(w5.setCell ⟨nb,3,none⟩ (.slice a5 rl.length p5)).heap.size :=by simpa using hsz5
    clear hr hX6 hZ6 hf6 hcl
    go_wp2
    go_roundw
    case rel=>exact⟨k+1,_,by omega,by go_num,hsz6,HV6,HX6,HZ6,HF6,HB6⟩
    case measure=>simp [intOf];omega
   ·have g1:(rc==0)=false:=by simpa using hr
    have hcl:=HCLL.out
    rw[if_neg hr] at hcl
    have HV6:Hid (y.v=⟨x.time,x.num,x.token+dg,closeAll x.S (G.take (k+1)),dl,valsM x.M⟩):=hid (by rw[hcl,HYS.out];exact HV.out)
    clear hr hcl
    go_wp2
    go_roundw
    case rel=>exact⟨k+1,y,by omega,by go_num,hsz5,HV6,HX5,HZ5,HF5,HB05⟩
    case measure=>simp [intOf];omega
  ·obtain rfl:k=N:=by omega
   obtain⟨z0,z1,z2,z3,z4,z5,zf⟩:=HZ.out
   simp only[zeroC10,StC.sv,StC.kv,StC.mv,List.length_nil] at z0 z1 z2 z3 z4 z5
   have HE:=hid ((HF.out.set6 (show nb+1<W2.heap.size by have:=HHI.out;omega) (.int .i64 y.time) (.int .i64 y.num) (.int .i64 y.token) y.sv y.kv y.mv).lower HB2.out.size)
   have HBE:=hid (below_set6 HB.out (nb+1) (by have:=HNB.out;omega) (.int .i64 y.time) (.int .i64 y.num) (.int .i64 y.token) y.sv y.kv y.mv)
   have HVE:Hid (y.v=R):=hid (by
    have hv:=HV.out
    rw[<-HNN.out,List.take_length] at hv
    rw[hv,HDV.out])
   obtain⟨yt,yn,yk,yS,ya,yc,yK,yka,ykc,yM,yma,ymc⟩:=y
   simp only[StC.sv,StC.kv,StC.mv] at c0 c1 c2 c3 c4 c5 HE HBE
   clear HA HCL HX HZ HF HV
   go_wp2
   refine bodyPost_ret (by simp [results,Tryz.results58,go_sem,z0,z1,z2,z3,z4,z5,zf]<;>rfl) rfl ?_
   exact⟨_,rfl,HVE.out,HE.out,HBE.out⟩
end Cm
end Go.Proofs.YthpknaieimlmnaaGreat
