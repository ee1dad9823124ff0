/- Texts laid together by program. -/
import Derived.Test.YthpknaieimlmnaaGreatQ17
import Derived.Test.YthpknaieimlmnaaGreatQ18
import Derived.WalkKit
import Derived.ProofKit
import Derived.Laws.BytesArg
import Derived.WalkLawsBesides
import Derived.WalkSpells
import Derived.Lib.Hide
import Derived.Lib.AppendStr
import Derived.Laws.AppendOwnNone
import Derived.Laws.OwnMore
import Derived.Laws.BitsAllLaws
import Derived.Test.YthpknaieimlmnaaGreatProg
import Derived.Defers
import Derived.Recover
import Derived.Laws.Pointers
import Derived.Lib.AppendZeros
import Derived.Lib.QuietBelow
import Derived.Deep.RegionHeld3
import Derived.BigQuiet
import Derived.Deep.Cut
import Derived.Deep.CutBlock
import Derived.Deep.DeepCutAuto
import Derived.Deep.CutRange
import Derived.Deep.RegionWith
/- Byte lists in memory: what a slice of bytes reads as, and that it reads so later. No program is named here. -/
set_option linter.unusedVariables false
set_option maxRecDepth 8000
set_option linter.unusedSimpArgs false
namespace Go.Proofs.YthpknaieimlmnaaGreat
open Lib (hid)
open Go.RowKit

structure Rd (w:World) (v:Value) (bs:List UInt8):Prop where
 ex: ∃a len cap,v= .slice a len cap/\bs.length=len/\len<=cap/\cap<=maxLen/\(a=none->len=0/\cap=0)/\
  ∀x,a=some x->0<len->x.spot=none/\ ∀i,i<len->w.cell? ⟨x.block,x.off+i,none⟩=some (.int .u8 (bs.getD i 0).toNat)
theorem Rd.later {w w':World} {v:Value} {bs:List UInt8} (h:Rd w v bs) (hb:Below w.heap.size w w'):Rd w' v bs:=by
 obtain⟨a,len,cap,hv,hl,hc,hm,hn,hx⟩:=h.ex
 refine⟨a,len,cap,hv,hl,hc,hm,hn,fun x ha hp=>?_⟩
 obtain⟨hs,hi⟩:=hx x ha hp
 refine⟨hs,fun i h=>?_⟩
 rw[hb.cell (lt_of_cell (hi i h))]
 exact hi i h
def IsRow (k:IntKind) (w:World) (a:Option Addr) (len cap:Nat) (zs:List Int):Prop:=
 (a=none/\len=0/\cap=0/\zs= [])\/
 ∃x,a=some x/\len<=cap/\cap<=maxLen/\zs.length=cap/\(∀i,i<zs.length->w.cell? (x.add i)=some (.int k (zs.getD i 0)))/\ ∀n∈zs,(Lit.int k n).wf =true
def bytesOf (zs:List Int) (len:Nat):List UInt8:=(zs.take len).map fun n=>UInt8.ofNat n.toNat
theorem IsRow.rd {w:World} {a:Option Addr} {len cap:Nat} {zs:List Int} (h:IsRow .u8 w a len cap zs):Rd w (.slice a len cap) (bytesOf zs len)/\(bytesOf zs len).length =len:=by
 rcases h with ⟨rfl,rfl,rfl,rfl⟩ | ⟨x,rfl,hl,hm,hz,hcell,hwz⟩
 ·exact⟨⟨none,0,0,rfl,rfl,Nat.le_refl _,by unfold maxLen;omega,fun _=>⟨rfl,rfl⟩,fun x hx=>by cases hx⟩,rfl⟩
 ·have hlen:(bytesOf zs len).length =len:=by unfold bytesOf;simp;omega
  refine⟨⟨some x,len,cap,rfl,hlen,hl,hm,(fun q=>by cases q),fun y hy hp=>?_⟩,hlen⟩
  cases hy
  obtain⟨b,off,spot⟩:=x
  have hc:=hcell 0 (by omega)
  have hspot:spot=none:=by simpa [Addr.add] using World.cell?_spot hc
  subst hspot
  refine⟨rfl,fun i hi=>?_⟩
  have hadd:(⟨b,off,none⟩:Addr).add i=⟨b,off+i,none⟩:=by unfold Addr.add;split<;>simp_all
  have:=hcell i (by omega)
  rw[hadd] at this
  rw[this]
  have hiz:i<zs.length:=by omega
  have hw:=hwz zs[i] (List.getElem_mem hiz)
  have hb:0<=zs[i]/\zs[i]<=255:=by simpa [Lit.wf,IntKind.min,IntKind.max,IntKind.signed,IntKind.bits] using hw
  have e:(bytesOf zs len).getD i 0=UInt8.ofNat (zs[i]).toNat :=by
   unfold bytesOf
   simp [List.getD,List.getElem?_map,List.getElem?_take,hi,List.getElem?_eq_getElem hiz]
  rw[e]
  have e2:zs.getD i 0=zs[i]:=by simp [List.getD,List.getElem?_eq_getElem hiz]
  rw[e2]
  have e3:((UInt8.ofNat (zs[i]).toNat).toNat :Int)=zs[i]:=by
   simp;omega
  rw[e3]
section
variable {P : Program} (w : World)
end

theorem Rd.own {w:World} {base:Nat} {e:TypeId} {v:Value} {bs:List UInt8} (h:w.ownsRow base e 1 v bs.length (cellsOf bs)):Rd w v bs:=by
 rcases h.2 with ⟨rfl,hn⟩ | ⟨g,cap,cur,rfl,hb,hg,hn,hc,hs,ht⟩
 ·have:bs= []:=List.length_eq_zero_iff.1 hn
  exact⟨none,0,0,rfl,hn,Nat.le_refl _,by unfold maxLen;omega,fun _=>⟨rfl,rfl⟩,fun x hx=>by cases hx⟩
 ·refine⟨some ⟨g,0,none⟩,bs.length,cap,rfl,rfl,hn,hc,(fun h=>by cases h),fun x hx hp=>?_⟩
  cases hx
  refine⟨rfl,fun i hi=>?_⟩
  rw[h.cellAt (0+i) (by omega)]
  simp [cellsOf,List.getElem?_eq_getElem hi]
section
variable {P : Program} {w : World}
end

end Go.Proofs.YthpknaieimlmnaaGreat

/- What is owned and written over; what was put and is read again. -/
set_option linter.unusedVariables false
set_option maxRecDepth 8000
set_option linter.unusedSimpArgs false
namespace Go.Proofs.YthpknaieimlmnaaGreat
open Lib (hid)
open Go.RowKit

theorem Rd.pre {w:World} {g N cap m:Nat} {T:List UInt8} (h:Rd w (.slice (some ⟨g,0,none⟩) N cap) T) (hm:m<=N):Rd w (.slice (some ⟨g,0,none⟩) m cap) (T.take m):=by
 obtain⟨a,len,c,hv,hl,hc,hmx,hn,hx⟩:=h.ex
 cases hv
 refine⟨some ⟨g,0,none⟩,m,cap,rfl,by simp;omega,by omega,hmx,(fun q=>by cases q),fun x hx' hp=>?_⟩
 cases hx'
 refine⟨rfl,fun i hi=>?_⟩
 have:=(hx _ rfl (by omega)).2 i (by omega)
 rw[this]
 have e:(T.take m).getD i 0=T.getD i 0:=by simp [List.getD,List.getElem?_take,hi]
 rw[e]
end Go.Proofs.YthpknaieimlmnaaGreat

/- Contracts: package cmd's Put, Get of commands. -/
set_option linter.unusedVariables false
set_option maxRecDepth 8000
set_option linter.unusedSimpArgs false
namespace Go.Proofs.YthpknaieimlmnaaGreat
open Lib (hid)
open Go.RowKit
namespace Cm

theorem Rd.len_le {w:World} {v:Value} {bs:List UInt8} (h:Rd w v bs):bs.length<=maxLen:=by
 obtain⟨a,l,c,_,h1,h2,h3,_⟩:=h.ex
 omega
end Cm
end Go.Proofs.YthpknaieimlmnaaGreat

/- Locks that are held, in memory; contracts of the document's Token. -/
set_option linter.unusedVariables false
set_option maxRecDepth 8000
set_option linter.unusedSimpArgs false
namespace Go.Proofs.YthpknaieimlmnaaGreat
open Lib (hid)
open Go.RowKit
namespace Cm

def tokenF (l:List GrantV) (n:List UInt8):Int:=match l with
 | []=>0
 | g::l=>if g.name=n then g.token else tokenF l n
theorem tokenF_drop (l:List GrantV) (n:List UInt8) (j:Nat) (h:j<l.length):tokenF (l.drop j) n=if l[j].name =n then l[j].token else tokenF (l.drop (j+1)) n:=by
 rw[List.drop_eq_getElem_cons h]
 rfl
set_option maxHeartbeats 1000000 in
theorem RefToken_any (r:ReplyV) (v:Value) (n:List UInt8) (w:World) (h:RdH w v r.held):
  Calls Tryz.prog 36 #[repVal r v,.string (bstr n)] w fun e w'=>e= .returned (.int .i64 (tokenF r.held n))/\Below w.heap.size w w':=by
 obtain⟨k,s,d,l⟩:=r
 unfold repVal
 dsimp only at h ⊢
 have hm:=h.len
 obtain⟨a,cap,rfl, -⟩:=h.ex
 have HA:=hid (fun i hi=>h.at i hi)
 have HD:=hid (tokenF_drop l n)
 clear h
 obtain⟨L,hL⟩: ∃L,l.length=L:=⟨_,rfl⟩
 rw[hL] at hm ⊢
 go_enter Tryz.func36,Tryz.ntmps36
 go_wp2
 go_loop [5] (fun i=> ∃j:Nat,j<=L/\i= .int .i64 j/\Hid (tokenF l n=tokenF (l.drop j) n)) (fun i=>L - (intOf i).toNat)
 case atStart=>exact⟨0,by omega,rfl,hid rfl⟩
 case round=>
  obtain⟨j,hj,rfl,ha⟩:=hrel
  by_cases hlt:j<L
  ·obtain⟨b,o,rfl,q1,q2⟩:=HA.out j (by omega) _ (newAlloc w (.cells #[.int .i64 k,.int .i64 s,.int .i64 d,.slice a L cap] 44))
   have hd:=HD.out j (by omega)
   clear HA HD
   generalize l[j]=g at q1 q2 hd
   by_cases hq:g.name=n
   ·have hE:=str_eq g.name n
    rw[if_pos hq] at hd
    rw[decide_eq_true hq] at hE
    have H:=hid hd
    clear hd hq
    go_wp2
    go_ret
    exact⟨by rw[ha.out,H.out];rfl,newAlloc _ _⟩
   ·have hE:=str_eq g.name n
    rw[if_neg hq] at hd
    rw[decide_eq_false hq] at hE
    have H:=hid hd
    clear hd hq
    go_wp2
    go_round
    case rel=>exact⟨j+1,by omega,by go_num,hid (by rw[ha.out,H.out])⟩
    case measure=>simp [intOf];omega
  ·obtain rfl:j=L:=by omega
   go_wp2
   go_ret
   have ha:=ha.out
   rw[<-hL,List.drop_length] at ha
   exact⟨by rw[ha];rfl,newAlloc _ _⟩
end Cm
end Go.Proofs.YthpknaieimlmnaaGreat

/- Contracts of the statements' own helpers of layer 8: next. -/
set_option linter.unusedVariables false
set_option maxRecDepth 8000
set_option linter.unusedSimpArgs false
namespace Go.Proofs.YthpknaieimlmnaaGreat
open Lib (hid)
open Go.RowKit
namespace Cm

theorem namedF_ok (n:Nat) (h:n<6):nameF (namedF n)=true:=by
 match n,h with
 | 0,_ | 1,_ | 2,_ | 3,_ | 4,_ | 5,_=>decide+kernel
end Cm
end Go.Proofs.YthpknaieimlmnaaGreat

/- What is said of all later worlds; blocks by their tag; sessions in a box. -/
set_option linter.unusedVariables false
set_option maxRecDepth 8000
set_option linter.unusedSimpArgs false
namespace Go.Proofs.YthpknaieimlmnaaGreat
open Lib (hid)
open Go.RowKit
namespace Cm

def Old (V:World) (P:World->Prop):Prop:= ∀W,Below V.heap.size V W->P W
theorem Old.later {V V':World} {P:World->Prop} (h:Old V P) (hb:Below V.heap.size V V'):Old V' P:=fun W hw=>h W (step hb hw)
theorem Old.now {V:World} {P:World->Prop} (h:Old V P):P V:=h V (Below.refl _ _)
def Tag (w:World) (b:Nat) (e:TypeId):Prop:= ∃cs fr,w.heap[b]?=some (.cells cs e fr)
theorem Tag.lt {w:World} {b:Nat} {e:TypeId} (h:Tag w b e):b<w.heap.size:=by
 obtain⟨cs,fr,h⟩:=h
 rcases Nat.lt_or_ge b w.heap.size with q | q
 ·exact q
 ·rw[Array.getElem?_eq_none q] at h;cases h
theorem Tag.later {w w':World} {b:Nat} {e:TypeId} (h:Tag w b e) (hb:Below w.heap.size w w'):Tag w' b e:=by
 have hl:=h.lt
 obtain⟨cs,fr,h⟩:=h
 exact⟨cs,fr,by rw[hb.block b hl];exact h⟩
theorem Tag.set {w:World} {b:Nat} {e:TypeId} (h:Tag w b e) (g j:Nat) (v:Value):Tag (w.setCell ⟨g,j,none⟩ v) b e:=by
 obtain⟨cs,fr,h⟩:=h
 by_cases q:b=g
 ·subst q
  refine⟨cs.setIfInBounds j v,fr,?_⟩
  show(w.heap.modify b _)[b]?= _
  rw[Array.getElem?_modify,if_pos rfl,h]
  rfl
 ·exact⟨cs,fr,by rw[Below.heap_setCell w ⟨g,j,none⟩ v b q];exact h⟩
theorem Tag.new (w:World) (cs:Array Value) (e:TypeId):Tag (w.alloc (.cells cs e)) w.heap.size e:=⟨cs,(0,0),by show(w.heap.push _)[w.heap.size]?= _;simp⟩
theorem Tag.ne {w:World} {b g:Nat} {e f:TypeId} (h:Tag w b e) (h2:Tag w g f) (hn:e≠f):b≠g:=by
 rintro rfl
 obtain⟨cs,fr,h⟩:=h
 obtain⟨cs2,fr2,h2⟩:=h2
 rw[h] at h2
 injection h2 with h2
 injection h2 with _ h2
 exact hn h2
def NotRow (e:TypeId):Prop:=e≠56/\e≠69/\e≠61/\e≠67/\e≠3
theorem own_tag {w:World} {base s n:Nat} {e f:TypeId} {v:Value} {xs:List Value} (h:w.ownsRow base e s v n xs) {g:Nat} (ht:Tag w g f) (hn:f≠e) (j:Nat) (y:Value):(w.setCell ⟨g,j,none⟩ y).ownsRow base e s v n xs:=by
 refine Rw.own_keep h fun k hk=>?_
 refine Below.heap_setCell w ⟨g,j,none⟩ y k fun q=>?_
 have q:k=g:=q
 subst q
 obtain⟨cs,fr,ht⟩:=ht
 rcases h.2 with ⟨rfl,_⟩ | ⟨g1,cap,cur,rfl,_,q1,_⟩
 ·cases hk
 have r1:g1=k:=by simpa [Value.ownBlock] using hk
 subst r1
 rw[q1] at ht
 injection ht with ht
 injection ht with _ ht
 exact hn ht.symm
theorem NewI.tag {base:Nat} {w:World} {u:Value} {l:List Int} (h:NewI base w u l) {g:Nat} {f:TypeId} (ht:Tag w g f) (hn:f≠3) (j:Nat) (y:Value):NewI base (w.setCell ⟨g,j,none⟩ y) u l:=by
 obtain⟨hr,ho⟩:=h
 obtain⟨a,cap,rfl,h1,h2,h3,h4⟩:=hr.ex
 have hne: ∀k,(Value.slice a l.length cap).ownBlock =some k->k≠g:=fun k hk=>by
  rintro rfl
  obtain⟨h5,cs,h6⟩:=ho k hk
  obtain⟨cs2,fr,ht⟩:=ht
  rw[h6] at ht
  injection ht with ht
  injection ht with _ ht
  exact hn ht.symm
 refine⟨⟨a,cap,rfl,h1,h2,h3,fun x hx hp=>?_⟩,fun k hk=>?_⟩
 ·obtain⟨hs,hc⟩:=h4 x hx hp
  refine⟨hs,fun i hi n q hq=>?_⟩
  have hcell:=hc i hi n q hq
  have hk:(Value.slice a l.length cap).ownBlock =some x.block:=by subst hx;rfl
  simp only[World.cell?] at hcell ⊢
  rw[Below.heap_setCell w ⟨g,j,none⟩ y x.block (fun q=>by have:x.block=g:=q;exact hne _ hk this)]
  exact hcell
 ·obtain⟨h5,cs,h6⟩:=ho k hk
  refine⟨h5,cs,?_⟩
  rw[Below.heap_setCell w ⟨g,j,none⟩ y k (fun q=>by have:k=g:=q;exact hne _ hk this)]
  exact h6
theorem FromS.tag {base:Nat} {w:World} {x y:StC} (h:FromS base w x y) {g:Nat} {f:TypeId} (ht:Tag w g f) (hf:NotRow f) (j:Nat) (u:Value):FromS base (w.setCell ⟨g,j,none⟩ u) x y:=
 ⟨h.s.imp id fun q=>own_tag q ht hf.1 j u,h.k.imp id fun q=>⟨own_tag q.row ht hf.2.1 j u,fun z hz=>(q.line z hz).tag ht hf.2.2.2.2 j u⟩,h.m.imp id fun q=>⟨own_tag q.1 ht hf.2.2.1 j u,fun z hz=>(q.2 z hz).imp id fun r=>own_tag r ht hf.2.2.2.1 j u⟩⟩
theorem FromS.tag4 {base:Nat} {w:World} {x y:StC} (h:FromS base w x y) {g:Nat} {f:TypeId} (ht:Tag w g f) (hf:NotRow f) (v0 v1 v2 v3:Value):FromS base ((((w.setCell ⟨g,0,none⟩ v0).setCell ⟨g,1,none⟩ v1).setCell ⟨g,2,none⟩ v2).setCell ⟨g,3,none⟩ v3) x y:=
 (((h.tag ht hf 0 v0).tag (ht.set _ _ _) hf 1 v1).tag ((ht.set _ _ _).set _ _ _) hf 2 v2).tag (((ht.set _ _ _).set _ _ _).set _ _ _) hf 3 v3
theorem FromS.tag6 {base:Nat} {w:World} {x y:StC} (h:FromS base w x y) {g:Nat} {f:TypeId} (ht:Tag w g f) (hf:NotRow f) (v0 v1 v2 v3 v4 v5:Value):FromS base ((((((w.setCell ⟨g,0,none⟩ v0).setCell ⟨g,1,none⟩ v1).setCell ⟨g,2,none⟩ v2).setCell ⟨g,3,none⟩ v3).setCell ⟨g,4,none⟩ v4).setCell ⟨g,5,none⟩ v5) x y:=
 ((h.tag4 ht hf v0 v1 v2 v3).tag ((((ht.set _ _ _).set _ _ _).set _ _ _).set _ _ _) hf 4 v4).tag (((((ht.set _ _ _).set _ _ _).set _ _ _).set _ _ _).set _ _ _) hf 5 v5
theorem Tag.set6 {w:World} {b:Nat} {e:TypeId} (h:Tag w b e) (g:Nat) (v0 v1 v2 v3 v4 v5:Value):Tag ((((((w.setCell ⟨g,0,none⟩ v0).setCell ⟨g,1,none⟩ v1).setCell ⟨g,2,none⟩ v2).setCell ⟨g,3,none⟩ v3).setCell ⟨g,4,none⟩ v4).setCell ⟨g,5,none⟩ v5) b e:=
 (((((h.set _ _ _).set _ _ _).set _ _ _).set _ _ _).set _ _ _).set _ _ _
theorem notRow_state:NotRow 28:=⟨by decide,by decide,by decide,by decide,by decide⟩
theorem notRow_reply:NotRow 44:=⟨by decide,by decide,by decide,by decide,by decide⟩
structure BoxE (w:World) (b:Nat) (s:SesV):Prop where
 c0:w.cell? ⟨b,0,none⟩=some (.int .i64 s.client)
 c1:w.cell? ⟨b,1,none⟩=some (.int .i64 s.num)
 c2:w.cell? ⟨b,2,none⟩=some (.int .i64 s.ren)
 fr: ∀k,w.frozen? ⟨b,k,none⟩=false
theorem BoxE.later {w w':World} {b:Nat} {x:SesV} (h:BoxE w b x) (hb:Below w.heap.size w w'):BoxE w' b x:=
 ⟨(hb.cell (lt_of_cell h.c0)).trans h.c0,(hb.cell (lt_of_cell h.c1)).trans h.c1,(hb.cell (lt_of_cell h.c2)).trans h.c2,fun k=>(hb.frozen (p:=⟨b,k,none⟩) (show b< _ from lt_of_cell h.c0)).trans (h.fr k)⟩
theorem BoxE.new (w:World) (x:SesV) (t:TypeId):BoxE (w.alloc (.cells #[.int .i64 x.client,.int .i64 x.num,.int .i64 x.ren] t)) w.heap.size x:=by
 refine⟨?_,?_,?_,fun k=>?_⟩<;>simp [go_sem]
theorem BoxE.put {w:World} {b:Nat} {x:SesV} (h:BoxE w b x) (c n r:Int):BoxE (((w.setCell ⟨b,0,none⟩ (.int .i64 c)).setCell ⟨b,1,none⟩ (.int .i64 n)).setCell ⟨b,2,none⟩ (.int .i64 r)) b ⟨c,n,r⟩:=by
 obtain⟨c0,c1,c2,fr⟩:=h
 refine⟨?_,?_,?_,fun k=>?_⟩<;>simp [go_sem,c0,c1,c2,fr]
theorem below_set3 {a w:World} {B:Nat} (h:Below B a w) (g:Nat) (hg:B<=g) (x y z:Value):Below B a (((w.setCell ⟨g,0,none⟩ x).setCell ⟨g,1,none⟩ y).setCell ⟨g,2,none⟩ z):=((h.setCell hg _).setCell hg _).setCell hg _
end Cm
end Go.Proofs.YthpknaieimlmnaaGreat
