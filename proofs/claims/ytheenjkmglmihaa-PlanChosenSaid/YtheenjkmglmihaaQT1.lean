/- Texts laid together by program. -/
import Derived.Test.YtheenjkmglmihaaQ5
import Derived.WalkKit
import Derived.ProofKit
import Derived.Laws.BytesArg
import Derived.WalkLawsBesides
import Derived.WalkSpells
import Derived.Lib.Hide
import Derived.Lib.AppendStr
import Derived.Laws.AppendOwnNone
import Derived.Laws.OwnMore
import Derived.Laws.BitsAllLaws
import Derived.Lib.AppendZeros
import Derived.Lib.QuietBelow
import Derived.Deep.RegionHeld3
import Derived.BigQuiet
import Derived.Maps.AppendAt
import Derived.Deep.AppendLies
/- Byte lists in memory: what a slice of bytes reads as, and that it reads so later. No program is named here. -/
set_option linter.unusedVariables false
set_option maxRecDepth 8000
set_option linter.unusedSimpArgs false
namespace Go.Proofs.Ytheenjkmglmihaa
open Lib (hid)
open Go.RowKit

def IsRow (k:IntKind) (w:World) (a:Option Addr) (len cap:Nat) (zs:List Int):Prop:=
 (a=none/\len=0/\cap=0/\zs= [])\/
 ∃x,a=some x/\len<=cap/\cap<=maxLen/\zs.length=cap/\(∀i,i<zs.length->w.cell? (x.add i)=some (.int k (zs.getD i 0)))/\ ∀n∈zs,(Lit.int k n).wf =true
def bytesOf (zs:List Int) (len:Nat):List UInt8:=(zs.take len).map fun n=>UInt8.ofNat n.toNat
theorem IsRow.rd {w:World} {a:Option Addr} {len cap:Nat} {zs:List Int} (h:IsRow .u8 w a len cap zs):Rd w (.slice a len cap) (bytesOf zs len)/\(bytesOf zs len).length =len:=by
 rcases h with ⟨rfl,rfl,rfl,rfl⟩ | ⟨x,rfl,hl,hm,hz,hcell,hwz⟩
 ·exact⟨⟨none,0,0,rfl,rfl,Nat.le_refl _,by unfold maxLen;omega,fun _=>⟨rfl,rfl⟩,fun x hx=>by cases hx⟩,rfl⟩
 ·have hlen:(bytesOf zs len).length =len:=by unfold bytesOf;simp;omega
  refine⟨⟨some x,len,cap,rfl,hlen,hl,hm,(fun q=>by cases q),fun y hy hp=>?_⟩,hlen⟩
  cases hy
  obtain⟨b,off,spot⟩:=x
  have hc:=hcell 0 (by omega)
  have hspot:spot=none:=by simpa [Addr.add] using World.cell?_spot hc
  subst hspot
  refine⟨rfl,fun i hi=>?_⟩
  have hadd:(⟨b,off,none⟩:Addr).add i=⟨b,off+i,none⟩:=by unfold Addr.add;split<;>simp_all
  have:=hcell i (by omega)
  rw[hadd] at this
  rw[this]
  have hiz:i<zs.length:=by omega
  have hw:=hwz zs[i] (List.getElem_mem hiz)
  have hb:0<=zs[i]/\zs[i]<=255:=by simpa [Lit.wf,IntKind.min,IntKind.max,IntKind.signed,IntKind.bits] using hw
  have e:(bytesOf zs len).getD i 0=UInt8.ofNat (zs[i]).toNat :=by
   unfold bytesOf
   simp [List.getD,List.getElem?_map,List.getElem?_take,hi,List.getElem?_eq_getElem hiz]
  rw[e]
  have e2:zs.getD i 0=zs[i]:=by simp [List.getD,List.getElem?_eq_getElem hiz]
  rw[e2]
  have e3:((UInt8.ofNat (zs[i]).toNat).toNat :Int)=zs[i]:=by
   simp;omega
  rw[e3]
section
variable {P : Program} (w : World)
end

section
variable {P : Program} {w : World}
end

end Go.Proofs.Ytheenjkmglmihaa

/- Contracts: package cmd's Put, Get of commands. -/
set_option linter.unusedVariables false
set_option maxRecDepth 8000
set_option linter.unusedSimpArgs false
namespace Go.Proofs.Ytheenjkmglmihaa
open Lib (hid)
open Go.RowKit
namespace Cm

theorem Rd.len_le {w:World} {v:Value} {bs:List UInt8} (h:Rd w v bs):bs.length<=maxLen:=by
 obtain⟨a,l,c,_,h1,h2,h3,_⟩:=h.ex
 omega
theorem set3 {w w1:World} (h:Below w.heap.size w w1) (x y z:Value):Below w.heap.size w (((w1.setCell ⟨w.heap.size,0,none⟩ x).setCell ⟨w.heap.size,1,none⟩ y).setCell ⟨w.heap.size,2,none⟩ z):=
 ((h.setCell (Nat.le_refl _) _).setCell (Nat.le_refl _) _).setCell (Nat.le_refl _) _
end Cm
end Go.Proofs.Ytheenjkmglmihaa

/- Contracts: package cmd's PutReq, GetReq. -/
set_option linter.unusedVariables false
set_option maxRecDepth 8000
set_option linter.unusedSimpArgs false
namespace Go.Proofs.Ytheenjkmglmihaa
open Lib (hid)
open Go.RowKit
namespace Cm



theorem free5 {w w':World} {x y z u v:Value} {t:TypeId} (h:Below (w.alloc (.cells #[x,y,z,u,v] t)).heap.size (w.alloc (.cells #[x,y,z,u,v] t)) w'):
  ∀k,w'.frozen? ⟨w.heap.size,k,none⟩=false:=by
 intro k
 have hl:w.heap.size<(w.alloc (.cells #[x,y,z,u,v] t)).heap.size :=by simp
 rw[h.frozen (p:=⟨w.heap.size,k,none⟩) hl]
 simp [go_sem]
theorem set5 {w w1:World} (h:Below w.heap.size w w1) (x y z u v:Value):Below w.heap.size w (((((w1.setCell ⟨w.heap.size,0,none⟩ x).setCell ⟨w.heap.size,1,none⟩ y).setCell ⟨w.heap.size,2,none⟩ z).setCell ⟨w.heap.size,3,none⟩ u).setCell ⟨w.heap.size,4,none⟩ v):=
 ((((h.setCell (Nat.le_refl _) _).setCell (Nat.le_refl _) _).setCell (Nat.le_refl _) _).setCell (Nat.le_refl _) _).setCell (Nat.le_refl _) _
end Cm
end Go.Proofs.Ytheenjkmglmihaa

/- Contracts of the statements' own helpers of layer 4: awake, Named, Cmd, Req. -/
set_option linter.unusedVariables false
set_option maxRecDepth 8000
set_option linter.unusedSimpArgs false
namespace Go.Proofs.Ytheenjkmglmihaa
open Lib (hid)
open Go.RowKit
namespace Cm


def namedF:Nat->List UInt8
 | 0=> [97]
 | 1=> [98]
 | 2=> [99]
 | 3=> [100]
 | 4=> [107,101,121,45,49]
 | _=> [116,104,101,45,108,97,115,116,45,111,110,101]
theorem Named_any (n:Nat) (w:World) (h:n<256):Calls Try.prog 55 #[.int .u8 (n:Int)] w fun e w'=>e= .returned (.string (bstr (namedF (n % 6))))/\Below w.heap.size w w':=by
 have hm:n % 6<6:=Nat.mod_lt _ (by omega)
 have hc:((n:Int) % 6)=((n % 6:Nat):Int):=by simp
 generalize n % 6=r at hm hc ⊢
 match r,hm with
 | 0,_ | 1,_ | 2,_ | 3,_ | 4,_ | 5,_=>
  simp at hc
  go_enter Try.func55,Try.ntmps55
  go_wp2
  go_ret
  exact⟨rfl,newAlloc _ _⟩
theorem boxAB {w w':World} {A B:Array Value} {t u:TypeId} (h:Below ((w.alloc (.cells A t)).alloc (.cells B u)).heap.size ((w.alloc (.cells A t)).alloc (.cells B u)) w'):
  (∀k,w'.cell? ⟨w.heap.size,k,none⟩=A[k]?)/\(∀k,w'.cell? ⟨w.heap.size+1,k,none⟩=B[k]?)/\(∀k,w'.frozen? ⟨w.heap.size,k,none⟩=false)/\(∀k,w'.frozen? ⟨w.heap.size+1,k,none⟩=false):=by
 have h0:w.heap.size<((w.alloc (.cells A t)).alloc (.cells B u)).heap.size :=by simp;omega
 have h1:w.heap.size+1<((w.alloc (.cells A t)).alloc (.cells B u)).heap.size :=by simp
 refine⟨fun k=>?_,fun k=>?_,fun k=>?_,fun k=>?_⟩
 ·rw[h.cell (p:=⟨w.heap.size,k,none⟩) h0];simp [go_sem]
 ·rw[h.cell (p:=⟨w.heap.size+1,k,none⟩) h1];simp [go_sem]
 ·rw[h.frozen (p:=⟨w.heap.size,k,none⟩) h0];simp [go_sem]
 ·rw[h.frozen (p:=⟨w.heap.size+1,k,none⟩) h1];simp [go_sem]
def cmdOf (k s n:Nat):CmdV:=⟨1+((k % 6:Nat):Int),if k % 6=0 then 0 else 1+((s:Int) % 7),if k % 6=2\/k % 6=3\/k % 6=4 then namedF (n % 6) else []⟩
set_option maxHeartbeats 4000000 in
theorem Cmd_any (k s n:Nat) (w:World) (hk:k<256) (hs:s<256) (hn:n<256):Calls Try.prog 47 #[.int .u8 (k:Int),.int .u8 (s:Int),.int .u8 (n:Int)] w fun e w'=>e= .returned (cmdVal (cmdOf k s n))/\Below w.heap.size w w':=by
 have hm:k % 6<6:=Nat.mod_lt _ (by omega)
 have hc:((k:Int) % 6)=((k % 6:Nat):Int):=by simp
 have CN:=hid (fun w=>Named_any n w hn)
 unfold cmdOf cmdVal
 generalize k % 6=r at hm hc ⊢
 generalize namedF (n % 6)=nm at CN ⊢
 match r,hm with
 | 0,_ | 1,_ | 2,_ | 3,_ | 4,_ | 5,_=>
  simp at hc
  dsimp only
  go_enter Try.func47,Try.ntmps47
  go_wp2_with (go_at_call 55;refine(CN.out _).mono ?_;rintro e w1 ⟨rfl,hb1⟩;obtain⟨c0,c1,f0,f1⟩:=boxAB hb1)
  first
   | (refine bodyPost_ret (by simp [results,Try.results47,go_sem];rfl) rfl ⟨by simp [bstr],stepAlloc (newAlloc _ _) _⟩)
   | (refine bodyPost_ret (by simp [results,Try.results47,go_sem,c0,c1,f0,f1];rfl) rfl ⟨by simp,set3 ((step (stepAlloc (newAlloc _ _) _) hb1).setCell (by simp) _) _ _ _⟩)
theorem cmdOf_may (k s n:Nat):mayF (cmdOf k s n)=true:=by
 have hm:k % 6<6:=Nat.mod_lt _ (by omega)
 have hn:n % 6<6:=Nat.mod_lt _ (by omega)
 have hs1:0<=(s:Int) % 7:=by omega
 have hs2:(s:Int) % 7<7:=by omega
 have hN:nameF (namedF (n % 6))=true:=by
  generalize n % 6=r at hn
  match r,hn with
  | 0,_ | 1,_ | 2,_ | 3,_ | 4,_ | 5,_=>decide+kernel
 unfold cmdOf mayF highF
 generalize k % 6=r at hm ⊢
 match r,hm with
 | 0,_ | 1,_ | 2,_ | 3,_ | 4,_ | 5,_=>simp [hN]<;>omega
def reqOf (c q k s n:Nat):ReqV:=⟨((c % 8:Nat):Int),1+(q:Int),cmdOf k s n⟩
theorem reqOf_may (c q k s n:Nat) (hq:q<256):mayR (reqOf c q k s n)=true:=by
 have hm:c % 8<8:=Nat.mod_lt _ (by omega)
 unfold reqOf mayR highF
 simp [cmdOf_may]
 omega
theorem Req_any (c q k s n:Nat) (w:World) (hc:c<256) (hq:q<256) (hk:k<256) (hs:s<256) (hn:n<256):Calls Try.prog 34 #[.int .u8 (c:Int),.int .u8 (q:Int),.int .u8 (k:Int),.int .u8 (s:Int),.int .u8 (n:Int)] w fun e w'=>e= .returned (reqVal (reqOf c q k s n))/\Below w.heap.size w w':=by
 have CN:=hid (fun w=>Cmd_any k s n w hk hs hn)
 have hc8:((c:Int) % 8)=((c % 8:Nat):Int):=by simp
 unfold reqVal reqOf
 unfold cmdVal at CN
 generalize cmdOf k s n=x at CN ⊢
 obtain⟨ck,cs,cn⟩:=x
 dsimp only at CN ⊢
 generalize c % 8=r at hc8 ⊢
 go_enter Try.func34,Try.ntmps34
 go_wp2_with (go_at_call 47;refine(CN.out _).mono ?_;rintro e w1 ⟨rfl,hb1⟩;obtain⟨c0,c1,c2,c3,c4⟩:=box5 hb1;have f0:=free5 hb1)
 refine bodyPost_ret (by simp [results,Try.results34,go_sem,c0,c1,c2,c3,c4,f0]) rfl ⟨rfl,set5 (step (newAlloc _ _) hb1) _ _ _ _ _⟩
end Cm
end Go.Proofs.Ytheenjkmglmihaa

/- Slices that read as lists, whatever their elements are: f x: the cells of one element, sz of them. No program is named here. -/
set_option linter.unusedVariables false
set_option maxRecDepth 8000
set_option linter.unusedSimpArgs false
namespace Go.Proofs.Ytheenjkmglmihaa
open Lib (hid)
open Go.RowKit

section
variable {α : Type}
variable {sz : Nat} {f : α → List Value}
theorem wpList_append_one (hf: ∀x,(f x).length =sz) (hsz:0<sz) {P:Program} {ops:Array Oper} {rest:List Oper} {o:Oper} {a:Act} {Q:Exit->Act->World->Prop} {W:World} (hgd:o.guard=none) (s x:Operand) (t:TypeId)
  (ho:o.op= .call { callee:=.builtin .append,args:=#[s,x],argTypes:=#[t,t] })
  (e:TypeId) (i:TypeInfo) (z:Value) (bytes:Nat) (ht:P.underlying t=some (.slice e)) (hi:P.info? e=some i) (hz:i.zero=some z) (hsize:i.size=sz) (hby:i.bytes=bytes) (hzs:z.cells.size=sz)
  (cs:Array Value) (y:α) (hcs:cs.toList=f y) (h1: ∀u∈f y,u.oneCell'=true) (M:List α) (base B:Nat) (w0:World) (m:Value) (hs:a.eval s=m) (hx:a.eval x= .slice (some ⟨W.heap.size,0,none⟩) 1 1)
  (hown:W.ownsRow base e sz m M.length (flatX f M)) (h63:M.length+1<=maxLen) (hlen:(M.length+1)*bytes<=140737488355328) (hbase:base<=W.heap.size) (hB:Below B w0 W) (hBb:B<=base)
  (h: ∀v' w',w'.ownsRow base e sz v' (M++ [y]).length (flatX f (M++ [y]))->Below B w0 w'->(v'.ownBlock=m.ownBlock\/v'.ownBlock=some (W.heap.size+1))->wpList P ops Q rest (a.put o.dst v') w'):
  wpList P ops Q (o::rest) a (W.alloc (.cells cs e)):=by
 have hz1:(W.alloc (.cells cs e)).heap.size =W.heap.size+1:=by simp
 refine wpList_append_own_at (W.alloc (.cells cs e)) hgd s x t ho base e i z sz bytes ht hi hz hsize hby hzs hsz m M.length (flatX f M) hs (Rw.own_alloc hown _) ⟨W.heap.size,0,none⟩ 1 1 (f y) hx (by rw[hf];omega) ?_ h1 h63 hlen (by rw[hz1];omega) ?_
 ·rw[<-hcs]
  exact World.news_of_block (w:=W.alloc (.cells cs e)) (B:=W.heap.size) (cs:=cs) (t:=e) (fr:=(0,0)) (by show(W.heap.push _)[W.heap.size]?= _;simp)
 ·intro v' w' ho' hg _ hat
  refine h v' w' ?_ ((hB.alloc (Nat.le_trans hBb hbase) _).grown hg (by rw[hz1];omega) (fun k hk=>?_)) (by rw[hz1] at hat;exact hat)
  ·rw[List.length_append,flatX_snoc]
   exact ho'
  ·have:=(Rw.own_lt hown k hk).1
   omega
end
end Go.Proofs.Ytheenjkmglmihaa

/- A row of bytes that grows beside others; contract: package batch's Put. -/
set_option linter.unusedVariables false
set_option maxRecDepth 8000
set_option linter.unusedSimpArgs false
namespace Go.Proofs.Ytheenjkmglmihaa
open Lib (hid)
open Go.RowKit
namespace Cm

structure PN (g:Nat) (o:Obj) (v:Value) (wr:World):Prop where
 at_:wr.heap[g]?=some o
 ne:v.ownBlock≠some g
theorem PN.later {g:Nat} {o:Obj} {wr wx:World} {v:Value} (h:PN g o v wr) (hb:Below wr.heap.size wr wx):PN g o v wx:=
 ⟨(hb.block _ (get_ltB h.at_)).trans h.at_,h.ne⟩
theorem PN.push {g:Nat} {o:Obj} {wr wx:World} {v v':Value} (h:PN g o v wr) (hg:wr.grownBy wx v.ownBlock) (hat:v'.ownBlock=v.ownBlock\/v'.ownBlock=some wr.heap.size):PN g o v' wx:=by
 refine⟨(hg.block g (get_ltB h.at_) (fun q=>h.ne q.symm)).trans h.at_,?_⟩
 rcases hat with q | q
 ·rw[q];exact h.ne
 ·rw[q]
  intro e
  injection e with e
  have:=get_ltB h.at_
  omega
theorem PN.new (w:World) (o:Obj) (H:Nat) (v:Value) (hH:w.heap.size=H) (hv:v.ownBlock≠some H):PN H o v (w.alloc o):=by
 subst hH
 refine⟨?_,hv⟩
 show(w.heap.push o)[w.heap.size]?= _
 simp
end Cm
end Go.Proofs.Ytheenjkmglmihaa

/- Contracts: package batch's getReqs; the document's nums. -/
set_option linter.unusedVariables false
set_option maxRecDepth 8000
set_option linter.unusedSimpArgs false
namespace Go.Proofs.Ytheenjkmglmihaa
open Lib (hid)
open Go.RowKit
namespace Cm

theorem infoReqB:(Try.prog.info? 77).map (fun i=>(i.zero,i.size,i.bytes))=some (some (.agg #[.int .i64 0,.int .i64 0,.int .i64 0,.int .i64 0,.string ⟨#[]⟩]),5,48):=by kernel_rfl
theorem info_partsB {e:TypeId} {z:Option Value} {s b:Nat} (h:(Try.prog.info? e).map (fun i=>(i.zero,i.size,i.bytes))=some (z,s,b)): ∃i,Try.prog.info? e=some i/\i.zero=z/\i.size=s/\i.bytes=b:=by
 match hi:Try.prog.info? e with
 | none=>rw[hi] at h;cases h
 | some i=>
  rw[hi] at h
  simp at h
  exact⟨i,rfl,h.1,h.2.1,h.2.2⟩
end Cm
end Go.Proofs.Ytheenjkmglmihaa

/- Contract: package batch's Get. -/
set_option linter.unusedVariables false
set_option maxRecDepth 8000
set_option linter.unusedSimpArgs false
namespace Go.Proofs.Ytheenjkmglmihaa
open Lib (hid)
open Go.RowKit
namespace Cm

def batZero:Obj:=.cells #[.bool false,.int .i64 0,.int .i64 0,.int .i64 0,.int .i64 0,.slice none 0 0] 47
def batBox (G:List Int) (v:Value):Obj:=.cells #[.bool false,.int .i64 (G.getD 0 0),.int .i64 (G.getD 1 0),.int .i64 (G.getD 2 0),.int .i64 (G.getD 3 0),v] 47
structure GB (w:World) (A:Nat) (o:Obj) (wr:World):Prop where
 below:Below w.heap.size w wr
 zero:wr.heap[w.heap.size]?=some batZero
 box:wr.heap[A]?=some o
 lt:w.heap.size<A
theorem GB.later {w:World} {A:Nat} {o:Obj} {wr wx:World} (h:GB w A o wr) (hb:Below wr.heap.size wr wx):GB w A o wx:=
 ⟨h.below.trans (hb.mono h.below.size),(hb.block _ (get_ltB h.zero)).trans h.zero,(hb.block _ (get_ltB h.box)).trans h.box,h.lt⟩
theorem GB.zc {w:World} {A:Nat} {o:Obj} {wr:World} (h:GB w A o wr):
  (wr.cell? ⟨w.heap.size,0,none⟩=some (.bool false)/\wr.cell? ⟨w.heap.size,1,none⟩=some (.int .i64 0)/\wr.cell? ⟨w.heap.size,2,none⟩=some (.int .i64 0)/\wr.cell? ⟨w.heap.size,3,none⟩=some (.int .i64 0)/\wr.cell? ⟨w.heap.size,4,none⟩=some (.int .i64 0)/\wr.cell? ⟨w.heap.size,5,none⟩=some (.slice none 0 0))/\ ∀k,wr.frozen? ⟨w.heap.size,k,none⟩=false:=by
 have hz:=h.zero
 unfold batZero at hz
 exact⟨⟨cell_at hz 0,cell_at hz 1,cell_at hz 2,cell_at hz 3,cell_at hz 4,cell_at hz 5⟩,frozen_at hz⟩
theorem GB.bc {w:World} {A:Nat} {G:List Int} {v:Value} {wr:World} (h:GB w A (batBox G v) wr):
  (wr.cell? ⟨A,0,none⟩=some (.bool false)/\wr.cell? ⟨A,1,none⟩=some (.int .i64 (G.getD 0 0))/\wr.cell? ⟨A,2,none⟩=some (.int .i64 (G.getD 1 0))/\wr.cell? ⟨A,3,none⟩=some (.int .i64 (G.getD 2 0))/\wr.cell? ⟨A,4,none⟩=some (.int .i64 (G.getD 3 0))/\wr.cell? ⟨A,5,none⟩=some v)/\ ∀k,wr.frozen? ⟨A,k,none⟩=false:=by
 have hz:=h.box
 unfold batBox at hz
 exact⟨⟨cell_at hz 0,cell_at hz 1,cell_at hz 2,cell_at hz 3,cell_at hz 4,cell_at hz 5⟩,frozen_at hz⟩
theorem GB.bc4 {w:World} {A:Nat} {a b c d:Int} {v:Value} {wr:World} (h:GB w A (batBox [a,b,c,d] v) wr):
  (wr.cell? ⟨A,0,none⟩=some (.bool false)/\wr.cell? ⟨A,1,none⟩=some (.int .i64 a)/\wr.cell? ⟨A,2,none⟩=some (.int .i64 b)/\wr.cell? ⟨A,3,none⟩=some (.int .i64 c)/\wr.cell? ⟨A,4,none⟩=some (.int .i64 d)/\wr.cell? ⟨A,5,none⟩=some v)/\ ∀k,wr.frozen? ⟨A,k,none⟩=false:=h.bc
theorem GB.list {w:World} {A:Nat} {G:List Int} {v:Value} {wr:World} (h:GB w A (batBox G v) wr) (u:Value):GB w A (batBox G u) (wr.setCell ⟨A,5,none⟩ u):=by
 refine⟨h.below.setCell (by have:=h.lt;show w.heap.size<=A;omega) _,?_,?_,h.lt⟩
 ·rw[Below.heap_setCell _ _ _ _ (by have:=h.lt;show w.heap.size≠A;omega)]
  exact h.zero
 ·have hb:=h.box
  unfold batBox at hb
  rw[set_atB hb]
  rfl
theorem set6z {w w1:World} (h:Below w.heap.size w w1) (x0 x1 x2 x3 x4 x5:Value):Below w.heap.size w ((((((w1.setCell ⟨w.heap.size,0,none⟩ x0).setCell ⟨w.heap.size,1,none⟩ x1).setCell ⟨w.heap.size,2,none⟩ x2).setCell ⟨w.heap.size,3,none⟩ x3).setCell ⟨w.heap.size,4,none⟩ x4).setCell ⟨w.heap.size,5,none⟩ x5):=
 (((((h.setCell (Nat.le_refl _) _).setCell (Nat.le_refl _) _).setCell (Nat.le_refl _) _).setCell (Nat.le_refl _) _).setCell (Nat.le_refl _) _).setCell (Nat.le_refl _) _
theorem own_box {w':World} {base A n:Nat} {e:TypeId} {v:Value} {xs:List Value} (h:w'.ownsRow base e 5 v n xs) (hA:A<base) (u:Value):(w'.setCell ⟨A,5,none⟩ u).ownsRow base e 5 v n xs:=
 Rw.own_keep h fun g hg=>Below.heap_setCell _ _ _ _ (by have:=(Rw.own_lt h g hg).1;show g≠A;omega)
end Cm
end Go.Proofs.Ytheenjkmglmihaa

/- Contracts: the document's nums, Get of a batch. -/
set_option linter.unusedVariables false
set_option maxRecDepth 8000
set_option linter.unusedSimpArgs false
namespace Go.Proofs.Ytheenjkmglmihaa
open Lib (hid)
open Go.RowKit
namespace Cm

theorem GB.below1 {w:World} {A:Nat} {o:Obj} {wr wx:World} (h:GB w A o wr) (hb:Below (A+1) wr wx):GB w A o wx:=by
 have hl:=h.lt
 exact⟨h.below.trans (hb.mono (by omega)),(hb.block _ (by omega)).trans h.zero,(hb.block _ (by omega)).trans h.box,hl⟩
theorem GB.new {w W:World} (h:Below w.heap.size w W) (hz:W.heap[w.heap.size]?=some batZero) (o:Obj):GB w W.heap.size o (W.alloc o):=
 ⟨stepAlloc h _,((newAlloc W _).block _ (get_ltB hz)).trans hz,alloc_atB _ _ _ rfl,get_ltB hz⟩
theorem GB.put6 {w:World} {A:Nat} {x0 x1 x2 x3 x4 x5:Value} {wr:World} (h:GB w A (.cells #[x0,x1,x2,x3,x4,x5] 47) wr) (y0 y1 y2 y3 y4 y5:Value):
  GB w A (.cells #[y0,y1,y2,y3,y4,y5] 47) ((((((wr.setCell ⟨A,0,none⟩ y0).setCell ⟨A,1,none⟩ y1).setCell ⟨A,2,none⟩ y2).setCell ⟨A,3,none⟩ y3).setCell ⟨A,4,none⟩ y4).setCell ⟨A,5,none⟩ y5):=by
 have hl:=h.lt
 have hA:w.heap.size<=A:=by omega
 have hne:w.heap.size≠A:=by omega
 have key: ∀(W:World) (i:Nat) (u:Value),(W.setCell ⟨A,i,none⟩ u).heap[w.heap.size]?=W.heap[w.heap.size]?:=fun W i u=>Below.heap_setCell _ _ _ _ hne
 refine⟨((((((h.below.setCell hA _).setCell hA _).setCell hA _).setCell hA _).setCell hA _).setCell hA _),?_,?_,hl⟩
 ·rw[key,key,key,key,key,key]
  exact h.zero
 ·exact set_atB (set_atB (set_atB (set_atB (set_atB (set_atB h.box 0 y0) 1 y1) 2 y2) 3 y3) 4 y4) 5 y5
end Cm
end Go.Proofs.Ytheenjkmglmihaa

/- Contract of the statements' Batch of layer 12. -/
set_option linter.unusedVariables false
set_option maxRecDepth 8000
set_option linter.unusedSimpArgs false
namespace Go.Proofs.Ytheenjkmglmihaa
open Lib (hid)
open Go.RowKit
namespace Cm

theorem okR_push {l:List ReqV} {r:ReqV} : ∀p,okR p l=true->mayR r=true->hasC (p++l) r.client=false->okR p (l++ [r])=true:=by
 induction l with
 | nil=>intro p h hm hc;rw[List.append_nil] at hc;simp [okR,hm,hc]
 | cons x l ih=>
  intro p h hm hc
  rw[okR] at h
  simp only[Bool.and_eq_true] at h
  rw[List.cons_append,okR,h.1.1,h.1.2,ih (p++ [x]) h.2 hm (by rw[List.append_assoc];exact hc)]
  rfl
def bAtB (A:List UInt8) (i:Nat):Nat:=(A.getD i 0).toNat
theorem bAtB_lt (A:List UInt8) (i:Nat):bAtB A i<256:=UInt8.toNat_lt _
theorem byte_at {w:World} {a:Option Addr} {len cap:Nat} {A:List UInt8} (h:Rd w (.slice a len cap) A) (h0:0<len):
  ∃b o,a=some ⟨b,o,none⟩/\ ∀w':World,Below w.heap.size w w'-> ∀i,i<len->w'.cell? ⟨b,o+i,none⟩=some (.int .u8 (bAtB A i:Int)):=by
 obtain⟨a',len',cap',hv,hl,hc,hm,hn,hx⟩:=h.ex
 cases hv
 match a,hn,hx with
 | none,hn,_=>have:=(hn rfl).1;omega
 | some x,_,hx=>
  obtain⟨b,o,sp⟩:=x
  obtain⟨hs,hi⟩:=hx _ rfl h0
  simp only at hs hi
  subst hs
  refine⟨b,o,rfl,fun w' hb i hil=>?_⟩
  rw[hb.cell (p:=⟨b,o+i,none⟩) (lt_of_cell (hi i hil))]
  exact hi i hil
theorem mayB_mk {a b c d:Int} {l:List ReqV} (ha:0<=a/\a<=2305843009213693952) (hb:0<=b/\b<=2305843009213693952) (hc:0<=c/\c<=2305843009213693952) (hd:0<=d/\d<=2305843009213693952) (hl:l.length<=3) (hok:okR [] l=true):mayB ⟨false,a,b,c,d,l⟩=true:=by
 rw[show mayB ⟨false,a,b,c,d,l⟩=(highF a 0 && highF b 0 && highF c 0 && highF d 0 && reqsF l) from rfl]
 simp [highF,reqsF,hok]
 omega
end Cm
end Go.Proofs.Ytheenjkmglmihaa
