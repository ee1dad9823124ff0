/- Texts laid together by program. -/
import Derived.Test.YtbpmfjjbfiiiaaaQS1
import Derived.Lib.QuietBelow
import Derived.Deep.RegionHeld3
import Derived.BigQuiet
import Derived.ProofKit
import Derived.OpenShut
import Derived.Deep.Strs
import Derived.Deep.Slices
import Derived.Maps.AppendAt
import Derived.Deep.AppendLies
import Derived.Laws.AppendOwnNone
import Derived.Deep.LoopGhost
import Derived.Deep.Cut
import Derived.Deep.CutRange
import Derived.Deep.DeepCutAuto
/- Contracts of the statements' own helpers of layer 4: awake, Named, Cmd, Req. -/
set_option linter.unusedVariables false
set_option maxRecDepth 8000
set_option linter.unusedSimpArgs false
namespace Go.Proofs.Ytbpmfjjbfiiiaaa
open Lib (hid)
open Go.RowKit
namespace Cm


def namedF:Nat->List UInt8
 | 0=> [97]
 | 1=> [98]
 | 2=> [99]
 | 3=> [100]
 | 4=> [107,101,121,45,49]
 | _=> [116,104,101,45,108,97,115,116,45,111,110,101]
theorem Named_any (n:Nat) (w:World) (h:n<256):Calls Try.prog 53 #[.int .u8 (n:Int)] w fun e w'=>e= .returned (.string (bstr (namedF (n % 6))))/\Below w.heap.size w w':=by
 have hm:n % 6<6:=Nat.mod_lt _ (by omega)
 have hc:((n:Int) % 6)=((n % 6:Nat):Int):=by simp
 generalize n % 6=r at hm hc ⊢
 match r,hm with
 | 0,_ | 1,_ | 2,_ | 3,_ | 4,_ | 5,_=>
  simp at hc
  go_enter Try.func53,Try.ntmps53
  go_wp2
  go_ret
  exact⟨rfl,newAlloc _ _⟩
theorem boxAB {w w':World} {A B:Array Value} {t u:TypeId} (h:Below ((w.alloc (.cells A t)).alloc (.cells B u)).heap.size ((w.alloc (.cells A t)).alloc (.cells B u)) w'):
  (∀k,w'.cell? ⟨w.heap.size,k,none⟩=A[k]?)/\(∀k,w'.cell? ⟨w.heap.size+1,k,none⟩=B[k]?)/\(∀k,w'.frozen? ⟨w.heap.size,k,none⟩=false)/\(∀k,w'.frozen? ⟨w.heap.size+1,k,none⟩=false):=by
 have h0:w.heap.size<((w.alloc (.cells A t)).alloc (.cells B u)).heap.size :=by simp;omega
 have h1:w.heap.size+1<((w.alloc (.cells A t)).alloc (.cells B u)).heap.size :=by simp
 refine⟨fun k=>?_,fun k=>?_,fun k=>?_,fun k=>?_⟩
 ·rw[h.cell (p:=⟨w.heap.size,k,none⟩) h0];simp [go_sem]
 ·rw[h.cell (p:=⟨w.heap.size+1,k,none⟩) h1];simp [go_sem]
 ·rw[h.frozen (p:=⟨w.heap.size,k,none⟩) h0];simp [go_sem]
 ·rw[h.frozen (p:=⟨w.heap.size+1,k,none⟩) h1];simp [go_sem]
def cmdOf (k s n:Nat):CmdV:=⟨1+((k % 6:Nat):Int),if k % 6=0 then 0 else 1+((s:Int) % 7),if k % 6=2\/k % 6=3\/k % 6=4 then namedF (n % 6) else []⟩
set_option maxHeartbeats 4000000 in
theorem Cmd_any (k s n:Nat) (w:World) (hk:k<256) (hs:s<256) (hn:n<256):Calls Try.prog 42 #[.int .u8 (k:Int),.int .u8 (s:Int),.int .u8 (n:Int)] w fun e w'=>e= .returned (cmdVal (cmdOf k s n))/\Below w.heap.size w w':=by
 have hm:k % 6<6:=Nat.mod_lt _ (by omega)
 have hc:((k:Int) % 6)=((k % 6:Nat):Int):=by simp
 have CN:=hid (fun w=>Named_any n w hn)
 unfold cmdOf cmdVal
 generalize k % 6=r at hm hc ⊢
 generalize namedF (n % 6)=nm at CN ⊢
 match r,hm with
 | 0,_ | 1,_ | 2,_ | 3,_ | 4,_ | 5,_=>
  simp at hc
  dsimp only
  go_enter Try.func42,Try.ntmps42
  go_wp2_with (go_at_call 53;refine(CN.out _).mono ?_;rintro e w1 ⟨rfl,hb1⟩;obtain⟨c0,c1,f0,f1⟩:=boxAB hb1)
  first
   | (refine bodyPost_ret (by simp [results,Try.results42,go_sem];rfl) rfl ⟨by simp [bstr],stepAlloc (newAlloc _ _) _⟩)
   | (refine bodyPost_ret (by simp [results,Try.results42,go_sem,c0,c1,f0,f1];rfl) rfl ⟨by simp,set3 ((step (stepAlloc (newAlloc _ _) _) hb1).setCell (by simp) _) _ _ _⟩)
theorem cmdOf_may (k s n:Nat):mayF (cmdOf k s n)=true:=by
 have hm:k % 6<6:=Nat.mod_lt _ (by omega)
 have hn:n % 6<6:=Nat.mod_lt _ (by omega)
 have hs1:0<=(s:Int) % 7:=by omega
 have hs2:(s:Int) % 7<7:=by omega
 have hN:nameF (namedF (n % 6))=true:=by
  generalize n % 6=r at hn
  match r,hn with
  | 0,_ | 1,_ | 2,_ | 3,_ | 4,_ | 5,_=>decide+kernel
 unfold cmdOf mayF highF
 generalize k % 6=r at hm ⊢
 match r,hm with
 | 0,_ | 1,_ | 2,_ | 3,_ | 4,_ | 5,_=>simp [hN]<;>omega
def reqOf (c q k s n:Nat):ReqV:=⟨((c % 8:Nat):Int),1+(q:Int),cmdOf k s n⟩
theorem reqOf_may (c q k s n:Nat) (hq:q<256):mayR (reqOf c q k s n)=true:=by
 have hm:c % 8<8:=Nat.mod_lt _ (by omega)
 unfold reqOf mayR highF
 simp [cmdOf_may]
 omega
theorem Req_any (c q k s n:Nat) (w:World) (hc:c<256) (hq:q<256) (hk:k<256) (hs:s<256) (hn:n<256):Calls Try.prog 27 #[.int .u8 (c:Int),.int .u8 (q:Int),.int .u8 (k:Int),.int .u8 (s:Int),.int .u8 (n:Int)] w fun e w'=>e= .returned (reqVal (reqOf c q k s n))/\Below w.heap.size w w':=by
 have CN:=hid (fun w=>Cmd_any k s n w hk hs hn)
 have hc8:((c:Int) % 8)=((c % 8:Nat):Int):=by simp
 unfold reqVal reqOf
 unfold cmdVal at CN
 generalize cmdOf k s n=x at CN ⊢
 obtain⟨ck,cs,cn⟩:=x
 dsimp only at CN ⊢
 generalize c % 8=r at hc8 ⊢
 go_enter Try.func27,Try.ntmps27
 go_wp2_with (go_at_call 42;refine(CN.out _).mono ?_;rintro e w1 ⟨rfl,hb1⟩;obtain⟨c0,c1,c2,c3,c4⟩:=box5 hb1;have f0:=free5 hb1)
 refine bodyPost_ret (by simp [results,Try.results27,go_sem,c0,c1,c2,c3,c4,f0]) rfl ⟨rfl,set5 (step (newAlloc _ _) hb1) _ _ _ _ _⟩
end Cm
end Go.Proofs.Ytbpmfjjbfiiiaaa

/- Rows that a call owns: what stays, two that grow side by side; slices that read as cells. No program is named here. -/
set_option linter.unusedVariables false
set_option maxRecDepth 8000
set_option linter.unusedSimpArgs false
namespace Go.Proofs.Ytbpmfjjbfiiiaaa
open Lib (hid)
open Go.RowKit
namespace Rw

theorem own_keep {w w':World} {base:Nat} {e:TypeId} {size n:Nat} {v:Value} {xs:List Value} (h:w.ownsRow base e size v n xs) (hb: ∀g,v.ownBlock=some g->w'.heap[g]?=w.heap[g]?):w'.ownsRow base e size v n xs:=by
 refine⟨h.1,?_⟩
 rcases h.2 with ⟨rfl,hn⟩ | ⟨g,cap,cur,rfl,h1,h2,h3⟩
 ·exact .inl ⟨rfl,hn⟩
 ·exact .inr ⟨g,cap,cur,rfl,h1,by rw[hb g rfl];exact h2,h3⟩
theorem own_lt {w:World} {base:Nat} {e:TypeId} {size n:Nat} {v:Value} {xs:List Value} (h:w.ownsRow base e size v n xs) (g:Nat) (hg:v.ownBlock=some g):base<=g/\g<w.heap.size:=by
 rcases h.2 with ⟨rfl,hn⟩ | ⟨g',cap,cur,rfl,h1,h2,h3⟩
 ·cases hg
 ·have:g'=g:=by simpa [Value.ownBlock] using hg
  subst this
  refine⟨h1,?_⟩
  rcases Nat.lt_or_ge g' w.heap.size with q | q
  ·exact q
  ·rw[Array.getElem?_eq_none q] at h2;cases h2
theorem own_below {w w':World} {base:Nat} {e:TypeId} {size n:Nat} {v:Value} {xs:List Value} (h:w.ownsRow base e size v n xs) (hb:Below w.heap.size w w'):w'.ownsRow base e size v n xs:=
 own_keep h fun g hg=>hb.block g (own_lt h g hg).2
theorem own_alloc {w:World} {base:Nat} {e:TypeId} {size n:Nat} {v:Value} {xs:List Value} (h:w.ownsRow base e size v n xs) (o:Obj):(w.alloc o).ownsRow base e size v n xs:=
 own_below h (newAlloc w o)
def Apart (u v:Value):Prop:= ∀g,u.ownBlock=some g->v.ownBlock≠some g
theorem Apart.symm {u v:Value} (h:Apart u v):Apart v u:=fun g hv hu=>h g hu hv
theorem Apart.nil (v:Value):Apart (.slice none 0 0) v:=fun g h=>by cases h
theorem own_other {w w':World} {base:Nat} {e:TypeId} {size n:Nat} {u v:Value} {xs:List Value} (h:w.ownsRow base e size v n xs) (hg:w.grownBy w' u.ownBlock) (ha:Apart u v):w'.ownsRow base e size v n xs:=
 own_keep h fun g q=>hg.block g (own_lt h g q).2 (fun e=>ha g e.symm q)
theorem own_form {w:World} {base:Nat} {e:TypeId} {size n:Nat} {v:Value} {xs:List Value} (h:w.ownsRow base e size v n xs): ∃a c,v= .slice a n c:=by
 rcases h.2 with ⟨rfl,hn⟩ | ⟨g,cap,cur,rfl,_⟩
 ·subst hn;exact⟨none,0,rfl⟩
 ·exact⟨_,_,rfl⟩
section
variable {P : Program} {w : World}
end
end Rw
end Go.Proofs.Ytbpmfjjbfiiiaaa

/- Slices that read as lists, whatever their elements are: f x: the cells of one element, sz of them. No program is named here. -/
set_option linter.unusedVariables false
set_option maxRecDepth 8000
set_option linter.unusedSimpArgs false
namespace Go.Proofs.Ytbpmfjjbfiiiaaa
open Lib (hid)
open Go.RowKit

section
variable {α : Type}
structure RdX (sz:Nat) (f:α->List Value) (w:World) (v:Value) (l:List α):Prop where
 ex: ∃a cap,v= .slice a l.length cap/\l.length<=cap/\cap<=maxLen/\(a=none->l= []/\cap=0)/\
  ∀x,a=some x->l≠ []->x.spot=none/\ ∀i (h:i<l.length) k u,(f l[i])[k]?=some u->w.cell? ⟨x.block,x.off+(i*sz+k),none⟩=some u
variable {sz : Nat} {f : α → List Value}
theorem RdX.later {w w':World} {v:Value} {l:List α} (h:RdX sz f w v l) (hb:Below w.heap.size w w'):RdX sz f w' v l:=by
 obtain⟨a,cap,hv,h1,h2,h3,h4⟩:=h.ex
 refine⟨a,cap,hv,h1,h2,h3,fun x hx hp=>?_⟩
 obtain⟨hs,hc⟩:=h4 x hx hp
 refine⟨hs,fun i hi k u hu=>?_⟩
 have c:=hc i hi k u hu
 exact(hb.cell (lt_of_cell c)).trans c
theorem RdX.nil (w:World):RdX sz f w (.slice none 0 0) []:=⟨none,0,rfl,Nat.le_refl _,by unfold maxLen;omega,fun _=>⟨rfl,rfl⟩,fun x hx=>by cases hx⟩
theorem RdX.len {w:World} {v:Value} {l:List α} (h:RdX sz f w v l):l.length<=9223372036854775807:=by
 obtain⟨a,cap,hv,h1,h2,h3,h4⟩:=h.ex
 unfold maxLen at h2
 omega
theorem RdX.form {w:World} {v:Value} {l:List α} (h:RdX sz f w v l): ∃a cap,v= .slice a l.length cap:=by
 obtain⟨a,cap,hv,_⟩:=h.ex
 exact⟨a,cap,hv⟩
theorem RdX.at {w:World} {a:Option Addr} {n cap:Nat} {l:List α} (h:RdX sz f w (.slice a n cap) l) (i:Nat) (hi:i<l.length):
  ∃b o,a=some ⟨b,o,none⟩/\ ∀w':World,Below w.heap.size w w'-> ∀k u,(f l[i])[k]?=some u->w'.cell? ⟨b,o+(i*sz+k),none⟩=some u:=by
 obtain⟨a',cap',hv,h1,h2,h3,h4⟩:=h.ex
 cases hv
 match a,h3,h4 with
 | none,h3,_=>have:=(h3 rfl).1;subst this;simp at hi
 | some ⟨b,o,sp⟩,_,h4=>
  obtain⟨hs,hc⟩:=h4 _ rfl (by intro q;subst q;simp at hi)
  simp only at hs
  subst hs
  exact⟨b,o,rfl,fun w' hb k u hu=>by
   have c:=hc i hi k u hu
   exact(hb.cell (lt_of_cell c)).trans c⟩
def flatX (f:α->List Value) (l:List α):List Value:=l.flatMap f
theorem flatX_cons (x:α) (l:List α):flatX f (x::l)=f x++flatX f l:=rfl
theorem flatX_snoc (l:List α) (x:α):flatX f (l++ [x])=flatX f l++f x:=by simp [flatX]
theorem flatX_append (l m:List α):flatX f (l++m)=flatX f l++flatX f m:=by simp [flatX]
theorem flatX_length (hf: ∀x,(f x).length =sz): ∀l:List α,(flatX f l).length =l.length*sz
 | []=>by simp [flatX]
 | x::l=>by rw[flatX_cons,List.length_append,hf,flatX_length hf l,List.length_cons,Nat.add_mul];omega
theorem flatX_get (hf: ∀x,(f x).length =sz): ∀(l:List α) (i:Nat) (h:i<l.length) (k:Nat),k<sz->(flatX f l)[i*sz+k]?=(f l[i])[k]?
 | x::l,0,_,k,hk=>by
  rw[flatX_cons,Nat.zero_mul,Nat.zero_add,List.getElem?_append_left (by rw[hf];exact hk)]
  rfl
 | x::l,i+1,h,k,hk=>by
  have:=flatX_get hf l i (by simpa using h) k hk
  rw[flatX_cons,List.getElem?_append_right (by rw[hf,Nat.add_mul];omega),hf,show(i+1)*sz+k - sz=i*sz+k by rw[Nat.add_mul];omega]
  exact this
theorem RdX.own (hf: ∀x,(f x).length =sz) {w:World} {base:Nat} {e:TypeId} {v:Value} {l:List α} (h:w.ownsRow base e sz v l.length (flatX f l)):RdX sz f w v l:=by
 rcases h.2 with ⟨rfl,hn⟩ | ⟨g,cap,cur,rfl,hb,hg,hn,hc,hs,ht⟩
 ·have:l= []:=List.length_eq_zero_iff.1 hn
  subst this
  exact RdX.nil w
 ·refine⟨some ⟨g,0,none⟩,cap,rfl,hn,hc,(fun q=>by cases q),fun x hx hp=>?_⟩
  cases hx
  refine⟨rfl,fun i hi k u hu=>?_⟩
  have hk:k<sz:=by rw[<-hf l[i]];exact(List.getElem?_eq_some_iff.1 hu).1
  have a1:=h.cellAt (i*sz+k) (by
   have:i*sz+sz<=l.length*sz:=by rw[<-Nat.succ_mul];exact Nat.mul_le_mul_right _ hi
   omega)
  rw[flatX_get hf l i hi k hk] at a1
  simp only[Nat.zero_add]
  exact a1.trans hu
theorem RdX.news (hf: ∀x,(f x).length =sz) (hsz:0<sz) {w:World} {b o n cap:Nat} {l:List α} (h:RdX sz f w (.slice (some ⟨b,o,none⟩) n cap) l): ∀j u,(flatX f l)[j]?=some u->w.cell? ((⟨b,o,none⟩:Addr).add j)=some u:=by
 intro j u hu
 have hj:j<(flatX f l).length :=(List.getElem?_eq_some_iff.1 hu).1
 rw[flatX_length hf] at hj
 have hadd:(⟨b,o,none⟩:Addr).add j=⟨b,o+j,none⟩:=by unfold Addr.add;split<;>simp_all
 rw[hadd]
 have hi:j / sz<l.length:=by rw[Nat.div_lt_iff_lt_mul hsz];exact hj
 have hk:j % sz<sz:=Nat.mod_lt _ hsz
 have he:j / sz*sz+j % sz=j:=by rw[Nat.mul_comm];exact Nat.div_add_mod j sz
 obtain⟨b',o',e,c⟩:=h.at (j / sz) hi
 cases e
 have g:=flatX_get hf l (j / sz) hi (j % sz) hk
 rw[he,hu] at g
 have:=c w (Below.refl _ _) (j % sz) u g.symm
 rw[he] at this
 exact this
theorem wpList_append_one (hf: ∀x,(f x).length =sz) (hsz:0<sz) {P:Program} {ops:Array Oper} {rest:List Oper} {o:Oper} {a:Act} {Q:Exit->Act->World->Prop} {W:World} (hgd:o.guard=none) (s x:Operand) (t:TypeId)
  (ho:o.op= .call { callee:=.builtin .append,args:=#[s,x],argTypes:=#[t,t] })
  (e:TypeId) (i:TypeInfo) (z:Value) (bytes:Nat) (ht:P.underlying t=some (.slice e)) (hi:P.info? e=some i) (hz:i.zero=some z) (hsize:i.size=sz) (hby:i.bytes=bytes) (hzs:z.cells.size=sz)
  (cs:Array Value) (y:α) (hcs:cs.toList=f y) (h1: ∀u∈f y,u.oneCell'=true) (M:List α) (base B:Nat) (w0:World) (m:Value) (hs:a.eval s=m) (hx:a.eval x= .slice (some ⟨W.heap.size,0,none⟩) 1 1)
  (hown:W.ownsRow base e sz m M.length (flatX f M)) (h63:M.length+1<=maxLen) (hlen:(M.length+1)*bytes<=140737488355328) (hbase:base<=W.heap.size) (hB:Below B w0 W) (hBb:B<=base)
  (h: ∀v' w',w'.ownsRow base e sz v' (M++ [y]).length (flatX f (M++ [y]))->Below B w0 w'->(v'.ownBlock=m.ownBlock\/v'.ownBlock=some (W.heap.size+1))->wpList P ops Q rest (a.put o.dst v') w'):
  wpList P ops Q (o::rest) a (W.alloc (.cells cs e)):=by
 have hz1:(W.alloc (.cells cs e)).heap.size =W.heap.size+1:=by simp
 refine wpList_append_own_at (W.alloc (.cells cs e)) hgd s x t ho base e i z sz bytes ht hi hz hsize hby hzs hsz m M.length (flatX f M) hs (Rw.own_alloc hown _) ⟨W.heap.size,0,none⟩ 1 1 (f y) hx (by rw[hf];omega) ?_ h1 h63 hlen (by rw[hz1];omega) ?_
 ·rw[<-hcs]
  exact World.news_of_block (w:=W.alloc (.cells cs e)) (B:=W.heap.size) (cs:=cs) (t:=e) (fr:=(0,0)) (by show(W.heap.push _)[W.heap.size]?= _;simp)
 ·intro v' w' ho' hg _ hat
  refine h v' w' ?_ ((hB.alloc (Nat.le_trans hBb hbase) _).grown hg (by rw[hz1];omega) (fun k hk=>?_)) (by rw[hz1] at hat;exact hat)
  ·rw[List.length_append,flatX_snoc]
   exact ho'
  ·have:=(Rw.own_lt hown k hk).1
   omega
theorem set_at {β:Type} (a b:List β) (k:Nat) (u:β) (h:k<b.length):(a++b).set (a.length+k) u=a++b.set k u:=by
 rw[List.set_append_right _ _ (by omega)]
 congr 2
 omega
theorem own_lowerX {w:World} {base base':Nat} {e:TypeId} {size n:Nat} {v:Value} {xs:List Value} (h:w.ownsRow base e size v n xs) (hb:base'<=base):w.ownsRow base' e size v n xs:=by
 refine⟨h.1,?_⟩
 rcases h.2 with q | ⟨g,cap,cur,h1,h2,r⟩
 ·exact .inl q
 ·exact .inr ⟨g,cap,cur,h1,Nat.le_trans hb h2,r⟩
theorem own_some {w:World} {base n cap:Nat} {e:TypeId} {a:Option Addr} {xs:List Value} (h:w.ownsRow base e sz (.slice a n cap) n xs) (h0:0<n): ∃g,a=some ⟨g,0,none⟩/\base<=g:=by
 rcases h.2 with ⟨q,hn⟩ | ⟨g,cap',cur,h1,h2,_⟩
 ·omega
 ·cases h1
  exact⟨g,rfl,h2⟩
end
end Go.Proofs.Ytbpmfjjbfiiiaaa

/- Slices that read as lists: parts of them; appended to a row of one's own. No program is named here. -/
set_option linter.unusedVariables false
set_option maxRecDepth 8000
set_option linter.unusedSimpArgs false
namespace Go.Proofs.Ytbpmfjjbfiiiaaa
open Lib (hid)
open Go.RowKit

section
variable {α : Type} {sz : Nat} {f : α → List Value}

theorem RdX.take {w:World} {a:Option Addr} {n cap:Nat} {l:List α} (h:RdX sz f w (.slice a n cap) l) (k:Nat) (hk:k<=n):RdX sz f w (.slice a k cap) (l.take k):=by
 obtain⟨a',cap',hv,h1,h2,h3,h4⟩:=h.ex
 cases hv
 have hl:(l.take k).length =k:=by rw[List.length_take];omega
 refine⟨a,cap,by rw[hl],by rw[hl];omega,h2,fun q=>?_,fun x hx hne=>?_⟩
 ·obtain⟨q1,q2⟩:=h3 q
  subst q1
  exact⟨by simp,q2⟩
 ·obtain⟨hs,hc⟩:=h4 x hx (by intro q;subst q;simp at hne)
  refine⟨hs,fun i hi j u hu=>?_⟩
  have hi':i<l.length:=by rw[List.length_take] at hi;omega
  exact hc i hi' j u (by rw[<-hu,List.getElem_take])
theorem RdX.drop (hsz:0<sz) {w:World} {a:Option Addr} {n cap:Nat} {l:List α} (h:RdX sz f w (.slice a n cap) l) (k:Nat) (hk:k<=n):
  RdX sz f w (.slice (if cap=k then a else a.map (·.add (k*sz))) (n - k) (cap - k)) (l.drop k):=by
 obtain⟨a',cap',hv,h1,h2,h3,h4⟩:=h.ex
 cases hv
 have hl:(l.drop k).length =l.length - k:=List.length_drop
 refine⟨_,cap - k,by rw[hl],by rw[hl];omega,by omega,fun q=>?_,fun x hx hne=>?_⟩
 ·have q':a=none:=by
   split at q
   ·exact q
   ·cases a<;>simp_all
  obtain⟨q1,q2⟩:=h3 q'
  subst q1
  exact⟨by simp,by omega⟩
 ·have hkl:k<l.length:=by
   rcases Nat.lt_or_ge k l.length with g | g
   ·exact g
   ·exact absurd (List.drop_eq_nil_of_le g) hne
  rw[if_neg (by omega)] at hx
  match a,hx,h4 with
  | some y,hx,h4=>
   obtain⟨hs,hc⟩:=h4 y rfl (by intro q;subst q;simp at hkl)
   obtain⟨b,o,sp⟩:=y
   simp only at hs
   subst hs
   have hadd:(⟨b,o,none⟩:Addr).add (k*sz)=⟨b,o+k*sz,none⟩:=by unfold Addr.add;split<;>simp_all
   simp only[Option.map_some,hadd] at hx
   cases hx
   refine⟨rfl,fun i hi j u hu=>?_⟩
   have hi':k+i<l.length:=by rw[hl] at hi;omega
   have e:(l.drop k)[i]=l[k+i]:=List.getElem_drop
   have:=hc (k+i) hi' j u (by rw[<-hu,e])
   have e2:o+((k+i)*sz+j)=o+k*sz+(i*sz+j):=by rw[Nat.add_mul];omega
   simp only at this ⊢
   rw[<-e2]
   exact this
theorem RdX.one {w:World} {b:Nat} {cs:Array Value} {t:TypeId} {y:α} (h:w.heap[b]?=some (.cells cs t)) (hcs:cs.toList=f y):RdX sz f w (.slice (some ⟨b,0,none⟩) 1 1) [y]:=by
 refine⟨some ⟨b,0,none⟩,1,rfl,Nat.le_refl _,by unfold maxLen;omega,(fun q=>by cases q),fun x hx hp=>?_⟩
 cases hx
 refine⟨rfl,fun i hi k u hu=>?_⟩
 obtain rfl:i=0:=by simpa using hi
 have hu:(f y)[k]?=some u:=hu
 rw[<-hcs] at hu
 simp only[Nat.zero_mul,Nat.zero_add]
 simpa [World.cell?,h] using hu
theorem flatX_one (h1: ∀x:α,∀u∈f x,u.oneCell'=true) (l:List α): ∀u∈flatX f l,u.oneCell'=true:=by
 intro u hu
 unfold flatX at hu
 obtain⟨x,_,hx⟩:=List.mem_flatMap.1 hu
 exact h1 x u hx
theorem wpList_append_rdx (hf: ∀x,(f x).length =sz) (hsz:0<sz) (h1: ∀x:α,∀u∈f x,u.oneCell'=true) {P:Program} {w:World} {ops:Array Oper} {rest:List Oper} {o:Oper} {a:Act} {Q:Exit->Act->World->Prop} (hgd:o.guard=none) (s x:Operand) (t:TypeId)
  (ho:o.op= .call { callee:=.builtin .append,args:=#[s,x],argTypes:=#[t,t] })
  (base:Nat) (e:TypeId) (i:TypeInfo) (z:Value) (bytes:Nat) (ht:P.underlying t=some (.slice e)) (hi:P.info? e=some i) (hz:i.zero=some z) (hsize:i.size=sz) (hby:i.bytes=bytes) (hzs:z.cells.size=sz)
  (v:Value) (n:Nat) (xs:List Value) (hs:a.eval s=v) (hown:w.ownsRow base e sz v n xs) (y:Value) (l:List α) (hx:a.eval x=y) (hr:RdX sz f w y l)
  (h63:n+l.length<=maxLen) (hlen:(n+l.length)*bytes<=140737488355328) (hbase:base<=w.heap.size)
  (h: ∀v' w',w'.ownsRow base e sz v' (n+l.length) (xs++flatX f l)->w.grownBy w' v.ownBlock->wpList P ops Q rest (a.put o.dst v') w'):wpList P ops Q (o::rest) a w:=by
 obtain⟨ao,cap,rfl,hc,hm,hn,hcells⟩:=hr.ex
 match ao,hn,hcells,hx,hr with
 | none,hn,_,hx,_=>
  obtain⟨rfl,rfl⟩:=hn rfl
  refine wpList_append_own_none hgd s x t ho base e i sz ht hi v n xs hs hown hx ?_
  exact h v w (by simpa [flatX] using hown) (World.grownBy.refl _ _)
 | some ad,_,hcells,hx,hr=>
  refine wpList_append_own w hgd s x t ho base e i z sz bytes ht hi hz hsize hby hzs hsz v n xs hs hown ad l.length cap (flatX f l) hx (by rw[flatX_length hf]) ?_ (flatX_one h1 l) h63 hlen hbase (fun v' w' h1 h2 _=>h v' w' h1 h2)
  intro j u hj
  have hl:l≠ []:=by
   intro q
   subst q
   simp [flatX] at hj
  obtain⟨hs',_⟩:=hcells ad rfl hl
  obtain⟨b,off,spot⟩:=ad
  simp only at hs'
  subst hs'
  exact hr.news hf hsz j u hj
end
end Go.Proofs.Ytbpmfjjbfiiiaaa

/- Rows of requests, and batches, in memory. -/
set_option linter.unusedVariables false
set_option maxRecDepth 8000
set_option linter.unusedSimpArgs false
namespace Go.Proofs.Ytbpmfjjbfiiiaaa
open Lib (hid)
open Go.RowKit
namespace Cm

def cellsR (r:ReqV):List Value:= [.int .i64 r.client,.int .i64 r.seq,.int .i64 r.cmd.kind,.int .i64 r.cmd.session,.string (bstr r.cmd.name)]
theorem cellsR_length (r:ReqV):(cellsR r).length =5:=rfl
theorem cellsR_one (r:ReqV): ∀u∈cellsR r,u.oneCell'=true:=by
 intro u hu
 unfold cellsR at hu
 simp only[List.mem_cons,List.not_mem_nil,or_false] at hu
 rcases hu with rfl | rfl | rfl | rfl | rfl<;>rfl
abbrev RdR:=RdX 5 cellsR
theorem rdr_at {w:World} {a:Option Addr} {n cap:Nat} {l:List ReqV} (h:RdR w (.slice a n cap) l) (i:Nat) (hi:i<l.length):
  ∃b o,a=some ⟨b,o,none⟩/\ ∀w':World,Below w.heap.size w w'->w'.cell? ⟨b,o+i*5,none⟩=some (.int .i64 l[i].client)/\w'.cell? ⟨b,o+i*5+1,none⟩=some (.int .i64 l[i].seq)/\w'.cell? ⟨b,o+i*5+2,none⟩=some (.int .i64 l[i].cmd.kind)/\w'.cell? ⟨b,o+i*5+3,none⟩=some (.int .i64 l[i].cmd.session)/\w'.cell? ⟨b,o+i*5+4,none⟩=some (.string (bstr l[i].cmd.name)):=by
 obtain⟨b,o,e,c⟩:=h.at i hi
 exact⟨b,o,e,fun w' hb=>⟨c w' hb 0 _ rfl,c w' hb 1 _ rfl,c w' hb 2 _ rfl,c w' hb 3 _ rfl,c w' hb 4 _ rfl⟩⟩
def batVal (b:BatV) (v:Value):Value:=.agg #[.bool b.fill,.int .i64 b.view,.int .i64 b.tv,.int .i64 b.ts,.int .i64 b.time,v]
theorem box6b {w w':World} {x0 x1 x2 x3 x4 x5:Value} {t:TypeId} (h:Below (w.alloc (.cells #[x0,x1,x2,x3,x4,x5] t)).heap.size (w.alloc (.cells #[x0,x1,x2,x3,x4,x5] t)) w'):
  w'.cell? ⟨w.heap.size,0,none⟩=some x0/\w'.cell? ⟨w.heap.size,1,none⟩=some x1/\w'.cell? ⟨w.heap.size,2,none⟩=some x2/\w'.cell? ⟨w.heap.size,3,none⟩=some x3/\w'.cell? ⟨w.heap.size,4,none⟩=some x4/\w'.cell? ⟨w.heap.size,5,none⟩=some x5:=by
 have h0:w.heap.size<(w.alloc (.cells #[x0,x1,x2,x3,x4,x5] t)).heap.size :=by simp
 have key: ∀k,w'.cell? ⟨w.heap.size,k,none⟩=#[x0,x1,x2,x3,x4,x5][k]?:=fun k=>by
  rw[h.cell (p:=⟨w.heap.size,k,none⟩) h0];simp [go_sem]
 exact⟨key 0,key 1,key 2,key 3,key 4,key 5⟩
end Cm
end Go.Proofs.Ytbpmfjjbfiiiaaa

/- The place of the first that meets a test; a number told. No program is named here. -/
set_option linter.unusedVariables false
set_option maxRecDepth 8000
set_option linter.unusedSimpArgs false
namespace Go.Proofs.Ytbpmfjjbfiiiaaa
open Lib (hid)
open Go.RowKit
namespace Cm

def idxI {α:Type} (p:α->Bool) (l:List α):Int:=if l.findIdx p<l.length then (l.findIdx p:Int) else -1
theorem idxI_hit {α:Type} (p:α->Bool) (l:List α) (k:Nat) (h:k<l.length) (hp:p l[k]=true) (hb: ∀j (hj:j<k),p (l[j]'(by omega))=false):idxI p l=k:=by
 have e:l.findIdx p=k:=(List.findIdx_eq h).2 ⟨hp,hb⟩
 unfold idxI
 rw[e,if_pos h]
theorem idxI_miss {α:Type} (p:α->Bool) (l:List α) (hb: ∀j (hj:j<l.length),p l[j]=false):idxI p l= -1:=by
 have: ¬l.findIdx p<l.length:=fun q=>by
  have h1:=List.findIdx_getElem (w:=q)
  rw[hb _ q] at h1
  cases h1
 unfold idxI
 rw[if_neg this]
theorem idxI_any {α:Type} (p:α->Bool) (l:List α):decide (0<=idxI p l)=l.any p:=by
 unfold idxI
 by_cases h:l.findIdx p<l.length
 ·rw[if_pos h,decide_eq_true (by omega),Eq.comm,List.any_eq_true]
  exact⟨l[l.findIdx p],List.getElem_mem _,List.findIdx_getElem (w:=h)⟩
 ·rw[if_neg h,decide_eq_false (by omega),Eq.comm,List.any_eq_false]
  intro x hx q
  exact h (List.findIdx_lt_length_of_exists ⟨x,hx,q⟩)
def SaysI (r:Int) (w:World) (e:Ending) (w':World):Prop:=e= .returned (.int .i64 r)/\Below w.heap.size w w'
end Cm
end Go.Proofs.Ytbpmfjjbfiiiaaa
