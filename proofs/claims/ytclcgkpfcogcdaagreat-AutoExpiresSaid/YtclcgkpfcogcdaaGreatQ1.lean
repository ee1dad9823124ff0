/- Texts laid together by program. -/
import Derived.WalkKit
import Derived.ProofKit
import Derived.Laws.BytesArg
import Derived.WalkLawsBesides
import Derived.WalkSpells
import Derived.Lib.Hide
import Derived.Lib.AppendStr
import Derived.Laws.AppendOwnNone
import Derived.Laws.OwnMore
import Derived.Laws.BitsAllLaws
import Derived.Test.YtclcgkpfcogcdaaGreatProg
import Derived.Defers
import Derived.Recover
import Derived.Laws.Pointers
import Derived.Maps.AppendAt
import Derived.Deep.AppendLies
/- Byte lists in memory: what a slice of bytes reads as, and that it reads so later. No program is named here. -/
set_option linter.unusedVariables false
set_option maxRecDepth 8000
set_option linter.unusedSimpArgs false
namespace Go.Proofs.YtclcgkpfcogcdaaGreat
open Lib (hid)
open Go.RowKit

theorem step {a b c:World} (h:Below a.heap.size a b) (k:Below b.heap.size b c):Below a.heap.size a c:=h.trans (k.mono h.size)
theorem stepAlloc {a b:World} (h:Below a.heap.size a b) (o:Obj):Below a.heap.size a (b.alloc o):=h.alloc h.size o
theorem newAlloc (a:World) (o:Obj):Below a.heap.size a (a.alloc o):=(Below.refl _ _).alloc (Nat.le_refl _) o
theorem lt_of_cell {w:World} {a:Addr} {v:Value} (h:w.cell? a=some v):a.block<w.heap.size:=by
 unfold World.cell? at h
 rcases Nat.lt_or_ge a.block w.heap.size with g | g
 ·exact g
 ·rw[Array.getElem?_eq_none g] at h;simp at h
def val (l:List UInt8):Nat:=l.foldl (fun a x=>a*256+x.toNat) 0
def sub (bs:List UInt8) (t n:Nat):List UInt8:=(bs.drop t).take n
def bstr (l:List UInt8):ByteArray:=⟨l.toArray⟩
theorem bstr_toList (l:List UInt8):(bstr l).data.toList =l:=rfl
theorem bstr_size (l:List UInt8):(bstr l).size =l.length:=rfl
def nums (l:List UInt8):List Int:=l.map fun u=>(u.toNat:Int)
section
variable {P : Program} (w : World)
end

def cellsOf (bs:List UInt8):List Value:=bs.map fun u=>.int .u8 (u.toNat:Int)
section
variable {P : Program} {w : World}
end

end Go.Proofs.YtclcgkpfcogcdaaGreat

/- What package cmd answers, as plain functions over bytes: names, commands, requests; what is put is read as it was. No program is named here. -/
set_option linter.unusedVariables false
set_option maxRecDepth 8000
set_option linter.unusedSimpArgs false
namespace Go.Proofs.YtclcgkpfcogcdaaGreat
open Lib (hid)
open Go.RowKit

namespace Cm

structure CmdV where
 kind:Int
 session:Int
 name:List UInt8
def zero:CmdV:=⟨0,0,[]⟩
def nameB (c:UInt8):Bool:=(decide (97<=c.toNat) && decide (c.toNat<=122)) || (decide (48<=c.toNat) && decide (c.toNat<=57)) || decide (c.toNat=45)
def nameF (s:List UInt8):Bool:=decide (1<=s.length) && decide (s.length<=12) && s.all nameB
def highF (v least:Int):Bool:=decide (least<=v) && decide (v<=2305843009213693952)
def mayF (c:CmdV):Bool:=
 if c.kind=1 then decide (c.session=0) && decide (c.name= [])
 else if c.kind=2\/c.kind=6 then highF c.session 1 && decide (c.name= [])
 else if c.kind=3\/c.kind=4\/c.kind=5 then highF c.session 1 && nameF c.name
 else false
end Cm
end Go.Proofs.YtclcgkpfcogcdaaGreat

/- What package reply answers, as plain functions over bytes: what is held, replies; what is put is read as it was. No program is named here. -/
set_option linter.unusedVariables false
set_option maxRecDepth 8000
set_option linter.unusedSimpArgs false
namespace Go.Proofs.YtclcgkpfcogcdaaGreat
open Lib (hid)
open Go.RowKit
namespace Cm

structure GrantV where
 name:List UInt8
 token:Int
structure ReplyV where
 code:Int
 session:Int
 ahead:Int
 held:List GrantV
def grantOk (p:Option (List UInt8)) (g:GrantV):Bool:=nameF g.name && highF g.token 1 && (match p with | none=>true | some q=>Op.bytesLess q g.name)
def heldOk:Option (List UInt8)->List GrantV->Bool
 | _,[]=>true
 | p,g::l=>grantOk p g && heldOk (some g.name) l
def mayP (r:ReplyV):Bool:=decide (0<=r.code) && decide (r.code<=12) && highF r.session 0 && decide (0<=r.ahead) && decide (r.ahead<=3) && decide (r.held.length<=4) && !(decide (r.session=0) && decide (0<r.held.length)) && heldOk none r.held
theorem name_len (s:List UInt8) (h:nameF s=true):s.length<=12:=by
 unfold nameF at h
 simp at h
 omega
theorem heldOk_mem (l:List GrantV): ∀p,heldOk p l=true-> ∀g∈l,g.name.length<=12/\1<=g.token/\g.token<=2305843009213693952:=by
 induction l with
 | nil=>intro p _ g hg;cases hg
 | cons x l ih=>
  intro p h g hg
  unfold heldOk at h
  simp only[Bool.and_eq_true] at h
  rcases List.mem_cons.1 hg with rfl | hg
  ·have h1:=h.1
   unfold grantOk highF at h1
   simp only[Bool.and_eq_true,decide_eq_true_eq] at h1
   exact⟨name_len _ h1.1.1,h1.1.2.1,h1.1.2.2⟩
  ·exact ih _ h.2 g hg
theorem mayP_bounds (r:ReplyV) (h:mayP r=true):(0<=r.code/\r.code<=12)/\(0<=r.session/\r.session<=2305843009213693952)/\(0<=r.ahead/\r.ahead<=3)/\r.held.length<=4/\(∀g∈r.held,g.name.length<=12/\1<=g.token/\g.token<=2305843009213693952):=by
 unfold mayP highF at h
 simp only[Bool.and_eq_true,decide_eq_true_eq] at h
 obtain⟨⟨⟨⟨⟨⟨⟨h1,h2⟩,h3,h4⟩,h5⟩,h6⟩,h7⟩,_⟩,h8⟩:=h
 exact⟨⟨h1,h2⟩,⟨h3,h4⟩,⟨h5,h6⟩,h7,heldOk_mem _ _ h8⟩
end Cm
end Go.Proofs.YtclcgkpfcogcdaaGreat

/- What package reply answers of answers, as plain functions over bytes. No program is named here. -/
set_option linter.unusedVariables false
set_option maxRecDepth 8000
set_option linter.unusedSimpArgs false
namespace Go.Proofs.YtclcgkpfcogcdaaGreat
open Lib (hid)
open Go.RowKit
namespace Cm

structure AnsV where
 client:Int
 seq:Int
 rep:ReplyV
def mayA (r:AnsV):Bool:=decide (0<=r.client) && decide (r.client<8) && highF r.seq 1 && mayP r.rep
theorem mayA_bounds (r:AnsV) (h:mayA r=true):(0<=r.client/\r.client<=7)/\(1<=r.seq/\r.seq<=2305843009213693952)/\mayP r.rep=true:=by
 unfold mayA highF at h
 simp at h
 obtain⟨⟨⟨h1,h2⟩,h3,h4⟩,h5⟩:=h
 exact⟨by omega,by omega,h5⟩
end Cm
end Go.Proofs.YtclcgkpfcogcdaaGreat

/- Rows that a call owns: what stays, two that grow side by side; slices that read as cells. No program is named here. -/
set_option linter.unusedVariables false
set_option maxRecDepth 8000
set_option linter.unusedSimpArgs false
namespace Go.Proofs.YtclcgkpfcogcdaaGreat
open Lib (hid)
open Go.RowKit
namespace Rw

theorem own_keep {w w':World} {base:Nat} {e:TypeId} {size n:Nat} {v:Value} {xs:List Value} (h:w.ownsRow base e size v n xs) (hb: ∀g,v.ownBlock=some g->w'.heap[g]?=w.heap[g]?):w'.ownsRow base e size v n xs:=by
 refine⟨h.1,?_⟩
 rcases h.2 with ⟨rfl,hn⟩ | ⟨g,cap,cur,rfl,h1,h2,h3⟩
 ·exact .inl ⟨rfl,hn⟩
 ·exact .inr ⟨g,cap,cur,rfl,h1,by rw[hb g rfl];exact h2,h3⟩
theorem own_lt {w:World} {base:Nat} {e:TypeId} {size n:Nat} {v:Value} {xs:List Value} (h:w.ownsRow base e size v n xs) (g:Nat) (hg:v.ownBlock=some g):base<=g/\g<w.heap.size:=by
 rcases h.2 with ⟨rfl,hn⟩ | ⟨g',cap,cur,rfl,h1,h2,h3⟩
 ·cases hg
 ·have:g'=g:=by simpa [Value.ownBlock] using hg
  subst this
  refine⟨h1,?_⟩
  rcases Nat.lt_or_ge g' w.heap.size with q | q
  ·exact q
  ·rw[Array.getElem?_eq_none q] at h2;cases h2
theorem own_below {w w':World} {base:Nat} {e:TypeId} {size n:Nat} {v:Value} {xs:List Value} (h:w.ownsRow base e size v n xs) (hb:Below w.heap.size w w'):w'.ownsRow base e size v n xs:=
 own_keep h fun g hg=>hb.block g (own_lt h g hg).2
theorem own_alloc {w:World} {base:Nat} {e:TypeId} {size n:Nat} {v:Value} {xs:List Value} (h:w.ownsRow base e size v n xs) (o:Obj):(w.alloc o).ownsRow base e size v n xs:=
 own_below h (newAlloc w o)
def Apart (u v:Value):Prop:= ∀g,u.ownBlock=some g->v.ownBlock≠some g
theorem Apart.symm {u v:Value} (h:Apart u v):Apart v u:=fun g hv hu=>h g hu hv
theorem Apart.nil (v:Value):Apart (.slice none 0 0) v:=fun g h=>by cases h
theorem own_other {w w':World} {base:Nat} {e:TypeId} {size n:Nat} {u v:Value} {xs:List Value} (h:w.ownsRow base e size v n xs) (hg:w.grownBy w' u.ownBlock) (ha:Apart u v):w'.ownsRow base e size v n xs:=
 own_keep h fun g q=>hg.block g (own_lt h g q).2 (fun e=>ha g e.symm q)
theorem own_form {w:World} {base:Nat} {e:TypeId} {size n:Nat} {v:Value} {xs:List Value} (h:w.ownsRow base e size v n xs): ∃a c,v= .slice a n c:=by
 rcases h.2 with ⟨rfl,hn⟩ | ⟨g,cap,cur,rfl,_⟩
 ·subst hn;exact⟨none,0,rfl⟩
 ·exact⟨_,_,rfl⟩
section
variable {P : Program} {w : World}
end
end Rw
end Go.Proofs.YtclcgkpfcogcdaaGreat

/- Slices that read as lists, whatever their elements are: f x: the cells of one element, sz of them. No program is named here. -/
set_option linter.unusedVariables false
set_option maxRecDepth 8000
set_option linter.unusedSimpArgs false
namespace Go.Proofs.YtclcgkpfcogcdaaGreat
open Lib (hid)
open Go.RowKit

section
variable {α : Type}
structure RdX (sz:Nat) (f:α->List Value) (w:World) (v:Value) (l:List α):Prop where
 ex: ∃a cap,v= .slice a l.length cap/\l.length<=cap/\cap<=maxLen/\(a=none->l= []/\cap=0)/\
  ∀x,a=some x->l≠ []->x.spot=none/\ ∀i (h:i<l.length) k u,(f l[i])[k]?=some u->w.cell? ⟨x.block,x.off+(i*sz+k),none⟩=some u
variable {sz : Nat} {f : α → List Value}
theorem RdX.later {w w':World} {v:Value} {l:List α} (h:RdX sz f w v l) (hb:Below w.heap.size w w'):RdX sz f w' v l:=by
 obtain⟨a,cap,hv,h1,h2,h3,h4⟩:=h.ex
 refine⟨a,cap,hv,h1,h2,h3,fun x hx hp=>?_⟩
 obtain⟨hs,hc⟩:=h4 x hx hp
 refine⟨hs,fun i hi k u hu=>?_⟩
 have c:=hc i hi k u hu
 exact(hb.cell (lt_of_cell c)).trans c
theorem RdX.nil (w:World):RdX sz f w (.slice none 0 0) []:=⟨none,0,rfl,Nat.le_refl _,by unfold maxLen;omega,fun _=>⟨rfl,rfl⟩,fun x hx=>by cases hx⟩
theorem RdX.len {w:World} {v:Value} {l:List α} (h:RdX sz f w v l):l.length<=9223372036854775807:=by
 obtain⟨a,cap,hv,h1,h2,h3,h4⟩:=h.ex
 unfold maxLen at h2
 omega
theorem RdX.form {w:World} {v:Value} {l:List α} (h:RdX sz f w v l): ∃a cap,v= .slice a l.length cap:=by
 obtain⟨a,cap,hv,_⟩:=h.ex
 exact⟨a,cap,hv⟩
theorem RdX.at {w:World} {a:Option Addr} {n cap:Nat} {l:List α} (h:RdX sz f w (.slice a n cap) l) (i:Nat) (hi:i<l.length):
  ∃b o,a=some ⟨b,o,none⟩/\ ∀w':World,Below w.heap.size w w'-> ∀k u,(f l[i])[k]?=some u->w'.cell? ⟨b,o+(i*sz+k),none⟩=some u:=by
 obtain⟨a',cap',hv,h1,h2,h3,h4⟩:=h.ex
 cases hv
 match a,h3,h4 with
 | none,h3,_=>have:=(h3 rfl).1;subst this;simp at hi
 | some ⟨b,o,sp⟩,_,h4=>
  obtain⟨hs,hc⟩:=h4 _ rfl (by intro q;subst q;simp at hi)
  simp only at hs
  subst hs
  exact⟨b,o,rfl,fun w' hb k u hu=>by
   have c:=hc i hi k u hu
   exact(hb.cell (lt_of_cell c)).trans c⟩
def flatX (f:α->List Value) (l:List α):List Value:=l.flatMap f
theorem flatX_cons (x:α) (l:List α):flatX f (x::l)=f x++flatX f l:=rfl
theorem flatX_snoc (l:List α) (x:α):flatX f (l++ [x])=flatX f l++f x:=by simp [flatX]
theorem flatX_append (l m:List α):flatX f (l++m)=flatX f l++flatX f m:=by simp [flatX]
theorem flatX_length (hf: ∀x,(f x).length =sz): ∀l:List α,(flatX f l).length =l.length*sz
 | []=>by simp [flatX]
 | x::l=>by rw[flatX_cons,List.length_append,hf,flatX_length hf l,List.length_cons,Nat.add_mul];omega
theorem flatX_get (hf: ∀x,(f x).length =sz): ∀(l:List α) (i:Nat) (h:i<l.length) (k:Nat),k<sz->(flatX f l)[i*sz+k]?=(f l[i])[k]?
 | x::l,0,_,k,hk=>by
  rw[flatX_cons,Nat.zero_mul,Nat.zero_add,List.getElem?_append_left (by rw[hf];exact hk)]
  rfl
 | x::l,i+1,h,k,hk=>by
  have:=flatX_get hf l i (by simpa using h) k hk
  rw[flatX_cons,List.getElem?_append_right (by rw[hf,Nat.add_mul];omega),hf,show(i+1)*sz+k - sz=i*sz+k by rw[Nat.add_mul];omega]
  exact this
theorem RdX.own (hf: ∀x,(f x).length =sz) {w:World} {base:Nat} {e:TypeId} {v:Value} {l:List α} (h:w.ownsRow base e sz v l.length (flatX f l)):RdX sz f w v l:=by
 rcases h.2 with ⟨rfl,hn⟩ | ⟨g,cap,cur,rfl,hb,hg,hn,hc,hs,ht⟩
 ·have:l= []:=List.length_eq_zero_iff.1 hn
  subst this
  exact RdX.nil w
 ·refine⟨some ⟨g,0,none⟩,cap,rfl,hn,hc,(fun q=>by cases q),fun x hx hp=>?_⟩
  cases hx
  refine⟨rfl,fun i hi k u hu=>?_⟩
  have hk:k<sz:=by rw[<-hf l[i]];exact(List.getElem?_eq_some_iff.1 hu).1
  have a1:=h.cellAt (i*sz+k) (by
   have:i*sz+sz<=l.length*sz:=by rw[<-Nat.succ_mul];exact Nat.mul_le_mul_right _ hi
   omega)
  rw[flatX_get hf l i hi k hk] at a1
  simp only[Nat.zero_add]
  exact a1.trans hu
theorem RdX.news (hf: ∀x,(f x).length =sz) (hsz:0<sz) {w:World} {b o n cap:Nat} {l:List α} (h:RdX sz f w (.slice (some ⟨b,o,none⟩) n cap) l): ∀j u,(flatX f l)[j]?=some u->w.cell? ((⟨b,o,none⟩:Addr).add j)=some u:=by
 intro j u hu
 have hj:j<(flatX f l).length :=(List.getElem?_eq_some_iff.1 hu).1
 rw[flatX_length hf] at hj
 have hadd:(⟨b,o,none⟩:Addr).add j=⟨b,o+j,none⟩:=by unfold Addr.add;split<;>simp_all
 rw[hadd]
 have hi:j / sz<l.length:=by rw[Nat.div_lt_iff_lt_mul hsz];exact hj
 have hk:j % sz<sz:=Nat.mod_lt _ hsz
 have he:j / sz*sz+j % sz=j:=by rw[Nat.mul_comm];exact Nat.div_add_mod j sz
 obtain⟨b',o',e,c⟩:=h.at (j / sz) hi
 cases e
 have g:=flatX_get hf l (j / sz) hi (j % sz) hk
 rw[he,hu] at g
 have:=c w (Below.refl _ _) (j % sz) u g.symm
 rw[he] at this
 exact this
theorem wpList_append_one (hf: ∀x,(f x).length =sz) (hsz:0<sz) {P:Program} {ops:Array Oper} {rest:List Oper} {o:Oper} {a:Act} {Q:Exit->Act->World->Prop} {W:World} (hgd:o.guard=none) (s x:Operand) (t:TypeId)
  (ho:o.op= .call { callee:=.builtin .append,args:=#[s,x],argTypes:=#[t,t] })
  (e:TypeId) (i:TypeInfo) (z:Value) (bytes:Nat) (ht:P.underlying t=some (.slice e)) (hi:P.info? e=some i) (hz:i.zero=some z) (hsize:i.size=sz) (hby:i.bytes=bytes) (hzs:z.cells.size=sz)
  (cs:Array Value) (y:α) (hcs:cs.toList=f y) (h1: ∀u∈f y,u.oneCell'=true) (M:List α) (base B:Nat) (w0:World) (m:Value) (hs:a.eval s=m) (hx:a.eval x= .slice (some ⟨W.heap.size,0,none⟩) 1 1)
  (hown:W.ownsRow base e sz m M.length (flatX f M)) (h63:M.length+1<=maxLen) (hlen:(M.length+1)*bytes<=140737488355328) (hbase:base<=W.heap.size) (hB:Below B w0 W) (hBb:B<=base)
  (h: ∀v' w',w'.ownsRow base e sz v' (M++ [y]).length (flatX f (M++ [y]))->Below B w0 w'->(v'.ownBlock=m.ownBlock\/v'.ownBlock=some (W.heap.size+1))->wpList P ops Q rest (a.put o.dst v') w'):
  wpList P ops Q (o::rest) a (W.alloc (.cells cs e)):=by
 have hz1:(W.alloc (.cells cs e)).heap.size =W.heap.size+1:=by simp
 refine wpList_append_own_at (W.alloc (.cells cs e)) hgd s x t ho base e i z sz bytes ht hi hz hsize hby hzs hsz m M.length (flatX f M) hs (Rw.own_alloc hown _) ⟨W.heap.size,0,none⟩ 1 1 (f y) hx (by rw[hf];omega) ?_ h1 h63 hlen (by rw[hz1];omega) ?_
 ·rw[<-hcs]
  exact World.news_of_block (w:=W.alloc (.cells cs e)) (B:=W.heap.size) (cs:=cs) (t:=e) (fr:=(0,0)) (by show(W.heap.push _)[W.heap.size]?= _;simp)
 ·intro v' w' ho' hg _ hat
  refine h v' w' ?_ ((hB.alloc (Nat.le_trans hBb hbase) _).grown hg (by rw[hz1];omega) (fun k hk=>?_)) (by rw[hz1] at hat;exact hat)
  ·rw[List.length_append,flatX_snoc]
   exact ho'
  ·have:=(Rw.own_lt hown k hk).1
   omega
theorem own_new (w:World) (e:TypeId) (sz base H:Nat) (hH:w.heap.size=H) (hb:base<=H):(w.alloc (.cells #[] e)).ownsRow base e sz (.slice (some ⟨H,0,none⟩) 0 0) 0 []:=by
 subst hH
 have h:=World.ownsRow_lit (base:=w.heap.size) (e:=e) (size:=sz) w #[] 0 (Nat.le_refl _) (by unfold maxLen;omega) (by simp)
 refine⟨h.1,?_⟩
 rcases h.2 with q | ⟨g,cap,cur,h1,h2,r⟩
 ·exact .inl q
 ·exact .inr ⟨g,cap,cur,h1,Nat.le_trans hb h2,r⟩
theorem set_at {β:Type} (a b:List β) (k:Nat) (u:β) (h:k<b.length):(a++b).set (a.length+k) u=a++b.set k u:=by
 rw[List.set_append_right _ _ (by omega)]
 congr 2
 omega
theorem flatX_set (hf: ∀x,(f x).length =sz) (k:Nat) (u:Value) (hk:k<sz) (y:α): ∀(l:List α) (i:Nat) (h:i<l.length),(f l[i]).set k u=f y->(flatX f l).set (i*sz+k) u=flatX f (l.set i y)
 | x::l,0,_,e=>by
  rw[flatX_cons,Nat.zero_mul,Nat.zero_add,List.set_append_left _ _ (by rw[hf];exact hk)]
  show(f x).set k u++_=flatX f (y::l)
  rw[flatX_cons]
  congr 1
 | x::l,i+1,h,e=>by
  have:=flatX_set hf k u hk y l i (by simpa using h) e
  rw[flatX_cons,show(i+1)*sz+k=(f x).length +(i*sz+k) by rw[hf,Nat.add_mul];omega,set_at _ _ _ _ (by
   rw[flatX_length hf]
   have hi:i<l.length:=by simpa using h
   have:i*sz+sz<=l.length*sz:=by rw[<-Nat.succ_mul];exact Nat.mul_le_mul_right _ hi
   omega),this]
  rfl
theorem own_lowerX {w:World} {base base':Nat} {e:TypeId} {size n:Nat} {v:Value} {xs:List Value} (h:w.ownsRow base e size v n xs) (hb:base'<=base):w.ownsRow base' e size v n xs:=by
 refine⟨h.1,?_⟩
 rcases h.2 with q | ⟨g,cap,cur,h1,h2,r⟩
 ·exact .inl q
 ·exact .inr ⟨g,cap,cur,h1,Nat.le_trans hb h2,r⟩
theorem row_shape {w:World} {base m:Nat} {e:TypeId} {v:Value} {l:List α} (hm:l.length=m) (h0:0<m) (ho:w.ownsRow base e sz v (0+m) ([]++flatX f l)):
  ∃g cap,v= .slice (some ⟨g,0,none⟩) m cap/\base<=g/\w.ownsRow base e sz (.slice (some ⟨g,0,none⟩) m cap) m (flatX f l):=by
 rw[List.nil_append,Nat.zero_add] at ho
 rcases ho.2 with ⟨_,h'⟩ | ⟨g,cap,cur,rfl,hb,hg,hc,_⟩
 ·omega
 ·exact⟨g,cap,rfl,hb,ho⟩
theorem step_append_one (hf: ∀x,(f x).length =sz) (hsz:0<sz) {P:Program} {ops:Array Oper} {o:Oper} {a:Act} {K:Act->World->Prop} {Q:Exit->Act->World->Prop} {E:Prop} {W:World} (hgd:o.guard=none) (s x:Operand) (t:TypeId)
  (ho:o.op= .call { callee:=.builtin .append,args:=#[s,x],argTypes:=#[t,t] })
  (e:TypeId) (i:TypeInfo) (z:Value) (bytes:Nat) (ht:P.underlying t=some (.slice e)) (hi:P.info? e=some i) (hz:i.zero=some z) (hsize:i.size=sz) (hby:i.bytes=bytes) (hzs:z.cells.size=sz)
  (cs:Array Value) (y:α) (hcs:cs.toList=f y) (h1: ∀u∈f y,u.oneCell'=true) (M:List α) (base B:Nat) (w0:World) (m:Value) (hs:a.eval s=m) (hx:a.eval x= .slice (some ⟨W.heap.size,0,none⟩) 1 1)
  (hown:W.ownsRow base e sz m M.length (flatX f M)) (h63:M.length+1<=maxLen) (hlen:(M.length+1)*bytes<=140737488355328) (hbase:base<=W.heap.size) (hB:Below B w0 W) (hBb:B<=base)
  (h: ∀v' w',w'.ownsRow base e sz v' (M++ [y]).length (flatX f (M++ [y]))->Below B w0 w'->(W.alloc (.cells cs e)).drew.grownBy w' m.ownBlock->K (a.put o.dst v') w'):
  if Region.wanted o (yielded ops a.tmps)=true then Oper.wp P o a (W.alloc (.cells cs e)).drew K Q else E:=by
 have hw:Region.wanted o (yielded ops a.tmps)=true:=by simp [Region.wanted,hgd]
 rw[if_pos hw]
 have hz1:(W.alloc (.cells cs e)).drew.heap.size =W.heap.size+1:=by simp
 refine wp_append_own (W.alloc (.cells cs e)).drew s x t ho base e i z sz bytes ht hi hz hsize hby hzs hsz m M.length (flatX f M) hs (Rw.own_alloc hown _) ⟨W.heap.size,0,none⟩ 1 1 (f y) hx (by rw[hf];omega) ?_ h1 h63 hlen (by rw[hz1];omega) ?_
 ·rw[<-hcs]
  exact World.news_of_block (w:=(W.alloc (.cells cs e)).drew) (B:=W.heap.size) (cs:=cs) (t:=e) (fr:=(0,0)) (by show(W.heap.push _)[W.heap.size]?= _;simp)
 ·intro v' w' ho' hg _
  refine h v' w' ?_ (((hB.alloc (Nat.le_trans hBb hbase) _).drew).grown hg (by rw[hz1];omega) (fun k hk=>?_)) hg
  ·rw[List.length_append,flatX_snoc]
   exact ho'
  ·have:=(Rw.own_lt hown k hk).1
   omega
theorem own_some {w:World} {base n cap:Nat} {e:TypeId} {a:Option Addr} {xs:List Value} (h:w.ownsRow base e sz (.slice a n cap) n xs) (h0:0<n): ∃g,a=some ⟨g,0,none⟩/\base<=g:=by
 rcases h.2 with ⟨q,hn⟩ | ⟨g,cap',cur,h1,h2,_⟩
 ·omega
 ·cases h1
  exact⟨g,rfl,h2⟩
end
end Go.Proofs.YtclcgkpfcogcdaaGreat
