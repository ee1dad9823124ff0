/- Texts laid together by program. -/
import Derived.Test.YtlnbmblbeaodcaaGreatQS5
import Derived.Maps.AppendAt
import Derived.Deep.AppendLies
/- Slices that read as lists, whatever their elements are: f x: the cells of one element, sz of them. No program is named here. -/
set_option linter.unusedVariables false
set_option maxRecDepth 8000
set_option linter.unusedSimpArgs false
namespace Go.Proofs.YtlnbmblbeaodcaaGreat
open Lib (hid)
open Go.RowKit

section
variable {α : Type}
structure RdX (sz:Nat) (f:α->List Value) (w:World) (v:Value) (l:List α):Prop where
 ex: ∃a cap,v= .slice a l.length cap/\l.length<=cap/\cap<=maxLen/\(a=none->l= []/\cap=0)/\
  ∀x,a=some x->l≠ []->x.spot=none/\ ∀i (h:i<l.length) k u,(f l[i])[k]?=some u->w.cell? ⟨x.block,x.off+(i*sz+k),none⟩=some u
variable {sz : Nat} {f : α → List Value}
theorem RdX.later {w w':World} {v:Value} {l:List α} (h:RdX sz f w v l) (hb:Below w.heap.size w w'):RdX sz f w' v l:=by
 obtain⟨a,cap,hv,h1,h2,h3,h4⟩:=h.ex
 refine⟨a,cap,hv,h1,h2,h3,fun x hx hp=>?_⟩
 obtain⟨hs,hc⟩:=h4 x hx hp
 refine⟨hs,fun i hi k u hu=>?_⟩
 have c:=hc i hi k u hu
 exact(hb.cell (lt_of_cell c)).trans c
theorem RdX.nil (w:World):RdX sz f w (.slice none 0 0) []:=⟨none,0,rfl,Nat.le_refl _,by unfold maxLen;omega,fun _=>⟨rfl,rfl⟩,fun x hx=>by cases hx⟩
theorem RdX.len {w:World} {v:Value} {l:List α} (h:RdX sz f w v l):l.length<=9223372036854775807:=by
 obtain⟨a,cap,hv,h1,h2,h3,h4⟩:=h.ex
 unfold maxLen at h2
 omega
theorem RdX.form {w:World} {v:Value} {l:List α} (h:RdX sz f w v l): ∃a cap,v= .slice a l.length cap:=by
 obtain⟨a,cap,hv,_⟩:=h.ex
 exact⟨a,cap,hv⟩
theorem RdX.at {w:World} {a:Option Addr} {n cap:Nat} {l:List α} (h:RdX sz f w (.slice a n cap) l) (i:Nat) (hi:i<l.length):
  ∃b o,a=some ⟨b,o,none⟩/\ ∀w':World,Below w.heap.size w w'-> ∀k u,(f l[i])[k]?=some u->w'.cell? ⟨b,o+(i*sz+k),none⟩=some u:=by
 obtain⟨a',cap',hv,h1,h2,h3,h4⟩:=h.ex
 cases hv
 match a,h3,h4 with
 | none,h3,_=>have:=(h3 rfl).1;subst this;simp at hi
 | some ⟨b,o,sp⟩,_,h4=>
  obtain⟨hs,hc⟩:=h4 _ rfl (by intro q;subst q;simp at hi)
  simp only at hs
  subst hs
  exact⟨b,o,rfl,fun w' hb k u hu=>by
   have c:=hc i hi k u hu
   exact(hb.cell (lt_of_cell c)).trans c⟩
def flatX (f:α->List Value) (l:List α):List Value:=l.flatMap f
theorem flatX_cons (x:α) (l:List α):flatX f (x::l)=f x++flatX f l:=rfl
theorem flatX_snoc (l:List α) (x:α):flatX f (l++ [x])=flatX f l++f x:=by simp [flatX]
theorem flatX_append (l m:List α):flatX f (l++m)=flatX f l++flatX f m:=by simp [flatX]
theorem flatX_length (hf: ∀x,(f x).length =sz): ∀l:List α,(flatX f l).length =l.length*sz
 | []=>by simp [flatX]
 | x::l=>by rw[flatX_cons,List.length_append,hf,flatX_length hf l,List.length_cons,Nat.add_mul];omega
theorem flatX_get (hf: ∀x,(f x).length =sz): ∀(l:List α) (i:Nat) (h:i<l.length) (k:Nat),k<sz->(flatX f l)[i*sz+k]?=(f l[i])[k]?
 | x::l,0,_,k,hk=>by
  rw[flatX_cons,Nat.zero_mul,Nat.zero_add,List.getElem?_append_left (by rw[hf];exact hk)]
  rfl
 | x::l,i+1,h,k,hk=>by
  have:=flatX_get hf l i (by simpa using h) k hk
  rw[flatX_cons,List.getElem?_append_right (by rw[hf,Nat.add_mul];omega),hf,show(i+1)*sz+k - sz=i*sz+k by rw[Nat.add_mul];omega]
  exact this
theorem RdX.own (hf: ∀x,(f x).length =sz) {w:World} {base:Nat} {e:TypeId} {v:Value} {l:List α} (h:w.ownsRow base e sz v l.length (flatX f l)):RdX sz f w v l:=by
 rcases h.2 with ⟨rfl,hn⟩ | ⟨g,cap,cur,rfl,hb,hg,hn,hc,hs,ht⟩
 ·have:l= []:=List.length_eq_zero_iff.1 hn
  subst this
  exact RdX.nil w
 ·refine⟨some ⟨g,0,none⟩,cap,rfl,hn,hc,(fun q=>by cases q),fun x hx hp=>?_⟩
  cases hx
  refine⟨rfl,fun i hi k u hu=>?_⟩
  have hk:k<sz:=by rw[<-hf l[i]];exact(List.getElem?_eq_some_iff.1 hu).1
  have a1:=h.cellAt (i*sz+k) (by
   have:i*sz+sz<=l.length*sz:=by rw[<-Nat.succ_mul];exact Nat.mul_le_mul_right _ hi
   omega)
  rw[flatX_get hf l i hi k hk] at a1
  simp only[Nat.zero_add]
  exact a1.trans hu
theorem RdX.news (hf: ∀x,(f x).length =sz) (hsz:0<sz) {w:World} {b o n cap:Nat} {l:List α} (h:RdX sz f w (.slice (some ⟨b,o,none⟩) n cap) l): ∀j u,(flatX f l)[j]?=some u->w.cell? ((⟨b,o,none⟩:Addr).add j)=some u:=by
 intro j u hu
 have hj:j<(flatX f l).length :=(List.getElem?_eq_some_iff.1 hu).1
 rw[flatX_length hf] at hj
 have hadd:(⟨b,o,none⟩:Addr).add j=⟨b,o+j,none⟩:=by unfold Addr.add;split<;>simp_all
 rw[hadd]
 have hi:j / sz<l.length:=by rw[Nat.div_lt_iff_lt_mul hsz];exact hj
 have hk:j % sz<sz:=Nat.mod_lt _ hsz
 have he:j / sz*sz+j % sz=j:=by rw[Nat.mul_comm];exact Nat.div_add_mod j sz
 obtain⟨b',o',e,c⟩:=h.at (j / sz) hi
 cases e
 have g:=flatX_get hf l (j / sz) hi (j % sz) hk
 rw[he,hu] at g
 have:=c w (Below.refl _ _) (j % sz) u g.symm
 rw[he] at this
 exact this
theorem wpList_append_one (hf: ∀x,(f x).length =sz) (hsz:0<sz) {P:Program} {ops:Array Oper} {rest:List Oper} {o:Oper} {a:Act} {Q:Exit->Act->World->Prop} {W:World} (hgd:o.guard=none) (s x:Operand) (t:TypeId)
  (ho:o.op= .call { callee:=.builtin .append,args:=#[s,x],argTypes:=#[t,t] })
  (e:TypeId) (i:TypeInfo) (z:Value) (bytes:Nat) (ht:P.underlying t=some (.slice e)) (hi:P.info? e=some i) (hz:i.zero=some z) (hsize:i.size=sz) (hby:i.bytes=bytes) (hzs:z.cells.size=sz)
  (cs:Array Value) (y:α) (hcs:cs.toList=f y) (h1: ∀u∈f y,u.oneCell'=true) (M:List α) (base B:Nat) (w0:World) (m:Value) (hs:a.eval s=m) (hx:a.eval x= .slice (some ⟨W.heap.size,0,none⟩) 1 1)
  (hown:W.ownsRow base e sz m M.length (flatX f M)) (h63:M.length+1<=maxLen) (hlen:(M.length+1)*bytes<=140737488355328) (hbase:base<=W.heap.size) (hB:Below B w0 W) (hBb:B<=base)
  (h: ∀v' w',w'.ownsRow base e sz v' (M++ [y]).length (flatX f (M++ [y]))->Below B w0 w'->(v'.ownBlock=m.ownBlock\/v'.ownBlock=some (W.heap.size+1))->wpList P ops Q rest (a.put o.dst v') w'):
  wpList P ops Q (o::rest) a (W.alloc (.cells cs e)):=by
 have hz1:(W.alloc (.cells cs e)).heap.size =W.heap.size+1:=by simp
 refine wpList_append_own_at (W.alloc (.cells cs e)) hgd s x t ho base e i z sz bytes ht hi hz hsize hby hzs hsz m M.length (flatX f M) hs (Rw.own_alloc hown _) ⟨W.heap.size,0,none⟩ 1 1 (f y) hx (by rw[hf];omega) ?_ h1 h63 hlen (by rw[hz1];omega) ?_
 ·rw[<-hcs]
  exact World.news_of_block (w:=W.alloc (.cells cs e)) (B:=W.heap.size) (cs:=cs) (t:=e) (fr:=(0,0)) (by show(W.heap.push _)[W.heap.size]?= _;simp)
 ·intro v' w' ho' hg _ hat
  refine h v' w' ?_ ((hB.alloc (Nat.le_trans hBb hbase) _).grown hg (by rw[hz1];omega) (fun k hk=>?_)) (by rw[hz1] at hat;exact hat)
  ·rw[List.length_append,flatX_snoc]
   exact ho'
  ·have:=(Rw.own_lt hown k hk).1
   omega
theorem own_new (w:World) (e:TypeId) (sz base H:Nat) (hH:w.heap.size=H) (hb:base<=H):(w.alloc (.cells #[] e)).ownsRow base e sz (.slice (some ⟨H,0,none⟩) 0 0) 0 []:=by
 subst hH
 have h:=World.ownsRow_lit (base:=w.heap.size) (e:=e) (size:=sz) w #[] 0 (Nat.le_refl _) (by unfold maxLen;omega) (by simp)
 refine⟨h.1,?_⟩
 rcases h.2 with q | ⟨g,cap,cur,h1,h2,r⟩
 ·exact .inl q
 ·exact .inr ⟨g,cap,cur,h1,Nat.le_trans hb h2,r⟩
theorem set_at {β:Type} (a b:List β) (k:Nat) (u:β) (h:k<b.length):(a++b).set (a.length+k) u=a++b.set k u:=by
 rw[List.set_append_right _ _ (by omega)]
 congr 2
 omega
theorem flatX_set (hf: ∀x,(f x).length =sz) (k:Nat) (u:Value) (hk:k<sz) (y:α): ∀(l:List α) (i:Nat) (h:i<l.length),(f l[i]).set k u=f y->(flatX f l).set (i*sz+k) u=flatX f (l.set i y)
 | x::l,0,_,e=>by
  rw[flatX_cons,Nat.zero_mul,Nat.zero_add,List.set_append_left _ _ (by rw[hf];exact hk)]
  show(f x).set k u++_=flatX f (y::l)
  rw[flatX_cons]
  congr 1
 | x::l,i+1,h,e=>by
  have:=flatX_set hf k u hk y l i (by simpa using h) e
  rw[flatX_cons,show(i+1)*sz+k=(f x).length +(i*sz+k) by rw[hf,Nat.add_mul];omega,set_at _ _ _ _ (by
   rw[flatX_length hf]
   have hi:i<l.length:=by simpa using h
   have:i*sz+sz<=l.length*sz:=by rw[<-Nat.succ_mul];exact Nat.mul_le_mul_right _ hi
   omega),this]
  rfl
theorem own_lowerX {w:World} {base base':Nat} {e:TypeId} {size n:Nat} {v:Value} {xs:List Value} (h:w.ownsRow base e size v n xs) (hb:base'<=base):w.ownsRow base' e size v n xs:=by
 refine⟨h.1,?_⟩
 rcases h.2 with q | ⟨g,cap,cur,h1,h2,r⟩
 ·exact .inl q
 ·exact .inr ⟨g,cap,cur,h1,Nat.le_trans hb h2,r⟩
theorem row_shape {w:World} {base m:Nat} {e:TypeId} {v:Value} {l:List α} (hm:l.length=m) (h0:0<m) (ho:w.ownsRow base e sz v (0+m) ([]++flatX f l)):
  ∃g cap,v= .slice (some ⟨g,0,none⟩) m cap/\base<=g/\w.ownsRow base e sz (.slice (some ⟨g,0,none⟩) m cap) m (flatX f l):=by
 rw[List.nil_append,Nat.zero_add] at ho
 rcases ho.2 with ⟨_,h'⟩ | ⟨g,cap,cur,rfl,hb,hg,hc,_⟩
 ·omega
 ·exact⟨g,cap,rfl,hb,ho⟩
theorem step_append_one (hf: ∀x,(f x).length =sz) (hsz:0<sz) {P:Program} {ops:Array Oper} {o:Oper} {a:Act} {K:Act->World->Prop} {Q:Exit->Act->World->Prop} {E:Prop} {W:World} (hgd:o.guard=none) (s x:Operand) (t:TypeId)
  (ho:o.op= .call { callee:=.builtin .append,args:=#[s,x],argTypes:=#[t,t] })
  (e:TypeId) (i:TypeInfo) (z:Value) (bytes:Nat) (ht:P.underlying t=some (.slice e)) (hi:P.info? e=some i) (hz:i.zero=some z) (hsize:i.size=sz) (hby:i.bytes=bytes) (hzs:z.cells.size=sz)
  (cs:Array Value) (y:α) (hcs:cs.toList=f y) (h1: ∀u∈f y,u.oneCell'=true) (M:List α) (base B:Nat) (w0:World) (m:Value) (hs:a.eval s=m) (hx:a.eval x= .slice (some ⟨W.heap.size,0,none⟩) 1 1)
  (hown:W.ownsRow base e sz m M.length (flatX f M)) (h63:M.length+1<=maxLen) (hlen:(M.length+1)*bytes<=140737488355328) (hbase:base<=W.heap.size) (hB:Below B w0 W) (hBb:B<=base)
  (h: ∀v' w',w'.ownsRow base e sz v' (M++ [y]).length (flatX f (M++ [y]))->Below B w0 w'->(W.alloc (.cells cs e)).drew.grownBy w' m.ownBlock->K (a.put o.dst v') w'):
  if Region.wanted o (yielded ops a.tmps)=true then Oper.wp P o a (W.alloc (.cells cs e)).drew K Q else E:=by
 have hw:Region.wanted o (yielded ops a.tmps)=true:=by simp [Region.wanted,hgd]
 rw[if_pos hw]
 have hz1:(W.alloc (.cells cs e)).drew.heap.size =W.heap.size+1:=by simp
 refine wp_append_own (W.alloc (.cells cs e)).drew s x t ho base e i z sz bytes ht hi hz hsize hby hzs hsz m M.length (flatX f M) hs (Rw.own_alloc hown _) ⟨W.heap.size,0,none⟩ 1 1 (f y) hx (by rw[hf];omega) ?_ h1 h63 hlen (by rw[hz1];omega) ?_
 ·rw[<-hcs]
  exact World.news_of_block (w:=(W.alloc (.cells cs e)).drew) (B:=W.heap.size) (cs:=cs) (t:=e) (fr:=(0,0)) (by show(W.heap.push _)[W.heap.size]?= _;simp)
 ·intro v' w' ho' hg _
  refine h v' w' ?_ (((hB.alloc (Nat.le_trans hBb hbase) _).drew).grown hg (by rw[hz1];omega) (fun k hk=>?_)) hg
  ·rw[List.length_append,flatX_snoc]
   exact ho'
  ·have:=(Rw.own_lt hown k hk).1
   omega
theorem own_some {w:World} {base n cap:Nat} {e:TypeId} {a:Option Addr} {xs:List Value} (h:w.ownsRow base e sz (.slice a n cap) n xs) (h0:0<n): ∃g,a=some ⟨g,0,none⟩/\base<=g:=by
 rcases h.2 with ⟨q,hn⟩ | ⟨g,cap',cur,h1,h2,_⟩
 ·omega
 ·cases h1
  exact⟨g,rfl,h2⟩
end
end Go.Proofs.YtlnbmblbeaodcaaGreat

/- What package session answers, as plain functions over lists of sessions. No program is named here. -/
set_option linter.unusedVariables false
set_option maxRecDepth 8000
set_option linter.unusedSimpArgs false
namespace Go.Proofs.YtlnbmblbeaodcaaGreat
open Lib (hid)
open Go.RowKit
namespace Cm

structure SesV where
 client:Int
 num:Int
 ren:Int
def clientF (c:Int):Bool:=decide (0<=c) && decide (c<8)
def sesOk (pre:List SesV) (s:SesV):Bool:=
 clientF s.client && highF s.num 1 && highF s.ren 0 && (match pre.getLast? with | none=>true | some p=>decide (p.client<s.client)) && pre.all fun p=> !decide (p.num=s.num)
def rightGo (pre:List SesV):List SesV->Bool
 | []=>true
 | s::l=>sesOk pre s && rightGo (pre++ [s]) l
def rightS (l:List SesV):Bool:=decide (l.length<=5) && rightGo [] l
def zeroS:SesV:=⟨0,0,0⟩
def findS:List SesV->Int->SesV × Bool
 | [],_=>(zeroS,false)
 | s::l,c=>if s.client=c then (s,true) else findS l c
def takenS (l:List SesV) (c n:Int):Bool:=l.any fun s=>decide (s.num=n) && !decide (s.client=c)
def putS (x:SesV):List SesV->List SesV
 | []=> [x]
 | s::l=>if x.client<s.client then x::s::l else s::putS x l
def openS (l:List SesV) (c n t:Int):List SesV × Int:=
 if (clientF c && highF n 1 && highF t 0)=false then ([],1) else
 if takenS l c n=true then ([],1) else
 if (findS l c).2=true then ([],7) else
 if 5<=l.length then ([],5) else (putS ⟨c,n,t⟩ l,0)
def renewE (c t:Int) (s:SesV):SesV:=if s.client=c then ⟨s.client,s.num,if s.ren<t then t else s.ren⟩ else s
def renewS (l:List SesV) (c t:Int):List SesV × Int:=
 if highF t 0=false then ([],1) else if (findS l c).2=false then ([],6) else (l.map (renewE c t),0)
def closeS (l:List SesV) (c:Int):List SesV × Int:=
 if (findS l c).2=false then ([],6) else (l.filter (fun s=> !decide (s.client=c)),0)
def dueS (l:List SesV) (t d:Int):List Int:=
 if (highF t 0 && highF d 0)=false then [] else (l.filter fun s=>decide (d<=t - s.ren)).map (·.client)
/-! ### Putting in, one by one -/
def putE (x:SesV) (st:List SesV × Bool) (s:SesV):List SesV × Bool:=if !st.2 && decide (x.client<s.client) then (st.1++ [x]++ [s],true) else (st.1++ [s],st.2)
def putN (x:SesV) (l:List SesV) (j:Nat):List SesV × Bool:=(l.take j).foldl (putE x) ([],false)
def putEnd (x:SesV) (st:List SesV × Bool):List SesV:=if st.2 then st.1 else st.1++ [x]
theorem putE_done (x:SesV) (l:List SesV): ∀M,l.foldl (putE x) (M,true)=(M++l,true):=by
 induction l with
 | nil=>intro M;simp
 | cons s l ih=>
  intro M
  rw[List.foldl_cons]
  have:putE x (M,true) s=(M++ [s],true):=by simp [putE]
  rw[this,ih]
  simp
theorem putE_fold (x:SesV) (l:List SesV): ∀M,putEnd x (l.foldl (putE x) (M,false))=M++putS x l:=by
 induction l with
 | nil=>intro M;simp [putEnd,putS]
 | cons s l ih=>
  intro M
  rw[List.foldl_cons]
  unfold putS
  by_cases h:x.client<s.client
  ·have:putE x (M,false) s=(M++ [x]++ [s],true):=by simp [putE,h]
   rw[this,putE_done,if_pos h]
   simp [putEnd]
  ·have:putE x (M,false) s=(M++ [s],false):=by simp [putE,h]
   rw[this,ih,if_neg h]
   simp
theorem putN_all (x:SesV) (l:List SesV):putEnd x (putN x l l.length)=putS x l:=by
 unfold putN
 rw[List.take_length,putE_fold,List.nil_append]
theorem putN_zero (x:SesV) (l:List SesV):putN x l 0=([],false):=rfl
theorem putN_succ (x:SesV) (l:List SesV) (j:Nat) (h:j<l.length):putN x l (j+1)=putE x (putN x l j) l[j]:=by
 unfold putN
 rw[List.take_succ_eq_append_getElem h,List.foldl_append]
 rfl
theorem putN_length (x:SesV) (l:List SesV) (j:Nat) (h:j<=l.length):(putN x l j).1.length <=j+1/\((putN x l j).2=false->(putN x l j).1.length =j):=by
 induction j with
 | zero=>exact⟨by simp [putN_zero],fun _=>rfl⟩
 | succ j ih=>
  obtain⟨h1,h2⟩:=ih (by omega)
  rw[putN_succ x l j (by omega)]
  unfold putE
  by_cases hb:(putN x l j).2=true
  ·simp only[hb,Bool.not_true,Bool.false_and,Bool.false_eq_true,if_false]
   exact⟨by simp;omega,fun q=>by cases q⟩
  ·have hb:(putN x l j).2=false:=by simpa using hb
   have h3:=h2 hb
   simp only[hb,Bool.not_false,Bool.true_and]
   split
   ·exact⟨by simp;omega,fun q=>by cases q⟩
   ·exact⟨by simp;omega,fun _=>by simp;omega⟩
/-! ### Right lists, as a relation -/
def oneS (s:SesV):Bool:=clientF s.client && highF s.num 1 && highF s.ren 0
structure Rs (l:List SesV):Prop where
 one: ∀s∈l,oneS s=true
 up:l.Pairwise fun a b=>a.client<b.client
 num:l.Pairwise fun a b=>a.num≠b.num
theorem Rs.nil:Rs []:=⟨(fun s h=>by cases h),List.Pairwise.nil,List.Pairwise.nil⟩
theorem rs_snoc (pre:List SesV) (s:SesV):Rs (pre++ [s]) ↔ Rs pre/\oneS s=true/\(∀a∈pre,a.client<s.client)/\ ∀a∈pre,a.num≠s.num:=by
 constructor
 ·intro h
  obtain⟨u1,_,u3⟩:=List.pairwise_append.1 h.up
  obtain⟨n1,_,n3⟩:=List.pairwise_append.1 h.num
  exact⟨⟨fun x hx=>h.one x (List.mem_append_left _ hx),u1,n1⟩,h.one s (by simp),fun a ha=>u3 a ha s (by simp),fun a ha=>n3 a ha s (by simp)⟩
 ·rintro ⟨h,h1,h2,h3⟩
  refine⟨fun x hx=>?_,List.pairwise_append.2 ⟨h.up,List.pairwise_singleton _ _,fun a ha b hb=>?_⟩,List.pairwise_append.2 ⟨h.num,List.pairwise_singleton _ _,fun a ha b hb=>?_⟩⟩
  ·rcases List.mem_append.1 hx with q | q
   ·exact h.one x q
   ·rw[List.mem_singleton] at q;subst q;exact h1
  ·rw[List.mem_singleton] at hb;subst hb;exact h2 a ha
  ·rw[List.mem_singleton] at hb;subst hb;exact h3 a ha
theorem last_le (pre:List SesV) (p:SesV) (h:(pre++ [p]).Pairwise fun a b=>a.client<b.client): ∀a∈pre++ [p],a.client<=p.client:=by
 intro a ha
 obtain⟨_,_,h3⟩:=List.pairwise_append.1 h
 rcases List.mem_append.1 ha with q | q
 ·exact Int.le_of_lt (h3 a q p (by simp))
 ·rw[List.mem_singleton] at q;subst q;exact Int.le_refl _
theorem sesOk_iff (pre:List SesV) (s:SesV) (h:Rs pre):sesOk pre s=true ↔ Rs (pre++ [s]):=by
 rw[rs_snoc]
 unfold sesOk
 have hall:(pre.all fun p=> !decide (p.num=s.num))=true ↔ ∀a∈pre,a.num≠s.num:=by simp [List.all_eq_true]
 have hlast:(match pre.getLast? with | none=>true | some p=>decide (p.client<s.client))=true ↔ ∀a∈pre,a.client<s.client:=by
  rcases List.eq_nil_or_concat pre with rfl | ⟨q,p,rfl⟩
  ·simp
  ·rw[List.concat_eq_append] at h ⊢
   rw[List.getLast?_append]
   simp only[List.getLast?_singleton,Option.some_or,decide_eq_true_eq]
   constructor
   ·intro hp a ha
    have:=last_le q p h.up a ha
    omega
   ·intro hp
    exact hp p (by simp)
 unfold oneS
 rw[Bool.and_eq_true,Bool.and_eq_true,hall,hlast]
 constructor
 ·rintro ⟨⟨h1,h2⟩,h3⟩
  exact⟨h,h1,h2,h3⟩
 ·rintro ⟨_,h1,h2,h3⟩
  exact⟨⟨h1,h2⟩,h3⟩
theorem rightGo_iff (l:List SesV): ∀pre,Rs pre->(rightGo pre l=true ↔ Rs (pre++l)):=by
 induction l with
 | nil=>intro pre h;simp [rightGo,h]
 | cons s l ih=>
  intro pre h
  have e:pre++s::l=(pre++ [s])++l:=by simp
  unfold rightGo
  rw[Bool.and_eq_true,e]
  constructor
  ·rintro ⟨h1,h2⟩
   have h3:=(sesOk_iff pre s h).1 h1
   exact(ih _ h3).1 h2
  ·intro h1
   have h3:Rs (pre++ [s]):=⟨fun x hx=>h1.one x (List.mem_append_left _ hx),(List.pairwise_append.1 h1.up).1,(List.pairwise_append.1 h1.num).1⟩
   exact⟨(sesOk_iff pre s h).2 h3,(ih _ h3).2 h1⟩
theorem rightS_iff (l:List SesV):rightS l=true ↔ l.length<=5/\Rs l:=by
 unfold rightS
 rw[Bool.and_eq_true,decide_eq_true_eq,rightGo_iff l [] Rs.nil,List.nil_append]
theorem findS_none (l:List SesV) (c:Int):(findS l c).2=false ↔ ∀s∈l,s.client≠c:=by
 induction l with
 | nil=>simp [findS]
 | cons x l ih=>
  unfold findS
  by_cases h:x.client=c
  ·simp [h]
  ·simp [h,ih]
theorem takenS_none (l:List SesV) (c n:Int):takenS l c n=false ↔ ∀s∈l,s.num=n->s.client=c:=by
 unfold takenS
 rw[List.any_eq_false]
 simp
theorem putS_mem (x:SesV) (l:List SesV): ∀s,s∈putS x l ↔ s=x\/s∈l:=by
 induction l with
 | nil=>intro s;simp [putS]
 | cons y l ih=>
  intro s
  unfold putS
  split
  ·simp
  ·rw[List.mem_cons,ih,List.mem_cons]
   constructor
   ·rintro (h | h | h)
    ·exact .inr (.inl h)
    ·exact .inl h
    ·exact .inr (.inr h)
   ·rintro (h | h | h)
    ·exact .inr (.inl h)
    ·exact .inl h
    ·exact .inr (.inr h)
theorem putS_length (x:SesV) (l:List SesV):(putS x l).length =l.length+1:=by
 induction l with
 | nil=>rfl
 | cons y l ih=>
  unfold putS
  split
  ·simp
  ·simp [ih]
theorem putS_rs (x:SesV) (l:List SesV) (h:Rs l) (hx:oneS x=true) (hc: ∀s∈l,s.client≠x.client) (hn: ∀s∈l,s.num≠x.num):Rs (putS x l):=by
 refine⟨fun s hs=>?_,?_,?_⟩
 ·rcases (putS_mem x l s).1 hs with rfl | q
  ·exact hx
  ·exact h.one s q
 ·have hu:=h.up
  clear h hn
  induction l with
  | nil=>exact List.pairwise_singleton _ _
  | cons y l ih=>
   rw[List.pairwise_cons] at hu
   unfold putS
   split
   ·rename_i q
    refine List.pairwise_cons.2 ⟨fun b hb=>?_,List.pairwise_cons.2 hu⟩
    rcases List.mem_cons.1 hb with rfl | hb
    ·exact q
    ·have:=hu.1 b hb;omega
   ·rename_i q
    refine List.pairwise_cons.2 ⟨fun b hb=>?_,ih (fun s hs=>hc s (List.mem_cons_of_mem _ hs)) hu.2⟩
    rcases (putS_mem x l b).1 hb with rfl | hb
    ·have:=hc y List.mem_cons_self;omega
    ·exact hu.1 b hb
 ·have hu:=h.num
  clear h hc
  induction l with
  | nil=>exact List.pairwise_singleton _ _
  | cons y l ih=>
   rw[List.pairwise_cons] at hu
   unfold putS
   split
   ·refine List.pairwise_cons.2 ⟨fun b hb=>?_,List.pairwise_cons.2 hu⟩
    exact(hn b hb).symm
   ·refine List.pairwise_cons.2 ⟨fun b hb=>?_,ih (fun s hs=>hn s (List.mem_cons_of_mem _ hs)) hu.2⟩
    rcases (putS_mem x l b).1 hb with rfl | hb
    ·exact hn y List.mem_cons_self
    ·exact hu.1 b hb
theorem openS_right (l:List SesV) (c n t:Int) (h:rightS l=true) (ho:(openS l c n t).2=0):rightS (openS l c n t).1=true:=by
 obtain⟨hl,hr⟩:=(rightS_iff l).1 h
 unfold openS at ho ⊢
 split at ho
 ·cases ho
 rename_i q1
 split at ho
 ·cases ho
 rename_i q2
 split at ho
 ·cases ho
 rename_i q3
 split at ho
 ·cases ho
 rename_i q4
 rw[if_neg q1,if_neg q2,if_neg q3,if_neg q4]
 have q1:(clientF c && highF n 1 && highF t 0)=true:=by cases hq:(clientF c && highF n 1 && highF t 0)<;>simp_all
 have q2:=(takenS_none l c n).1 (by simpa using q2)
 have q3:=(findS_none l c).1 (by simpa using q3)
 refine(rightS_iff _).2 ⟨by rw[putS_length];omega,putS_rs _ _ hr (show oneS ⟨c,n,t⟩=true from q1) q3 fun s hs e=>q3 s hs (q2 s hs e)⟩
theorem renewE_keeps (c t:Int) (s:SesV):(renewE c t s).client =s.client/\(renewE c t s).num =s.num:=by
 unfold renewE
 split<;>exact⟨rfl,rfl⟩
theorem renewE_one (c t:Int) (s:SesV) (h:oneS s=true) (ht:highF t 0=true):oneS (renewE c t s)=true:=by
 unfold renewE
 split
 ·unfold oneS at h ⊢
  dsimp only
  split
  ·rw[Bool.and_eq_true] at h ⊢
   exact⟨h.1,ht⟩
  ·exact h
 ·exact h
theorem renewS_right (l:List SesV) (c t:Int) (h:rightS l=true) (ho:(renewS l c t).2=0):rightS (renewS l c t).1=true:=by
 obtain⟨hl,hr⟩:=(rightS_iff l).1 h
 unfold renewS at ho ⊢
 split at ho
 ·cases ho
 rename_i q1
 split at ho
 ·cases ho
 rename_i q2
 rw[if_neg q1,if_neg q2]
 have q1:highF t 0=true:=by simpa using q1
 refine(rightS_iff _).2 ⟨by rw[List.length_map];exact hl,fun s hs=>?_,?_,?_⟩
 ·obtain⟨x,hx,rfl⟩:=List.mem_map.1 hs
  exact renewE_one c t x (hr.one x hx) q1
 ·rw[List.pairwise_map]
  refine hr.up.imp fun {a b} q=>?_
  rw[(renewE_keeps c t a).1,(renewE_keeps c t b).1]
  exact q
 ·rw[List.pairwise_map]
  refine hr.num.imp fun {a b} q=>?_
  rw[(renewE_keeps c t a).2,(renewE_keeps c t b).2]
  exact q
end Cm
end Go.Proofs.YtlnbmblbeaodcaaGreat

/- What package cmd answers of requests, as plain functions over bytes. No program is named here. -/
set_option linter.unusedVariables false
set_option maxRecDepth 8000
set_option linter.unusedSimpArgs false
namespace Go.Proofs.YtlnbmblbeaodcaaGreat
open Lib (hid)
open Go.RowKit
namespace Cm

structure ReqV where
 client:Int
 seq:Int
 cmd:CmdV
def mayR (r:ReqV):Bool:=decide (0<=r.client) && decide (r.client<8) && highF r.seq 1 && mayF r.cmd
theorem mayR_bounds (r:ReqV) (h:mayR r=true):(0<=r.client/\r.client<=7)/\(1<=r.seq/\r.seq<=2305843009213693952)/\mayF r.cmd=true:=by
 unfold mayR highF at h
 simp at h
 obtain⟨⟨⟨h1,h2⟩,h3,h4⟩,h5⟩:=h
 exact⟨by omega,by omega,h5⟩
end Cm
end Go.Proofs.YtlnbmblbeaodcaaGreat
