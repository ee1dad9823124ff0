/- Texts laid together by program. -/
import Derived.Test.YthpknaieimlmnaaGreatQ6
import Derived.Test.YthpknaieimlmnaaGreatQ7
/- What package lock answers, as plain functions over lists of locks. No program is named here. -/
set_option linter.unusedVariables false
set_option maxRecDepth 8000
set_option linter.unusedSimpArgs false
namespace Go.Proofs.YthpknaieimlmnaaGreat
open Lib (hid)
open Go.RowKit
namespace Cm

structure LockV where
 name:List UInt8
 holder:Int
 token:Int
 line:List Int
deriving DecidableEq

def isNm (n:List UInt8) (k:LockV):Bool:=decide (k.name=n)
def zeroK:LockV:=⟨[],0,0,[]⟩
def getK (l:List LockV) (i:Int):LockV:=l.getD i.toNat zeroK
def oneK (k:LockV):Bool:=nameF k.name && (clientF k.holder && (highF k.token 1 && (rightL k.line && !hasL k.line k.holder)))
def lockOk (pre:List LockV) (k:LockV):Bool:=
 oneK k && ((match pre.getLast? with | none=>true | some p=>Op.bytesLess p.name k.name) && pre.all fun p=> !decide (p.token=k.token))
def rightGoK (pre:List LockV):List LockV->Bool
 | []=>true
 | k::l=>lockOk pre k && rightGoK (pre++ [k]) l
def rightK (l:List LockV):Bool:=decide (l.length<=4) && rightGoK [] l
def placeK (n:List UInt8):List LockV->Nat
 | []=>0
 | k::l=>if Op.bytesLess k.name n=true then placeK n l+1 else 0
def putK (x:LockV):List LockV->List LockV
 | []=> [x]
 | k::l=>if Op.bytesLess k.name x.name=true then k::putK x l else x::k::l
theorem placeK_le (n:List UInt8): ∀l,placeK n l<=l.length
 | []=>Nat.le_refl _
 | k::l=>by
  unfold placeK
  split
  ·have:=placeK_le n l
   rw[List.length_cons];omega
  ·exact Nat.zero_le _
theorem placeK_lt (n:List UInt8): ∀(l:List LockV) (i:Nat) (h:i<l.length),i<placeK n l->Op.bytesLess l[i].name n=true
 | k::l,0,_,hp=>by
  unfold placeK at hp
  split at hp
  ·assumption
  ·omega
 | k::l,i+1,h,hp=>by
  unfold placeK at hp
  split at hp
  ·exact placeK_lt n l i (by simpa using h) (by omega)
  ·omega
theorem placeK_at (n:List UInt8): ∀(l:List LockV) (h:placeK n l<l.length),Op.bytesLess l[placeK n l].name n=false
 | k::l,h=>by
  by_cases q:Op.bytesLess k.name n=true
  ·have e:placeK n (k::l)=placeK n l+1:=by rw[placeK,if_pos q]
   have h':placeK n l<l.length:=by rw[e] at h;simpa using h
   have:=placeK_at n l h'
   simp only[e,List.getElem_cons_succ]
   exact this
  ·have e:placeK n (k::l)=0:=by rw[placeK,if_neg q]
   simp only[e,List.getElem_cons_zero]
   simpa using q
theorem putK_place (x:LockV): ∀l,putK x l=l.take (placeK x.name l)++x::l.drop (placeK x.name l)
 | []=>rfl
 | k::l=>by
  by_cases q:Op.bytesLess k.name x.name=true
  ·have e:placeK x.name (k::l)=placeK x.name l+1:=by rw[placeK,if_pos q]
   rw[e,putK,if_pos q,putK_place x l]
   rfl
  ·have e:placeK x.name (k::l)=0:=by rw[placeK,if_neg q]
   rw[e,putK,if_neg q]
   rfl
def takeK (l:List LockV) (n:List UInt8) (c t:Int) (wait:Bool):List LockV × Int × Int:=
 if idxI (isNm n) l<0 then (if 4<=l.length then ([],0,5) else (putK ⟨n,c,t+1,[]⟩ l,0,0)) else
 if (getK l (idxI (isNm n) l)).holder =c then ([],0,7) else
 if wait=false then ([],0,8) else
 if (aheadL (getK l (idxI (isNm n) l)).line c).2=true then (l,(aheadL (getK l (idxI (isNm n) l)).line c).1,10) else
 if 3<=(getK l (idxI (isNm n) l)).line.length then ([],0,5) else
 (l.set (idxI (isNm n) l).toNat ⟨(getK l (idxI (isNm n) l)).name,(getK l (idxI (isNm n) l)).holder,(getK l (idxI (isNm n) l)).token,(getK l (idxI (isNm n) l)).line ++ [c]⟩,(getK l (idxI (isNm n) l)).line.length,10)
def passK (k:LockV) (t:Int):LockV:=⟨k.name,k.line.headD 0,t+1,k.line.drop 1⟩
def freeK (l:List LockV) (n:List UInt8) (c t:Int):List LockV × Int × Int:=
 if idxI (isNm n) l<0 then ([],0,6) else
 if (getK l (idxI (isNm n) l)).holder ≠c then
  (if (aheadL (getK l (idxI (isNm n) l)).line c).2=false then ([],0,6) else
   (l.set (idxI (isNm n) l).toNat ⟨(getK l (idxI (isNm n) l)).name,(getK l (idxI (isNm n) l)).holder,(getK l (idxI (isNm n) l)).token,withoutL (getK l (idxI (isNm n) l)).line [c]⟩,0,0)) else
 if (getK l (idxI (isNm n) l)).line = [] then (l.take (idxI (isNm n) l).toNat ++l.drop ((idxI (isNm n) l).toNat +1),0,0) else
 (l.set (idxI (isNm n) l).toNat (passK (getK l (idxI (isNm n) l)) t),1,0)
def leftK (gone:List Int) (k:LockV):LockV:=⟨k.name,k.holder,k.token,withoutL k.line gone⟩
def dropK (gone:List Int):List LockV->Int->List LockV × Int
 | [],_=>([],0)
 | k::l,t=>
  if hasL gone k.holder=false then (leftK gone k::(dropK gone l t).1,(dropK gone l t).2) else
  if (leftK gone k).line = [] then dropK gone l t else
  (passK (leftK gone k) t::(dropK gone l (t+1)).1,(dropK gone l (t+1)).2+1)
def heldK (l:List LockV) (c:Int):List GrantV:=(l.filter fun k=>decide (k.holder=c)).map fun k=>⟨k.name,k.token⟩
def sameK:List LockV->List LockV->Bool
 | [],[]=>true
 | k::l,h::m=>(decide (k.name=h.name) && (decide (k.holder=h.holder) && (decide (k.token=h.token) && decide (k.line=h.line)))) && sameK l m
 | _,_=>false
theorem LockV.ext' {a b:LockV} (h1:a.name=b.name) (h2:a.holder=b.holder) (h3:a.token=b.token) (h4:a.line=b.line):a=b:=by
 cases a;cases b;simp_all
theorem sameK_iff: ∀(l m:List LockV),sameK l m=true ↔ l=m
 | [],[]=>by simp [sameK]
 | [],_::_=>by simp [sameK]
 | _::_,[]=>by simp [sameK]
 | ⟨a,b,c,d⟩::l,⟨a',b',c',d'⟩::m=>by
  unfold sameK
  simp [sameK_iff l m]
theorem sameK_len: ∀(l m:List LockV),l.length≠m.length->sameK l m=false
 | [],[],h=>absurd rfl h
 | [],_::_,_=>rfl
 | _::_,[],_=>rfl
 | g::l,h::m,q=>by
  have:=sameK_len l m (by simpa using q)
  unfold sameK
  rw[this,Bool.and_false]
theorem sameK_drop (l m:List LockV) (j:Nat) (h:j<l.length) (hm:j<m.length):
  sameK (l.drop j) (m.drop j)=((decide (l[j].name =m[j].name) && (decide (l[j].holder =m[j].holder) && (decide (l[j].token =m[j].token) && decide (l[j].line =m[j].line)))) && sameK (l.drop (j+1)) (m.drop (j+1))):=by
 rw[List.drop_eq_getElem_cons h,List.drop_eq_getElem_cons hm]
 rfl
theorem heldK_drop (l:List LockV) (c:Int) (j:Nat) (h:j<l.length):heldK (l.take (j+1)) c=heldK (l.take j) c++if l[j].holder =c then [⟨l[j].name,l[j].token⟩] else []:=by
 unfold heldK
 rw[List.take_succ_eq_append_getElem h,List.filter_append,List.map_append]
 congr 1
 by_cases q:l[j].holder =c<;>simp [q]
/-! ### Right lists, as a relation -/
structure Rk (l:List LockV):Prop where
 one: ∀k∈l,oneK k=true
 up:l.Pairwise fun a b=>Op.bytesLess a.name b.name=true
 tok:l.Pairwise fun a b=>a.token≠b.token
theorem Rk.nil:Rk []:=⟨(fun s h=>by cases h),List.Pairwise.nil,List.Pairwise.nil⟩
theorem less_tr: ∀a b c:List UInt8,Op.bytesLess a b=true->Op.bytesLess b c=true->Op.bytesLess a c=true:=by
 intro a
 induction a with
 | nil=>
  intro b c h1 h2
  cases c with
  | nil=>cases b<;>simp [Op.bytesLess] at h2
  | cons z c=>rfl
 | cons x a ih=>
  intro b c h1 h2
  cases b with
  | nil=>simp [Op.bytesLess] at h1
  | cons y b=>
   cases c with
   | nil=>simp [Op.bytesLess] at h2
   | cons z c=>
    simp only[Op.bytesLess,Bool.or_eq_true,Bool.and_eq_true,decide_eq_true_eq,beq_iff_eq] at h1 h2 ⊢
    rcases h1 with h1 | ⟨rfl,h1⟩
    ·rcases h2 with h2 | ⟨rfl,h2⟩
     ·exact .inl (show x.toNat<z.toNat from Nat.lt_trans (show x.toNat<y.toNat from h1) (show y.toNat<z.toNat from h2))
     ·exact .inl h1
    ·rcases h2 with h2 | ⟨rfl,h2⟩
     ·exact .inl h2
     ·exact .inr ⟨rfl,ih b c h1 h2⟩
theorem rk_snoc (pre:List LockV) (s:LockV):Rk (pre++ [s]) ↔ Rk pre/\oneK s=true/\(∀a∈pre,Op.bytesLess a.name s.name=true)/\ ∀a∈pre,a.token≠s.token:=by
 constructor
 ·intro h
  obtain⟨u1,_,u3⟩:=List.pairwise_append.1 h.up
  obtain⟨n1,_,n3⟩:=List.pairwise_append.1 h.tok
  exact⟨⟨fun x hx=>h.one x (List.mem_append_left _ hx),u1,n1⟩,h.one s (by simp),fun a ha=>u3 a ha s (by simp),fun a ha=>n3 a ha s (by simp)⟩
 ·rintro ⟨h,h1,h2,h3⟩
  refine⟨fun x hx=>?_,List.pairwise_append.2 ⟨h.up,List.pairwise_singleton _ _,fun a ha b hb=>?_⟩,List.pairwise_append.2 ⟨h.tok,List.pairwise_singleton _ _,fun a ha b hb=>?_⟩⟩
  ·rcases List.mem_append.1 hx with q | q
   ·exact h.one x q
   ·rw[List.mem_singleton] at q;subst q;exact h1
  ·rw[List.mem_singleton] at hb;subst hb;exact h2 a ha
  ·rw[List.mem_singleton] at hb;subst hb;exact h3 a ha
theorem lockOk_iff (pre:List LockV) (s:LockV) (h:Rk pre):lockOk pre s=true ↔ Rk (pre++ [s]):=by
 rw[rk_snoc]
 unfold lockOk
 have hall:(pre.all fun p=> !decide (p.token=s.token))=true ↔ ∀a∈pre,a.token≠s.token:=by simp [List.all_eq_true]
 have hlast:(match pre.getLast? with | none=>true | some p=>Op.bytesLess p.name s.name)=true ↔ ∀a∈pre,Op.bytesLess a.name s.name=true:=by
  rcases List.eq_nil_or_concat pre with rfl | ⟨q,p,rfl⟩
  ·simp
  ·rw[List.concat_eq_append] at h ⊢
   rw[List.getLast?_append]
   simp only[List.getLast?_singleton,Option.some_or]
   constructor
   ·intro hp a ha
    rcases List.mem_append.1 ha with g | g
    ·exact less_tr _ _ _ ((List.pairwise_append.1 h.up).2.2 a g p (by simp)) hp
    ·rw[List.mem_singleton] at g;subst g;exact hp
   ·intro hp
    exact hp p (by simp)
 rw[Bool.and_eq_true,Bool.and_eq_true,hall,hlast]
 constructor
 ·rintro ⟨h1,h2,h3⟩
  exact⟨h,h1,h2,h3⟩
 ·rintro ⟨_,h1,h2,h3⟩
  exact⟨h1,h2,h3⟩
theorem rightGoK_iff (l:List LockV): ∀pre,Rk pre->(rightGoK pre l=true ↔ Rk (pre++l)):=by
 induction l with
 | nil=>intro pre h;simp [rightGoK,h]
 | cons s l ih=>
  intro pre h
  have e:pre++s::l=(pre++ [s])++l:=by simp
  unfold rightGoK
  rw[Bool.and_eq_true,e]
  constructor
  ·rintro ⟨h1,h2⟩
   have h3:=(lockOk_iff pre s h).1 h1
   exact(ih _ h3).1 h2
  ·intro h1
   have h3:Rk (pre++ [s]):=⟨fun x hx=>h1.one x (List.mem_append_left _ hx),(List.pairwise_append.1 h1.up).1,(List.pairwise_append.1 h1.tok).1⟩
   exact⟨(lockOk_iff pre s h).2 h3,(ih _ h3).2 h1⟩
theorem rightK_iff (l:List LockV):rightK l=true ↔ l.length<=4/\Rk l:=by
 unfold rightK
 rw[Bool.and_eq_true,decide_eq_true_eq,rightGoK_iff l [] Rk.nil,List.nil_append]
end Cm
end Go.Proofs.YthpknaieimlmnaaGreat

/- What package auto answers, as plain functions of states. No program is named here. -/
set_option linter.unusedVariables false
set_option maxRecDepth 8000
set_option linter.unusedSimpArgs false
namespace Go.Proofs.YthpknaieimlmnaaGreat
open Lib (hid)
open Go.RowKit
namespace Cm

structure StV where
 time:Int
 num:Int
 token:Int
 ses:List SesV
 locks:List LockV
 memos:List AnsV
def zeroSt:StV:=⟨0,0,0,[],[],[]⟩
def closeE (l:List SesV) (c:Int):List SesV:=if (closeS l c).2=0 then (closeS l c).1 else l
def closeAll (l:List SesV) (G:List Int):List SesV:=G.foldl closeE l
def dropA (s:StV) (G:List Int):StV:=⟨s.time,s.num,s.token+(dropK G s.locks s.token).2,closeAll s.ses G,(dropK G s.locks s.token).1,s.memos⟩
def timeA (s:StV) (t:Int):Int:=if s.time<t/\t<=2305843009213693952 then t else s.time
def leaseA (d:Int):Int:=if d<1 then 1 else d
def advA (s:StV) (t d:Int):StV:=dropA ⟨timeA s t,s.num,s.token,s.ses,s.locks,s.memos⟩ (dueS s.ses (timeA s t) (leaseA d))
def toldA (s:StV) (c code ahead:Int):ReplyV:=⟨code,(findS s.ses c).1.num,ahead,heldK s.locks c⟩
def onlyA (code:Int):ReplyV:=⟨code,0,0,[]⟩
def openedA (s:StV) (c:Int):StV:=⟨s.time,s.num+1,s.token,(openS s.ses c (s.num+1) s.time).1,s.locks,s.memos⟩
def openA (s:StV) (c:Int):StV × ReplyV:=
 if (findS s.ses c).2=true then (s,toldA s c 7 0) else
 if (openS s.ses c (s.num+1) s.time).2=0 then (openedA s c,toldA (openedA s c) c 0 0) else (s,onlyA (openS s.ses c (s.num+1) s.time).2)
def renewedA (s:StV) (c:Int):StV:=⟨s.time,s.num,s.token,(renewS s.ses c s.time).1,s.locks,s.memos⟩
def takenA (s:StV) (n:List UInt8) (c:Int) (wt:Bool):StV:=
 ⟨s.time,s.num,if (takeK s.locks n c s.token wt).2.2=0 then s.token+1 else s.token,s.ses,if (takeK s.locks n c s.token wt).2.2=0\/(takeK s.locks n c s.token wt).2.2=10 then (takeK s.locks n c s.token wt).1 else s.locks,s.memos⟩
def freedA (s:StV) (n:List UInt8) (c:Int):StV:=
 ⟨s.time,s.num,if (freeK s.locks n c s.token).2.2=0 then s.token+(freeK s.locks n c s.token).2.1 else s.token,s.ses,if (freeK s.locks n c s.token).2.2=0 then (freeK s.locks n c s.token).1 else s.locks,s.memos⟩
def cmdA (s:StV) (c:Int) (m:CmdV):StV × ReplyV:=
 if m.kind=3\/m.kind=4 then (takenA s m.name c (decide (m.kind=3)),toldA (takenA s m.name c (decide (m.kind=3))) c (takeK s.locks m.name c s.token (decide (m.kind=3))).2.2 (takeK s.locks m.name c s.token (decide (m.kind=3))).2.1) else
 if m.kind=5 then (freedA s m.name c,toldA (freedA s m.name c) c (freeK s.locks m.name c s.token).2.2 0) else
 if m.kind=6 then (dropA s [c],onlyA 0) else (s,toldA s c 0 0)
def doesA (s:StV) (r:ReqV):StV × ReplyV:=
 if r.cmd.kind=1 then openA s r.client else
 if (findS s.ses r.client).2=false\/(findS s.ses r.client).1.num ≠r.cmd.session then (s,onlyA 9) else cmdA (renewedA s r.client) r.client r.cmd
def keptA (t:StV) (a:AnsV):StV:=⟨t.time,t.num,t.token,t.ses,t.locks,keepM t.memos a⟩
def applyA (s:StV) (r:ReqV):StV × ReplyV × Bool:=
 if mayR r=false then (s,onlyA 1,false) else
 if freshM s.memos r.client r.seq<0 then (s,onlyA 0,false) else
 if freshM s.memos r.client r.seq=0 then (s,(lastM s.memos r.client).1.rep,false) else
 (keptA (doesA s r).1 ⟨r.client,r.seq,(doesA s r).2⟩,(doesA s r).2,true)
def goneE (b:StV) (x:SesV):Bool:= !(findS b.ses x.client).2 || !decide ((findS b.ses x.client).1.num =x.num)
def goneA (a b:StV):List Int:=(a.ses.filter (goneE b)).map (·.client)
def hasA (s:StV) (c:Int):Bool:=(findS s.ses c).2
def fitA (s:StV) (k:LockV):Bool:=hasA s k.holder && (decide (k.token<=s.token) && k.line.all (hasA s))
def rightA (s:StV):Bool:=(highF s.time 0 && (highF s.num 0 && (highF s.token 0 && (rightS s.ses && (rightK s.locks && rightM s.memos))))) && (s.ses.all (fun x=>decide (x.num<=s.num)) && s.locks.all (fitA s))
theorem StV.ext' {a b:StV} (h1:a.time=b.time) (h2:a.num=b.num) (h3:a.token=b.token) (h4:a.ses=b.ses) (h5:a.locks=b.locks) (h6:a.memos=b.memos):a=b:=by
 cases a;cases b;simp_all
end Cm
end Go.Proofs.YthpknaieimlmnaaGreat
