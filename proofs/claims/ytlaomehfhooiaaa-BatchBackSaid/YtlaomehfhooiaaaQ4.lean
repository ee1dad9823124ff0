/- Texts laid together by program. -/
import Derived.Test.YtlaomehfhooiaaaQ3
/- What package cmd answers, as plain functions over bytes: names, commands, requests; what is put is read as it was. No program is named here. -/
set_option linter.unusedVariables false
set_option linter.unusedSimpArgs false
namespace Go.Proofs.Ytlaomehfhooiaaa
open Lib (hid)
open Go.RowKit

namespace Cm

structure CmdV where
 kind:Int
 session:Int
 name:List UInt8
def zero:CmdV:=⟨0,0,[]⟩
def nameB (c:UInt8):Bool:=(decide (97<=c.toNat) && decide (c.toNat<=122)) || (decide (48<=c.toNat) && decide (c.toNat<=57)) || decide (c.toNat=45)
def nameF (s:List UInt8):Bool:=decide (1<=s.length) && decide (s.length<=12) && s.all nameB
def highF (v least:Int):Bool:=decide (least<=v) && decide (v<=2305843009213693952)
def mayF (c:CmdV):Bool:=
 if c.kind=1 then decide (c.session=0) && decide (c.name= [])
 else if c.kind=2\/c.kind=6 then highF c.session 1 && decide (c.name= [])
 else if c.kind=3\/c.kind=4\/c.kind=5 then highF c.session 1 && nameF c.name
 else false
theorem may_bounds (c:CmdV) (h:mayF c=true):(1<=c.kind/\c.kind<=6)/\(0<=c.session/\c.session<=2305843009213693952)/\c.name.length<=12:=by
 unfold mayF highF nameF at h
 split at h
 ·simp at h
  rw[h.2]
  simp
  omega
 ·split at h
  ·simp at h
   rw[h.2]
   simp
   omega
  ·split at h
   ·simp at h
    omega
   ·cases h
def bytesC (c:CmdV):List UInt8:=UInt8.ofNat c.kind.toNat::(be8 c.session.toNat++(UInt8.ofNat c.name.length::c.name))
theorem bytesC_length (c:CmdV):(bytesC c).length =10+c.name.length:=by
 unfold bytesC
 simp [be8_length]
 omega
def putF (c:CmdV):List UInt8 × Int:=if mayF c then (bytesC c,0) else ([],1)
def getF (bs:List UInt8) (t:Int):CmdV × Int × Int:=
 if (byteOf bs t).2.2≠0 then (zero,0,(byteOf bs t).2.2) else
 if (numOf bs (byteOf bs t).2.1).2.2≠0 then (zero,0,(numOf bs (byteOf bs t).2.1).2.2) else
 if (textOf bs (numOf bs (byteOf bs t).2.1).2.1 12).2.2≠0 then (zero,0,(textOf bs (numOf bs (byteOf bs t).2.1).2.1 12).2.2) else
 if mayF ⟨(byteOf bs t).1,(numOf bs (byteOf bs t).2.1).1,(textOf bs (numOf bs (byteOf bs t).2.1).2.1 12).1⟩ then
  (⟨(byteOf bs t).1,(numOf bs (byteOf bs t).2.1).1,(textOf bs (numOf bs (byteOf bs t).2.1).2.1 12).1⟩,(textOf bs (numOf bs (byteOf bs t).2.1).2.1 12).2.1,0)
 else (zero,0,4)
end Cm
end Go.Proofs.Ytlaomehfhooiaaa

/- What package cmd answers of requests, as plain functions over bytes. No program is named here. -/
set_option linter.unusedVariables false
set_option linter.unusedSimpArgs false
namespace Go.Proofs.Ytlaomehfhooiaaa
open Lib (hid)
open Go.RowKit
namespace Cm

structure ReqV where
 client:Int
 seq:Int
 cmd:CmdV
def zeroR:ReqV:=⟨0,0,zero⟩
def mayR (r:ReqV):Bool:=decide (0<=r.client) && decide (r.client<8) && highF r.seq 1 && mayF r.cmd
theorem mayR_bounds (r:ReqV) (h:mayR r=true):(0<=r.client/\r.client<=7)/\(1<=r.seq/\r.seq<=2305843009213693952)/\mayF r.cmd=true:=by
 unfold mayR highF at h
 simp at h
 obtain⟨⟨⟨h1,h2⟩,h3,h4⟩,h5⟩:=h
 exact⟨by omega,by omega,h5⟩
def bytesR (r:ReqV):List UInt8:=UInt8.ofNat r.client.toNat::(be8 r.seq.toNat++bytesC r.cmd)
theorem bytesR_length (r:ReqV):(bytesR r).length =19+r.cmd.name.length:=by
 unfold bytesR
 simp [be8_length,bytesC_length]
 omega
def putR (r:ReqV):List UInt8 × Int:=if mayR r then (bytesR r,0) else ([],1)
def getR (bs:List UInt8) (t:Int):ReqV × Int × Int:=
 if (byteOf bs t).2.2≠0 then (zeroR,0,(byteOf bs t).2.2) else
 if (numOf bs (byteOf bs t).2.1).2.2≠0 then (zeroR,0,(numOf bs (byteOf bs t).2.1).2.2) else
 if (getF bs (numOf bs (byteOf bs t).2.1).2.1).2.2≠0 then (zeroR,0,(getF bs (numOf bs (byteOf bs t).2.1).2.1).2.2) else
 if mayR ⟨(byteOf bs t).1,(numOf bs (byteOf bs t).2.1).1,(getF bs (numOf bs (byteOf bs t).2.1).2.1).1⟩ then
  (⟨(byteOf bs t).1,(numOf bs (byteOf bs t).2.1).1,(getF bs (numOf bs (byteOf bs t).2.1).2.1).1⟩,(getF bs (numOf bs (byteOf bs t).2.1).2.1).2.1,0)
 else (zeroR,0,4)
end Cm
end Go.Proofs.Ytlaomehfhooiaaa

/- What package batch answers, as plain functions over bytes; what is put is read as it was; what is read determines its bytes. No program is named here. -/
set_option linter.unusedVariables false
set_option maxRecDepth 8000
set_option linter.unusedSimpArgs false
namespace Go.Proofs.Ytlaomehfhooiaaa
open Lib (hid)
open Go.RowKit
namespace Cm

structure BatV where
 fill:Bool
 view:Int
 tv:Int
 ts:Int
 time:Int
 reqs:List ReqV
def zeroB:BatV:=⟨false,0,0,0,0,[]⟩
def fillB:BatV:=⟨true,0,0,0,0,[]⟩
def hasC (l:List ReqV) (c:Int):Bool:=l.any fun r=>decide (r.client=c)
def okR:List ReqV->List ReqV->Bool
 | _,[]=>true
 | p,r::l=>mayR r && !hasC p r.client && okR (p++ [r]) l
def reqsF (l:List ReqV):Bool:=decide (l.length<=3) && okR [] l
theorem okR_step (l:List ReqV) (i:Nat) (h:i<l.length):okR (l.take i) (l.drop i)=(mayR l[i] && !hasC (l.take i) l[i].client && okR (l.take (i+1)) (l.drop (i+1))):=by
 rw[List.drop_eq_getElem_cons h,okR,List.take_succ_eq_append_getElem h]
theorem okR_may: ∀(l p:List ReqV),okR p l=true-> ∀r∈l,mayR r=true
 | [],_,_,r,hr=>by cases hr
 | x::l,p,h,r,hr=>by
  rw[okR] at h
  simp only[Bool.and_eq_true] at h
  rcases List.mem_cons.1 hr with e | q
  ·rw[e];exact h.1.1
  ·exact okR_may l _ h.2 r q
def mayB (b:BatV):Bool:=
 if b.fill then decide (b.view=0) && (decide (b.tv=0) && decide (b.ts=0)) && decide (b.time=0) && decide (b.reqs.length=0)
 else highF b.view 0 && highF b.tv 0 && highF b.ts 0 && highF b.time 0 && reqsF b.reqs
def eqR (a b:ReqV):Bool:=decide (a.client=b.client) && decide (a.seq=b.seq) && (decide (a.cmd.kind=b.cmd.kind) && decide (a.cmd.session=b.cmd.session) && decide (a.cmd.name=b.cmd.name))
theorem eqR_iff (a b:ReqV):eqR a b=true ↔ a=b:=by
 obtain⟨a1,a2,a3,a4,a5⟩:=a
 obtain⟨b1,b2,b3,b4,b5⟩:=b
 simp [eqR]
 constructor
 ·rintro ⟨⟨h1,h2⟩,⟨h3,h4⟩,h5⟩
  exact⟨h1,h2,h3,h4,h5⟩
 ·rintro ⟨h1,h2,h3,h4,h5⟩
  exact⟨⟨h1,h2⟩,⟨h3,h4⟩,h5⟩
def sameRs:List ReqV->List ReqV->Bool
 | [],[]=>true
 | x::l,y::m=>eqR x y && sameRs l m
 | _,_=>false
theorem sameRs_iff: ∀a b:List ReqV,sameRs a b=true ↔ a=b
 | [],[]=>by simp [sameRs]
 | x::l,y::m=>by rw[sameRs,Bool.and_eq_true,eqR_iff,sameRs_iff l m,List.cons.injEq]
 | [],_::_=>by simp [sameRs]
 | _::_,[]=>by simp [sameRs]
theorem sameRs_len (a b:List ReqV) (h:a.length≠b.length):sameRs a b=false:=by
 cases q:sameRs a b
 ·rfl
 ·rw[(sameRs_iff a b).1 q] at h
  exact absurd rfl h
theorem sameRs_step (a b:List ReqV) (i:Nat) (ha:i<a.length) (hb:i<b.length):sameRs (a.drop i) (b.drop i)=(eqR a[i] b[i] && sameRs (a.drop (i+1)) (b.drop (i+1))):=by
 rw[List.drop_eq_getElem_cons ha,List.drop_eq_getElem_cons hb,sameRs]
theorem sameRs_end (a b:List ReqV) (i:Nat) (ha:a.length<=i) (hb:b.length<=i):sameRs (a.drop i) (b.drop i)=true:=by
 rw[List.drop_eq_nil_of_le ha,List.drop_eq_nil_of_le hb]
 rfl
def sameB (a b:BatV):Bool:=decide (a.fill=b.fill) && decide (a.view=b.view) && (decide (a.tv=b.tv) && decide (a.ts=b.ts)) && decide (a.time=b.time) && sameRs a.reqs b.reqs
theorem sameB_iff (a b:BatV):sameB a b=true ↔ a=b:=by
 obtain⟨a1,a2,a3,a4,a5,a6⟩:=a
 obtain⟨b1,b2,b3,b4,b5,b6⟩:=b
 simp [sameB,sameRs_iff]
 constructor
 ·rintro ⟨⟨⟨⟨h1,h2⟩,h3,h4⟩,h5⟩,h6⟩
  exact⟨h1,h2,h3,h4,h5,h6⟩
 ·rintro ⟨h1,h2,h3,h4,h5,h6⟩
  exact⟨⟨⟨⟨h1,h2⟩,h3,h4⟩,h5⟩,h6⟩
theorem sameB_refl (a:BatV):sameB a a=true:=(sameB_iff a a).2 rfl
def bytesNs (l:List Int):List UInt8:=l.flatMap fun v=>be8 v.toNat
def bytesRs (l:List ReqV):List UInt8:=l.flatMap bytesR
theorem bytesNs_cons (v:Int) (l:List Int):bytesNs (v::l)=be8 v.toNat++bytesNs l:=rfl
theorem bytesRs_cons (r:ReqV) (l:List ReqV):bytesRs (r::l)=bytesR r++bytesRs l:=rfl
theorem bytesRs_snoc (l:List ReqV) (r:ReqV):bytesRs (l++ [r])=bytesRs l++bytesR r:=by simp [bytesRs]
theorem bytesNs_length: ∀l:List Int,(bytesNs l).length =8*l.length
 | []=>rfl
 | v::l=>by rw[bytesNs_cons,List.length_append,be8_length,bytesNs_length l,List.length_cons];omega
theorem bytesRs_le: ∀l:List ReqV,(∀r∈l,mayR r=true)->(bytesRs l).length <=31*l.length
 | [],_=>Nat.le_refl _
 | r::l,h=>by
  have h1:=bytesRs_le l fun x hx=>h x (List.mem_cons_of_mem _ hx)
  have h2:=(may_bounds _ (mayR_bounds _ (h r List.mem_cons_self)).2.2).2.2
  rw[bytesRs_cons,List.length_append,bytesR_length,List.length_cons]
  omega
def headB (b:BatV):List UInt8:=0::bytesNs [b.view,b.tv,b.ts,b.time]
def bytesB (b:BatV):List UInt8:=if b.fill then [1] else headB b++ [UInt8.ofNat b.reqs.length]++bytesRs b.reqs
def putB (b:BatV):List UInt8 × Int:=if mayB b then (bytesB b,0) else ([],1)
def readNs (bs:List UInt8) (G:List Int) (t:Int):Nat->List Int × Int × Int
 | 0=>(G,t,0)
 | n+1=>if (numOf bs t).2.2≠0 then ([],0,(numOf bs t).2.2) else readNs bs (G++ [(numOf bs t).1]) (numOf bs t).2.1 n
def readRs (bs:List UInt8) (G:List ReqV) (t:Int):Nat->List ReqV × Int × Int
 | 0=>(G,t,0)
 | n+1=>if (getR bs t).2.2≠0 then ([],0,(getR bs t).2.2) else readRs bs (G++ [(getR bs t).1]) (getR bs t).2.1 n
theorem readNs_ok {bs:List UInt8} {G:List Int} {T v u:Int} {n:Nat} (h:numOf bs T=(v,u,0)):readNs bs G T (n+1)=readNs bs (G++ [v]) u n:=by
 rw[readNs,h,if_neg (by simp)]
theorem readNs_bad {bs:List UInt8} {G:List Int} {T v u e:Int} {n:Nat} (h:numOf bs T=(v,u,e)) (he:e≠0):readNs bs G T (n+1)=([],0,e):=by
 rw[readNs,h,if_pos he]
theorem readRs_ok {bs:List UInt8} {G:List ReqV} {T u:Int} {r:ReqV} {n:Nat} (h:getR bs T=(r,u,0)):readRs bs G T (n+1)=readRs bs (G++ [r]) u n:=by
 rw[readRs,h,if_neg (by simp)]
theorem readRs_bad {bs:List UInt8} {G:List ReqV} {T u e:Int} {r:ReqV} {n:Nat} (h:getR bs T=(r,u,e)) (he:e≠0):readRs bs G T (n+1)=([],0,e):=by
 rw[readRs,h,if_pos he]
def batOf (l:List Int) (q:List ReqV):BatV:=⟨false,l.getD 0 0,l.getD 1 0,l.getD 2 0,l.getD 3 0,q⟩
def getB (bs:List UInt8) (t:Int):BatV × Int × Int:=
 let B:=byteOf bs t
 let N:=readNs bs [] B.2.1 4
 let C:=byteOf bs N.2.1
 let R:=readRs bs [] C.2.1 C.1.toNat
 if B.2.2≠0 then (zeroB,0,B.2.2) else
 if 1<B.1 then (zeroB,0,4) else
 if B.1=1 then (fillB,B.2.1,0) else
 if N.2.2≠0 then (zeroB,0,N.2.2) else
 if C.2.2≠0 then (zeroB,0,C.2.2) else
 if 3<C.1 then (zeroB,0,4) else
 if R.2.2≠0 then (zeroB,0,R.2.2) else
 if mayB (batOf N.1 R.1) then (batOf N.1 R.1,R.2.1,0) else (zeroB,0,4)
theorem getB_told {bs:List UInt8} {t k t1 e1 t2 e2 n t3 e3 t4 e4:Int} {l:List Int} {q:List ReqV} (hB:byteOf bs t=(k,t1,e1)) (hN:readNs bs [] t1 4=(l,t2,e2)) (hC:byteOf bs t2=(n,t3,e3)) (hR:readRs bs [] t3 n.toNat=(q,t4,e4)):
  getB bs t=if e1≠0 then (zeroB,0,e1) else if 1<k then (zeroB,0,4) else if k=1 then (fillB,t1,0) else if e2≠0 then (zeroB,0,e2) else if e3≠0 then (zeroB,0,e3) else
   if 3<n then (zeroB,0,4) else if e4≠0 then (zeroB,0,e4) else if mayB (batOf l q) then (batOf l q,t4,0) else (zeroB,0,4):=by
 unfold getB
 simp only[hB,hN,hC,hR]
theorem mayB_fill {b:BatV} (h:mayB b=true) (hf:b.fill=true):b=fillB:=by
 obtain⟨f,a1,a2,a3,a4,l⟩:=b
 simp only at hf
 subst hf
 simp [mayB] at h
 obtain⟨⟨⟨h1,h2,h3⟩,h4⟩,h5⟩:=h
 subst h1;subst h2;subst h3;subst h4;subst h5
 rfl
theorem mayB_plain {b:BatV} (h:mayB b=true) (hf:b.fill=false):
  (∀v∈ [b.view,b.tv,b.ts,b.time],0<=v/\v<4611686018427387904)/\b.reqs.length<=3/\(∀r∈b.reqs,mayR r=true)/\batOf [b.view,b.tv,b.ts,b.time] b.reqs=b:=by
 obtain⟨f,a1,a2,a3,a4,l⟩:=b
 simp only at hf
 subst hf
 have h':(((highF a1 0=true/\highF a2 0=true)/\highF a3 0=true)/\highF a4 0=true)/\reqsF l=true:=by simpa [mayB] using h
 obtain⟨⟨⟨⟨h1,h2⟩,h3⟩,h4⟩,h5⟩:=h'
 simp [highF] at h1 h2 h3 h4
 unfold reqsF at h5
 rw[Bool.and_eq_true,decide_eq_true_eq] at h5
 refine⟨?_,h5.1,fun r hr=>okR_may l [] h5.2 r hr,rfl⟩
 intro v hv
 simp only[List.mem_cons,List.not_mem_nil,or_false] at hv
 rcases hv with rfl | rfl | rfl | rfl<;>omega
end Cm
end Go.Proofs.Ytlaomehfhooiaaa

/- Contracts of package cmd, and of the document's answers for it: letters, numbers, names, commands that may be. -/
set_option linter.unusedVariables false
set_option linter.unusedSimpArgs false
namespace Go.Proofs.Ytlaomehfhooiaaa
open Lib (hid)
open Go.RowKit
namespace Cm

def Says (r:Bool) (w:World) (e:Ending) (w':World):Prop:=e= .returned (.bool r)/\w=w'
def SaysB (r:Bool) (w:World) (e:Ending) (w':World):Prop:=e= .returned (.bool r)/\Below w.heap.size w w'
theorem Says.b {r:Bool} {w:World} {e:Ending} {w':World} (h:Says r w e w'):SaysB r w e w':=by
 obtain⟨h1,rfl⟩:=h
 exact⟨h1,Below.refl _ _⟩
theorem inName_any (c:UInt8) (w:World):Calls Try.prog 71 #[.int .u8 (c.toNat:Int)] w (Says (nameB c) w):=by
  have hc:=UInt8.toNat_lt c
  unfold nameB
  generalize c.toNat=n at hc ⊢
  by_cases h1:97<=n<;>by_cases h2:n<=122<;>by_cases h3:48<=n<;>by_cases h4:n<=57<;>by_cases h5:n=45<;>first
    | (exfalso;omega)
    | (go_enter Try.func71,Try.ntmps71
       go_wp2
       go_ret
       exact⟨by simp [h1,h2,h3,h4,h5]<;>omega,rfl⟩)
theorem isNumber_any (v:Int) (w:World):Calls Try.prog 56 #[.int .i64 v] w (Says (highF v 1) w):=by
  unfold highF
  by_cases h1:1<=v<;>by_cases h2:v<=2305843009213693952<;>
    (go_enter Try.func56,Try.ntmps56
     go_wp2
     go_ret
     exact⟨by simp [h1,h2]<;>omega,rfl⟩)
theorem high_any (v least:Int) (w:World):Calls Try.prog 60 #[.int .i64 v,.int .i64 least] w (Says (highF v least) w):=by
  unfold highF
  by_cases h1:least<=v<;>by_cases h2:v<=2305843009213693952<;>
    (go_enter Try.func60,Try.ntmps60
     go_wp2
     go_ret
     exact⟨by simp [h1,h2]<;>omega,rfl⟩)
theorem all_take_succ (s:List UInt8) (k:Nat) (h:k<s.length):(s.take (k+1)).all nameB=((s.take k).all nameB && nameB (s.getD k 0)):=by
 rw[List.take_succ_eq_append_getElem h,List.all_append]
 simp [List.getD,List.getElem?_eq_getElem h]
theorem all_false_of (s:List UInt8) (k:Nat) (h:k<s.length) (hb:nameB (s.getD k 0)=false):s.all nameB=false:=by
 rw[List.all_eq_false]
 have e:s.getD k 0=s[k]:=by simp [List.getD,List.getElem?_eq_getElem h]
 exact⟨s[k],List.getElem_mem h,by rw[<-e,hb];simp⟩
theorem bstr_get (s:List UInt8) (k:Nat) (h:k<s.length) (h':k<(bstr s).size):(bstr s)[k]'h'=s.getD k 0:=by
 simp only[List.getD,List.getElem?_eq_getElem h,Option.getD_some]
 rfl
theorem Name_any (s:List UInt8) (w:World):Calls Try.prog 67 #[.string (bstr s)] w (Says (nameF s) w):=by
 have hs:=bstr_size s
 unfold nameF
 by_cases h1:s.length<1
 ·rw[decide_eq_false (by omega)]
  go_enter Try.func67,Try.ntmps67
  go_wp2
  go_ret
  exact⟨rfl,rfl⟩
 by_cases h2:12<s.length
 ·rw[decide_eq_false (show ¬s.length<=12 by omega)]
  go_enter Try.func67,Try.ntmps67
  go_wp2
  go_ret
  exact⟨by simp,rfl⟩
 rw[decide_eq_true (show 1<=s.length by omega),decide_eq_true (show s.length<=12 by omega)]
 go_enter Try.func67,Try.ntmps67
 go_wp2
 go_loop [14] (fun i=> ∃j:Nat,j<=s.length/\i= .int .i64 j/\(s.take j).all nameB=true) (fun i=>s.length - (intOf i).toNat)
 case atStart=>exact⟨0,by omega,rfl,rfl⟩
 case round=>
  obtain⟨j,hj,rfl,ha⟩:=hrel
  by_cases hlt:j<s.length
  ·have hget:=bstr_get s j hlt
   have HA:=hid (all_take_succ s j hlt)
   have HF:=hid (all_false_of s j hlt)
   generalize s.getD j 0=c at hget HA HF
   cases hn:nameB c
   ·have HN:=hid hn
    clear hn
    go_wp2_with (go_at_call 71;refine(inName_any c _).mono ?_;rw[HN.out];rintro e w' ⟨rfl,rfl⟩)
    go_ret
    exact⟨by rw[HF.out HN.out];rfl,rfl⟩
   ·have HN:=hid hn
    clear hn
    go_wp2_with (go_at_call 71;refine(inName_any c _).mono ?_;rw[HN.out];rintro e w' ⟨rfl,rfl⟩)
    go_round
    case rel=>exact⟨j+1,by omega,by go_num,by rw[HA.out,HN.out,ha];rfl⟩
    case measure=>simp [intOf];omega
  ·obtain rfl:j=s.length:=by omega
   go_wp2
   go_ret
   rw[List.take_length] at ha
   exact⟨by rw[ha];rfl,rfl⟩
theorem letter (c:UInt8):(decide (97<=(c.toNat:Int))=true/\decide ((c.toNat:Int)<=122)=true/\nameB c=true)\/
  (decide (97<=(c.toNat:Int))=false/\decide (48<=(c.toNat:Int))=true/\decide ((c.toNat:Int)<=57)=true/\nameB c=true)\/
  (decide (97<=(c.toNat:Int))=false/\decide (48<=(c.toNat:Int))=false/\((c.toNat:Int)==45)=true/\nameB c=true)\/
  (decide (97<=(c.toNat:Int))=false/\decide (48<=(c.toNat:Int))=false/\((c.toNat:Int)==45)=false/\nameB c=false)\/
  (decide (97<=(c.toNat:Int))=false/\decide (48<=(c.toNat:Int))=true/\decide ((c.toNat:Int)<=57)=false/\((c.toNat:Int)==45)=false/\nameB c=false)\/
  (decide (97<=(c.toNat:Int))=true/\decide ((c.toNat:Int)<=122)=false/\decide (48<=(c.toNat:Int))=true/\decide ((c.toNat:Int)<=57)=false/\((c.toNat:Int)==45)=false/\nameB c=false):=by
 have hc:=UInt8.toNat_lt c
 unfold nameB
 generalize c.toNat=n at hc ⊢
 simp only[decide_eq_true_eq,decide_eq_false_iff_not,beq_iff_eq,beq_eq_false_iff_ne,Bool.or_eq_true,Bool.and_eq_true,Bool.or_eq_false_iff,Bool.and_eq_false_imp]
 omega
theorem RefName_any (s:List UInt8) (w:World):Calls Try.prog 68 #[.string (bstr s)] w (Says (nameF s) w):=by
  have hs:=bstr_size s
  unfold nameF
  by_cases h1:s.length<1
  · rw[decide_eq_false (by omega)]
    go_enter Try.func68,Try.ntmps68
    go_wp2
    go_ret
    exact⟨rfl,rfl⟩
  by_cases h2:12<s.length
  · rw[decide_eq_false (show ¬s.length<=12 by omega)]
    go_enter Try.func68,Try.ntmps68
    go_wp2
    go_ret
    exact⟨by simp,rfl⟩
  rw[decide_eq_true (show 1<=s.length by omega),decide_eq_true (show s.length<=12 by omega)]
  go_enter Try.func68,Try.ntmps68
  go_wp2
  go_loop [3] (fun i=> ∃j:Nat,j<=s.length/\i= .int .i64 j/\(s.take j).all nameB=true) (fun i=>s.length - (intOf i).toNat)
  case atStart=>exact⟨0,by omega,rfl,rfl⟩
  case round=>
    obtain⟨j,hj,rfl,ha⟩:=hrel
    by_cases hlt:j<s.length
    · have hget:=bstr_get s j hlt
      have HA:=hid (all_take_succ s j hlt)
      have HF:=hid (all_false_of s j hlt)
      have HL:=letter (s.getD j 0)
      generalize s.getD j 0=c at hget HA HF HL
      have yes:nameB c=true->(s.take (j+1)).all nameB=true:=fun hn=>by rw[HA.out,hn,ha];rfl
      have YES:=hid yes
      clear yes HA
      rcases HL with ⟨q1,q2,hn⟩ | ⟨q1,q2,q3,hn⟩ | ⟨q1,q2,q3,hn⟩ | ⟨q1,q2,q3,hn⟩ | ⟨q1,q2,q3,q4,hn⟩ | ⟨q1,q2,q3,q4,q5,hn⟩
      all_goals
        have HN:=hid hn
        clear hn
        go_wp2
        first
          | (go_ret
             exact⟨by rw[HF.out HN.out];rfl,rfl⟩)
          | (go_round
             case rel=>exact⟨j+1,by omega,by go_num,YES.out HN.out⟩
             case measure=>simp [intOf];omega)
    · obtain rfl:j=s.length:=by omega
      go_wp2
      go_ret
      rw[List.take_length] at ha
      exact⟨by rw[ha];rfl,rfl⟩
end Cm
end Go.Proofs.Ytlaomehfhooiaaa

/- Contracts: which commands and requests may be. -/
set_option linter.unusedVariables false
set_option linter.unusedSimpArgs false
namespace Go.Proofs.Ytlaomehfhooiaaa
open Lib (hid)
open Go.RowKit
namespace Cm

def cmdVal (c:CmdV):Value:=.agg #[.int .i64 c.kind,.int .i64 c.session,.string (bstr c.name)]
def reqVal (r:ReqV):Value:=.agg #[.int .i64 r.client,.int .i64 r.seq,.int .i64 r.cmd.kind,.int .i64 r.cmd.session,.string (bstr r.cmd.name)]
theorem bstr_empty (n:List UInt8):(bstr n).toList.isEmpty =decide (n= []):=by
 rw[ByteArray.toList_eq,bstr_toList]
 cases n<;>rfl
theorem May_any (c:CmdV) (w:World):Calls Try.prog 57 #[cmdVal c] w (SaysB (mayF c) w):=by
 obtain⟨k,s,n⟩:=c
 unfold cmdVal mayF
 dsimp only
 have C1:=hid (fun w=>isNumber_any s w)
 have C2:=hid (fun w=>Name_any n w)
 have E:=hid (bstr_empty n)
 by_cases h1:k=1
 ·subst h1
  rw[if_pos rfl]
  by_cases hs:s=0
  ·subst hs
   go_enter Try.func57,Try.ntmps57
   go_wp2
   go_ret
   exact⟨by rw[E.out];rfl,newAlloc _ _⟩
  ·have d:(s==0)=false:=by simpa using hs
   go_enter Try.func57,Try.ntmps57
   go_wp2
   go_ret
   exact⟨by simp [hs],newAlloc _ _⟩
 rw[if_neg h1]
 by_cases h2:k=2\/k=6
 ·rw[if_pos h2]
  clear h1
  rcases h2 with rfl | rfl
  all_goals
   cases hh:highF s 1
   all_goals
    have H:=hid hh
    clear hh
    go_enter Try.func57,Try.ntmps57
    go_wp2_with (go_at_call 56;refine(C1.out _).mono ?_;rw[H.out];rintro e w' ⟨rfl,rfl⟩)
    go_ret
    exact⟨by first | rfl | (rw[E.out];rfl),newAlloc _ _⟩
 rw[if_neg h2]
 by_cases h3:k=3\/k=4\/k=5
 ·rw[if_pos h3]
  clear h1 h2
  rcases h3 with rfl | rfl | rfl
  all_goals
   cases hh:highF s 1
   all_goals
    have H:=hid hh
    clear hh
    go_enter Try.func57,Try.ntmps57
    go_wp2_with (first
     | (go_at_call 56;refine(C1.out _).mono ?_;rw[H.out];rintro e w' ⟨rfl,rfl⟩)
     | (go_at_call 67;refine(C2.out _).mono ?_;rintro e w' ⟨rfl,rfl⟩))
    go_ret
    exact⟨by simp,newAlloc _ _⟩
 rw[if_neg h3]
 have d1:(k==1)=false:=by simp;omega
 have d2:(k==2)=false:=by simp;omega
 have d3:(k==3)=false:=by simp;omega
 have d4:(k==4)=false:=by simp;omega
 have d5:(k==5)=false:=by simp;omega
 have d6:(k==6)=false:=by simp;omega
 clear h1 h2 h3
 go_enter Try.func57,Try.ntmps57
 go_wp2
 go_ret
 exact⟨rfl,newAlloc _ _⟩
theorem RefMay_any (c:CmdV) (w:World):Calls Try.prog 61 #[cmdVal c] w (SaysB (mayF c) w):=by
 obtain⟨k,s,n⟩:=c
 unfold cmdVal mayF
 dsimp only
 have C1:=hid (fun w=>high_any s 1 w)
 have C2:=hid (fun w=>RefName_any n w)
 have E:=hid (bstr_empty n)
 by_cases h1:k=1
 ·subst h1
  rw[if_pos rfl]
  by_cases hs:s=0
  ·subst hs
   go_enter Try.func61,Try.ntmps61
   go_wp2
   go_ret
   exact⟨by rw[E.out];rfl,newAlloc _ _⟩
  ·have d:(s==0)=false:=by simpa using hs
   go_enter Try.func61,Try.ntmps61
   go_wp2
   go_ret
   exact⟨by simp [hs],newAlloc _ _⟩
 rw[if_neg h1]
 by_cases h2:k=2\/k=6
 ·rw[if_pos h2]
  clear h1
  rcases h2 with rfl | rfl
  all_goals
   cases hh:highF s 1
   all_goals
    have H:=hid hh
    clear hh
    go_enter Try.func61,Try.ntmps61
    go_wp2_with (go_at_call 60;refine(C1.out _).mono ?_;rw[H.out];rintro e w' ⟨rfl,rfl⟩)
    go_ret
    exact⟨by first | rfl | (rw[E.out];rfl),newAlloc _ _⟩
 rw[if_neg h2]
 by_cases h3:k=3\/k=4\/k=5
 ·rw[if_pos h3]
  clear h1 h2
  rcases h3 with rfl | rfl | rfl
  all_goals
   cases hh:highF s 1
   all_goals
    have H:=hid hh
    clear hh
    go_enter Try.func61,Try.ntmps61
    go_wp2_with (first
     | (go_at_call 60;refine(C1.out _).mono ?_;rw[H.out];rintro e w' ⟨rfl,rfl⟩)
     | (go_at_call 68;refine(C2.out _).mono ?_;rintro e w' ⟨rfl,rfl⟩))
    go_ret
    exact⟨by simp,newAlloc _ _⟩
 rw[if_neg h3]
 have d1:(k==1)=false:=by simp;omega
 have d2:(k==2)=false:=by simp;omega
 have d3:(k==3)=false:=by simp;omega
 have d4:(k==4)=false:=by simp;omega
 have d5:(k==5)=false:=by simp;omega
 have d6:(k==6)=false:=by simp;omega
 clear h1 h2 h3
 go_enter Try.func61,Try.ntmps61
 go_wp2
 go_ret
 exact⟨rfl,newAlloc _ _⟩
theorem MayReq_any (r:ReqV) (w:World):Calls Try.prog 39 #[reqVal r] w (SaysB (mayR r) w):=by
 obtain⟨c,q,m⟩:=r
 have C1:=hid (fun w=>isNumber_any q w)
 have C2:=hid (fun w=>May_any m w)
 unfold reqVal mayR
 unfold cmdVal at C2
 obtain⟨k,s,n⟩:=m
 dsimp only at C2 ⊢
 by_cases h0:0<=c
 ·have d0:decide (0<=c)=true:=decide_eq_true h0
  by_cases h1:c<8
  ·have d1:decide (c<8)=true:=decide_eq_true h1
   cases hh:highF q 1
   all_goals
    have H:=hid hh
    clear hh
    go_enter Try.func39,Try.ntmps39
    go_wp2_with (first
     | (go_at_call 56;refine(C1.out _).mono ?_;rw[H.out];rintro e w' ⟨rfl,rfl⟩)
     | (go_at_call 57;refine(C2.out _).mono ?_;rintro e w' ⟨rfl,hb⟩))
    go_ret
    first
     | exact⟨by simp [h0,h1],newAlloc _ _⟩
     | exact⟨by simp [h0,h1],step (newAlloc _ _) hb⟩
  ·have d1:decide (c<8)=false:=decide_eq_false h1
   go_enter Try.func39,Try.ntmps39
   go_wp2
   go_ret
   exact⟨by simp [h0,h1],newAlloc _ _⟩
 ·have d0:decide (0<=c)=false:=decide_eq_false h0
  go_enter Try.func39,Try.ntmps39
  go_wp2
  go_ret
  exact⟨by simp [h0],newAlloc _ _⟩
theorem RefMayReq_any (r:ReqV) (w:World):Calls Try.prog 43 #[reqVal r] w (SaysB (mayR r) w):=by
 obtain⟨c,q,m⟩:=r
 have C1:=hid (fun w=>high_any q 1 w)
 have C2:=hid (fun w=>RefMay_any m w)
 unfold reqVal mayR
 unfold cmdVal at C2
 obtain⟨k,s,n⟩:=m
 dsimp only at C2 ⊢
 by_cases h0:0<=c
 ·have d0:decide (0<=c)=true:=decide_eq_true h0
  by_cases h1:c<8
  ·have d1:decide (c<8)=true:=decide_eq_true h1
   cases hh:highF q 1
   all_goals
    have H:=hid hh
    clear hh
    go_enter Try.func43,Try.ntmps43
    go_wp2_with (first
     | (go_at_call 60;refine(C1.out _).mono ?_;rw[H.out];rintro e w' ⟨rfl,rfl⟩)
     | (go_at_call 61;refine(C2.out _).mono ?_;rintro e w' ⟨rfl,hb⟩))
    go_ret
    first
     | exact⟨by simp [h0,h1],newAlloc _ _⟩
     | exact⟨by simp [h0,h1],step (newAlloc _ _) hb⟩
  ·have d1:decide (c<8)=false:=decide_eq_false h1
   go_enter Try.func43,Try.ntmps43
   go_wp2
   go_ret
   exact⟨by simp [h0,h1],newAlloc _ _⟩
 ·have d0:decide (0<=c)=false:=decide_eq_false h0
  go_enter Try.func43,Try.ntmps43
  go_wp2
  go_ret
  exact⟨by simp [h0],newAlloc _ _⟩
end Cm
end Go.Proofs.Ytlaomehfhooiaaa
