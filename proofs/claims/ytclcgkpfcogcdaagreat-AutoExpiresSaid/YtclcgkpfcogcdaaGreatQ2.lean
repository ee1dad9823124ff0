/- Texts laid together by program. -/
import Derived.Test.YtclcgkpfcogcdaaGreatQ1
/- What package session answers, as plain functions over lists of sessions. No program is named here. -/
set_option linter.unusedVariables false
set_option maxRecDepth 8000
set_option linter.unusedSimpArgs false
namespace Go.Proofs.YtclcgkpfcogcdaaGreat
open Lib (hid)
open Go.RowKit
namespace Cm

structure SesV where
 client:Int
 num:Int
 ren:Int
def clientF (c:Int):Bool:=decide (0<=c) && decide (c<8)
def sesOk (pre:List SesV) (s:SesV):Bool:=
 clientF s.client && highF s.num 1 && highF s.ren 0 && (match pre.getLast? with | none=>true | some p=>decide (p.client<s.client)) && pre.all fun p=> !decide (p.num=s.num)
def rightGo (pre:List SesV):List SesV->Bool
 | []=>true
 | s::l=>sesOk pre s && rightGo (pre++ [s]) l
def rightS (l:List SesV):Bool:=decide (l.length<=5) && rightGo [] l
def zeroS:SesV:=⟨0,0,0⟩
def findS:List SesV->Int->SesV × Bool
 | [],_=>(zeroS,false)
 | s::l,c=>if s.client=c then (s,true) else findS l c
def takenS (l:List SesV) (c n:Int):Bool:=l.any fun s=>decide (s.num=n) && !decide (s.client=c)
def putS (x:SesV):List SesV->List SesV
 | []=> [x]
 | s::l=>if x.client<s.client then x::s::l else s::putS x l
def openS (l:List SesV) (c n t:Int):List SesV × Int:=
 if (clientF c && highF n 1 && highF t 0)=false then ([],1) else
 if takenS l c n=true then ([],1) else
 if (findS l c).2=true then ([],7) else
 if 5<=l.length then ([],5) else (putS ⟨c,n,t⟩ l,0)
def renewE (c t:Int) (s:SesV):SesV:=if s.client=c then ⟨s.client,s.num,if s.ren<t then t else s.ren⟩ else s
def renewS (l:List SesV) (c t:Int):List SesV × Int:=
 if highF t 0=false then ([],1) else if (findS l c).2=false then ([],6) else (l.map (renewE c t),0)
def closeS (l:List SesV) (c:Int):List SesV × Int:=
 if (findS l c).2=false then ([],6) else (l.filter (fun s=> !decide (s.client=c)),0)
def dueS (l:List SesV) (t d:Int):List Int:=
 if (highF t 0 && highF d 0)=false then [] else (l.filter fun s=>decide (d<=t - s.ren)).map (·.client)
/-! ### Putting in, one by one -/
def putE (x:SesV) (st:List SesV × Bool) (s:SesV):List SesV × Bool:=if !st.2 && decide (x.client<s.client) then (st.1++ [x]++ [s],true) else (st.1++ [s],st.2)
def putN (x:SesV) (l:List SesV) (j:Nat):List SesV × Bool:=(l.take j).foldl (putE x) ([],false)
def putEnd (x:SesV) (st:List SesV × Bool):List SesV:=if st.2 then st.1 else st.1++ [x]
theorem putE_done (x:SesV) (l:List SesV): ∀M,l.foldl (putE x) (M,true)=(M++l,true):=by
 induction l with
 | nil=>intro M;simp
 | cons s l ih=>
  intro M
  rw[List.foldl_cons]
  have:putE x (M,true) s=(M++ [s],true):=by simp [putE]
  rw[this,ih]
  simp
theorem putE_fold (x:SesV) (l:List SesV): ∀M,putEnd x (l.foldl (putE x) (M,false))=M++putS x l:=by
 induction l with
 | nil=>intro M;simp [putEnd,putS]
 | cons s l ih=>
  intro M
  rw[List.foldl_cons]
  unfold putS
  by_cases h:x.client<s.client
  ·have:putE x (M,false) s=(M++ [x]++ [s],true):=by simp [putE,h]
   rw[this,putE_done,if_pos h]
   simp [putEnd]
  ·have:putE x (M,false) s=(M++ [s],false):=by simp [putE,h]
   rw[this,ih,if_neg h]
   simp
theorem putN_all (x:SesV) (l:List SesV):putEnd x (putN x l l.length)=putS x l:=by
 unfold putN
 rw[List.take_length,putE_fold,List.nil_append]
theorem putN_zero (x:SesV) (l:List SesV):putN x l 0=([],false):=rfl
theorem putN_succ (x:SesV) (l:List SesV) (j:Nat) (h:j<l.length):putN x l (j+1)=putE x (putN x l j) l[j]:=by
 unfold putN
 rw[List.take_succ_eq_append_getElem h,List.foldl_append]
 rfl
theorem putN_length (x:SesV) (l:List SesV) (j:Nat) (h:j<=l.length):(putN x l j).1.length <=j+1/\((putN x l j).2=false->(putN x l j).1.length =j):=by
 induction j with
 | zero=>exact⟨by simp [putN_zero],fun _=>rfl⟩
 | succ j ih=>
  obtain⟨h1,h2⟩:=ih (by omega)
  rw[putN_succ x l j (by omega)]
  unfold putE
  by_cases hb:(putN x l j).2=true
  ·simp only[hb,Bool.not_true,Bool.false_and,Bool.false_eq_true,if_false]
   exact⟨by simp;omega,fun q=>by cases q⟩
  ·have hb:(putN x l j).2=false:=by simpa using hb
   have h3:=h2 hb
   simp only[hb,Bool.not_false,Bool.true_and]
   split
   ·exact⟨by simp;omega,fun q=>by cases q⟩
   ·exact⟨by simp;omega,fun _=>by simp;omega⟩
/-! ### Right lists, as a relation -/
def oneS (s:SesV):Bool:=clientF s.client && highF s.num 1 && highF s.ren 0
structure Rs (l:List SesV):Prop where
 one: ∀s∈l,oneS s=true
 up:l.Pairwise fun a b=>a.client<b.client
 num:l.Pairwise fun a b=>a.num≠b.num
theorem Rs.nil:Rs []:=⟨(fun s h=>by cases h),List.Pairwise.nil,List.Pairwise.nil⟩
theorem rs_snoc (pre:List SesV) (s:SesV):Rs (pre++ [s]) ↔ Rs pre/\oneS s=true/\(∀a∈pre,a.client<s.client)/\ ∀a∈pre,a.num≠s.num:=by
 constructor
 ·intro h
  obtain⟨u1,_,u3⟩:=List.pairwise_append.1 h.up
  obtain⟨n1,_,n3⟩:=List.pairwise_append.1 h.num
  exact⟨⟨fun x hx=>h.one x (List.mem_append_left _ hx),u1,n1⟩,h.one s (by simp),fun a ha=>u3 a ha s (by simp),fun a ha=>n3 a ha s (by simp)⟩
 ·rintro ⟨h,h1,h2,h3⟩
  refine⟨fun x hx=>?_,List.pairwise_append.2 ⟨h.up,List.pairwise_singleton _ _,fun a ha b hb=>?_⟩,List.pairwise_append.2 ⟨h.num,List.pairwise_singleton _ _,fun a ha b hb=>?_⟩⟩
  ·rcases List.mem_append.1 hx with q | q
   ·exact h.one x q
   ·rw[List.mem_singleton] at q;subst q;exact h1
  ·rw[List.mem_singleton] at hb;subst hb;exact h2 a ha
  ·rw[List.mem_singleton] at hb;subst hb;exact h3 a ha
theorem last_le (pre:List SesV) (p:SesV) (h:(pre++ [p]).Pairwise fun a b=>a.client<b.client): ∀a∈pre++ [p],a.client<=p.client:=by
 intro a ha
 obtain⟨_,_,h3⟩:=List.pairwise_append.1 h
 rcases List.mem_append.1 ha with q | q
 ·exact Int.le_of_lt (h3 a q p (by simp))
 ·rw[List.mem_singleton] at q;subst q;exact Int.le_refl _
theorem sesOk_iff (pre:List SesV) (s:SesV) (h:Rs pre):sesOk pre s=true ↔ Rs (pre++ [s]):=by
 rw[rs_snoc]
 unfold sesOk
 have hall:(pre.all fun p=> !decide (p.num=s.num))=true ↔ ∀a∈pre,a.num≠s.num:=by simp [List.all_eq_true]
 have hlast:(match pre.getLast? with | none=>true | some p=>decide (p.client<s.client))=true ↔ ∀a∈pre,a.client<s.client:=by
  rcases List.eq_nil_or_concat pre with rfl | ⟨q,p,rfl⟩
  ·simp
  ·rw[List.concat_eq_append] at h ⊢
   rw[List.getLast?_append]
   simp only[List.getLast?_singleton,Option.some_or,decide_eq_true_eq]
   constructor
   ·intro hp a ha
    have:=last_le q p h.up a ha
    omega
   ·intro hp
    exact hp p (by simp)
 unfold oneS
 rw[Bool.and_eq_true,Bool.and_eq_true,hall,hlast]
 constructor
 ·rintro ⟨⟨h1,h2⟩,h3⟩
  exact⟨h,h1,h2,h3⟩
 ·rintro ⟨_,h1,h2,h3⟩
  exact⟨⟨h1,h2⟩,h3⟩
theorem rightGo_iff (l:List SesV): ∀pre,Rs pre->(rightGo pre l=true ↔ Rs (pre++l)):=by
 induction l with
 | nil=>intro pre h;simp [rightGo,h]
 | cons s l ih=>
  intro pre h
  have e:pre++s::l=(pre++ [s])++l:=by simp
  unfold rightGo
  rw[Bool.and_eq_true,e]
  constructor
  ·rintro ⟨h1,h2⟩
   have h3:=(sesOk_iff pre s h).1 h1
   exact(ih _ h3).1 h2
  ·intro h1
   have h3:Rs (pre++ [s]):=⟨fun x hx=>h1.one x (List.mem_append_left _ hx),(List.pairwise_append.1 h1.up).1,(List.pairwise_append.1 h1.num).1⟩
   exact⟨(sesOk_iff pre s h).2 h3,(ih _ h3).2 h1⟩
theorem rightS_iff (l:List SesV):rightS l=true ↔ l.length<=5/\Rs l:=by
 unfold rightS
 rw[Bool.and_eq_true,decide_eq_true_eq,rightGo_iff l [] Rs.nil,List.nil_append]
theorem findS_none (l:List SesV) (c:Int):(findS l c).2=false ↔ ∀s∈l,s.client≠c:=by
 induction l with
 | nil=>simp [findS]
 | cons x l ih=>
  unfold findS
  by_cases h:x.client=c
  ·simp [h]
  ·simp [h,ih]
theorem takenS_none (l:List SesV) (c n:Int):takenS l c n=false ↔ ∀s∈l,s.num=n->s.client=c:=by
 unfold takenS
 rw[List.any_eq_false]
 simp
theorem putS_mem (x:SesV) (l:List SesV): ∀s,s∈putS x l ↔ s=x\/s∈l:=by
 induction l with
 | nil=>intro s;simp [putS]
 | cons y l ih=>
  intro s
  unfold putS
  split
  ·simp
  ·rw[List.mem_cons,ih,List.mem_cons]
   constructor
   ·rintro (h | h | h)
    ·exact .inr (.inl h)
    ·exact .inl h
    ·exact .inr (.inr h)
   ·rintro (h | h | h)
    ·exact .inr (.inl h)
    ·exact .inl h
    ·exact .inr (.inr h)
theorem putS_length (x:SesV) (l:List SesV):(putS x l).length =l.length+1:=by
 induction l with
 | nil=>rfl
 | cons y l ih=>
  unfold putS
  split
  ·simp
  ·simp [ih]
theorem putS_rs (x:SesV) (l:List SesV) (h:Rs l) (hx:oneS x=true) (hc: ∀s∈l,s.client≠x.client) (hn: ∀s∈l,s.num≠x.num):Rs (putS x l):=by
 refine⟨fun s hs=>?_,?_,?_⟩
 ·rcases (putS_mem x l s).1 hs with rfl | q
  ·exact hx
  ·exact h.one s q
 ·have hu:=h.up
  clear h hn
  induction l with
  | nil=>exact List.pairwise_singleton _ _
  | cons y l ih=>
   rw[List.pairwise_cons] at hu
   unfold putS
   split
   ·rename_i q
    refine List.pairwise_cons.2 ⟨fun b hb=>?_,List.pairwise_cons.2 hu⟩
    rcases List.mem_cons.1 hb with rfl | hb
    ·exact q
    ·have:=hu.1 b hb;omega
   ·rename_i q
    refine List.pairwise_cons.2 ⟨fun b hb=>?_,ih (fun s hs=>hc s (List.mem_cons_of_mem _ hs)) hu.2⟩
    rcases (putS_mem x l b).1 hb with rfl | hb
    ·have:=hc y List.mem_cons_self;omega
    ·exact hu.1 b hb
 ·have hu:=h.num
  clear h hc
  induction l with
  | nil=>exact List.pairwise_singleton _ _
  | cons y l ih=>
   rw[List.pairwise_cons] at hu
   unfold putS
   split
   ·refine List.pairwise_cons.2 ⟨fun b hb=>?_,List.pairwise_cons.2 hu⟩
    exact(hn b hb).symm
   ·refine List.pairwise_cons.2 ⟨fun b hb=>?_,ih (fun s hs=>hn s (List.mem_cons_of_mem _ hs)) hu.2⟩
    rcases (putS_mem x l b).1 hb with rfl | hb
    ·exact hn y List.mem_cons_self
    ·exact hu.1 b hb
theorem openS_right (l:List SesV) (c n t:Int) (h:rightS l=true) (ho:(openS l c n t).2=0):rightS (openS l c n t).1=true:=by
 obtain⟨hl,hr⟩:=(rightS_iff l).1 h
 unfold openS at ho ⊢
 split at ho
 ·cases ho
 rename_i q1
 split at ho
 ·cases ho
 rename_i q2
 split at ho
 ·cases ho
 rename_i q3
 split at ho
 ·cases ho
 rename_i q4
 rw[if_neg q1,if_neg q2,if_neg q3,if_neg q4]
 have q1:(clientF c && highF n 1 && highF t 0)=true:=by cases hq:(clientF c && highF n 1 && highF t 0)<;>simp_all
 have q2:=(takenS_none l c n).1 (by simpa using q2)
 have q3:=(findS_none l c).1 (by simpa using q3)
 refine(rightS_iff _).2 ⟨by rw[putS_length];omega,putS_rs _ _ hr (show oneS ⟨c,n,t⟩=true from q1) q3 fun s hs e=>q3 s hs (q2 s hs e)⟩
theorem renewE_keeps (c t:Int) (s:SesV):(renewE c t s).client =s.client/\(renewE c t s).num =s.num:=by
 unfold renewE
 split<;>exact⟨rfl,rfl⟩
theorem renewE_one (c t:Int) (s:SesV) (h:oneS s=true) (ht:highF t 0=true):oneS (renewE c t s)=true:=by
 unfold renewE
 split
 ·unfold oneS at h ⊢
  dsimp only
  split
  ·rw[Bool.and_eq_true] at h ⊢
   exact⟨h.1,ht⟩
  ·exact h
 ·exact h
theorem renewS_right (l:List SesV) (c t:Int) (h:rightS l=true) (ho:(renewS l c t).2=0):rightS (renewS l c t).1=true:=by
 obtain⟨hl,hr⟩:=(rightS_iff l).1 h
 unfold renewS at ho ⊢
 split at ho
 ·cases ho
 rename_i q1
 split at ho
 ·cases ho
 rename_i q2
 rw[if_neg q1,if_neg q2]
 have q1:highF t 0=true:=by simpa using q1
 refine(rightS_iff _).2 ⟨by rw[List.length_map];exact hl,fun s hs=>?_,?_,?_⟩
 ·obtain⟨x,hx,rfl⟩:=List.mem_map.1 hs
  exact renewE_one c t x (hr.one x hx) q1
 ·rw[List.pairwise_map]
  refine hr.up.imp fun {a b} q=>?_
  rw[(renewE_keeps c t a).1,(renewE_keeps c t b).1]
  exact q
 ·rw[List.pairwise_map]
  refine hr.num.imp fun {a b} q=>?_
  rw[(renewE_keeps c t a).2,(renewE_keeps c t b).2]
  exact q
end Cm
end Go.Proofs.YtclcgkpfcogcdaaGreat

/- What package cmd answers of requests, as plain functions over bytes. No program is named here. -/
set_option linter.unusedVariables false
set_option maxRecDepth 8000
set_option linter.unusedSimpArgs false
namespace Go.Proofs.YtclcgkpfcogcdaaGreat
open Lib (hid)
open Go.RowKit
namespace Cm

structure ReqV where
 client:Int
 seq:Int
 cmd:CmdV
def mayR (r:ReqV):Bool:=decide (0<=r.client) && decide (r.client<8) && highF r.seq 1 && mayF r.cmd
theorem mayR_bounds (r:ReqV) (h:mayR r=true):(0<=r.client/\r.client<=7)/\(1<=r.seq/\r.seq<=2305843009213693952)/\mayF r.cmd=true:=by
 unfold mayR highF at h
 simp at h
 obtain⟨⟨⟨h1,h2⟩,h3,h4⟩,h5⟩:=h
 exact⟨by omega,by omega,h5⟩
end Cm
end Go.Proofs.YtclcgkpfcogcdaaGreat

/- Contracts of package cmd, and of the document's answers for it: letters, numbers, names, commands that may be. -/
set_option linter.unusedVariables false
set_option maxRecDepth 8000
set_option linter.unusedSimpArgs false
namespace Go.Proofs.YtclcgkpfcogcdaaGreat
open Lib (hid)
open Go.RowKit
namespace Cm

def Says (r:Bool) (w:World) (e:Ending) (w':World):Prop:=e= .returned (.bool r)/\w=w'
def SaysB (r:Bool) (w:World) (e:Ending) (w':World):Prop:=e= .returned (.bool r)/\Below w.heap.size w w'
theorem Says.b {r:Bool} {w:World} {e:Ending} {w':World} (h:Says r w e w'):SaysB r w e w':=by
 obtain⟨h1,rfl⟩:=h
 exact⟨h1,Below.refl _ _⟩
theorem inName_any (c:UInt8) (w:World):Calls Tryz.prog 195 #[.int .u8 (c.toNat:Int)] w (Says (nameB c) w):=by
  have hc:=UInt8.toNat_lt c
  unfold nameB
  generalize c.toNat=n at hc ⊢
  by_cases h1:97<=n<;>by_cases h2:n<=122<;>by_cases h3:48<=n<;>by_cases h4:n<=57<;>by_cases h5:n=45<;>first
    | (exfalso;omega)
    | (go_enter Tryz.func195,Tryz.ntmps195
       go_wp2
       go_ret
       exact⟨by simp [h1,h2,h3,h4,h5]<;>omega,rfl⟩)
theorem isNumber_any (v:Int) (w:World):Calls Tryz.prog 111 #[.int .i64 v] w (Says (highF v 1) w):=by
  unfold highF
  by_cases h1:1<=v<;>by_cases h2:v<=2305843009213693952<;>
    (go_enter Tryz.func111,Tryz.ntmps111
     go_wp2
     go_ret
     exact⟨by simp [h1,h2]<;>omega,rfl⟩)
theorem high_any (v least:Int) (w:World):Calls Tryz.prog 124 #[.int .i64 v,.int .i64 least] w (Says (highF v least) w):=by
  unfold highF
  by_cases h1:least<=v<;>by_cases h2:v<=2305843009213693952<;>
    (go_enter Tryz.func124,Tryz.ntmps124
     go_wp2
     go_ret
     exact⟨by simp [h1,h2]<;>omega,rfl⟩)
theorem all_take_succ (s:List UInt8) (k:Nat) (h:k<s.length):(s.take (k+1)).all nameB=((s.take k).all nameB && nameB (s.getD k 0)):=by
 rw[List.take_succ_eq_append_getElem h,List.all_append]
 simp [List.getD,List.getElem?_eq_getElem h]
theorem all_false_of (s:List UInt8) (k:Nat) (h:k<s.length) (hb:nameB (s.getD k 0)=false):s.all nameB=false:=by
 rw[List.all_eq_false]
 have e:s.getD k 0=s[k]:=by simp [List.getD,List.getElem?_eq_getElem h]
 exact⟨s[k],List.getElem_mem h,by rw[<-e,hb];simp⟩
theorem bstr_get (s:List UInt8) (k:Nat) (h:k<s.length) (h':k<(bstr s).size):(bstr s)[k]'h'=s.getD k 0:=by
 simp only[List.getD,List.getElem?_eq_getElem h,Option.getD_some]
 rfl
theorem Name_any (s:List UInt8) (w:World):Calls Tryz.prog 153 #[.string (bstr s)] w (Says (nameF s) w):=by
 have hs:=bstr_size s
 unfold nameF
 by_cases h1:s.length<1
 ·rw[decide_eq_false (by omega)]
  go_enter Tryz.func153,Tryz.ntmps153
  go_wp2
  go_ret
  exact⟨rfl,rfl⟩
 by_cases h2:12<s.length
 ·rw[decide_eq_false (show ¬s.length<=12 by omega)]
  go_enter Tryz.func153,Tryz.ntmps153
  go_wp2
  go_ret
  exact⟨by simp,rfl⟩
 rw[decide_eq_true (show 1<=s.length by omega),decide_eq_true (show s.length<=12 by omega)]
 go_enter Tryz.func153,Tryz.ntmps153
 go_wp2
 go_loop [14] (fun i=> ∃j:Nat,j<=s.length/\i= .int .i64 j/\(s.take j).all nameB=true) (fun i=>s.length - (intOf i).toNat)
 case atStart=>exact⟨0,by omega,rfl,rfl⟩
 case round=>
  obtain⟨j,hj,rfl,ha⟩:=hrel
  by_cases hlt:j<s.length
  ·have hget:=bstr_get s j hlt
   have HA:=hid (all_take_succ s j hlt)
   have HF:=hid (all_false_of s j hlt)
   generalize s.getD j 0=c at hget HA HF
   cases hn:nameB c
   ·have HN:=hid hn
    clear hn
    go_wp2_with (go_at_call 195;refine(inName_any c _).mono ?_;rw[HN.out];rintro e w' ⟨rfl,rfl⟩)
    go_ret
    exact⟨by rw[HF.out HN.out];rfl,rfl⟩
   ·have HN:=hid hn
    clear hn
    go_wp2_with (go_at_call 195;refine(inName_any c _).mono ?_;rw[HN.out];rintro e w' ⟨rfl,rfl⟩)
    go_round
    case rel=>exact⟨j+1,by omega,by go_num,by rw[HA.out,HN.out,ha];rfl⟩
    case measure=>simp [intOf];omega
  ·obtain rfl:j=s.length:=by omega
   go_wp2
   go_ret
   rw[List.take_length] at ha
   exact⟨by rw[ha];rfl,rfl⟩
theorem letter (c:UInt8):(decide (97<=(c.toNat:Int))=true/\decide ((c.toNat:Int)<=122)=true/\nameB c=true)\/
  (decide (97<=(c.toNat:Int))=false/\decide (48<=(c.toNat:Int))=true/\decide ((c.toNat:Int)<=57)=true/\nameB c=true)\/
  (decide (97<=(c.toNat:Int))=false/\decide (48<=(c.toNat:Int))=false/\((c.toNat:Int)==45)=true/\nameB c=true)\/
  (decide (97<=(c.toNat:Int))=false/\decide (48<=(c.toNat:Int))=false/\((c.toNat:Int)==45)=false/\nameB c=false)\/
  (decide (97<=(c.toNat:Int))=false/\decide (48<=(c.toNat:Int))=true/\decide ((c.toNat:Int)<=57)=false/\((c.toNat:Int)==45)=false/\nameB c=false)\/
  (decide (97<=(c.toNat:Int))=true/\decide ((c.toNat:Int)<=122)=false/\decide (48<=(c.toNat:Int))=true/\decide ((c.toNat:Int)<=57)=false/\((c.toNat:Int)==45)=false/\nameB c=false):=by
 have hc:=UInt8.toNat_lt c
 unfold nameB
 generalize c.toNat=n at hc ⊢
 simp only[decide_eq_true_eq,decide_eq_false_iff_not,beq_iff_eq,beq_eq_false_iff_ne,Bool.or_eq_true,Bool.and_eq_true,Bool.or_eq_false_iff,Bool.and_eq_false_imp]
 omega
theorem RefName_any (s:List UInt8) (w:World):Calls Tryz.prog 103 #[.string (bstr s)] w (Says (nameF s) w):=by
  have hs:=bstr_size s
  unfold nameF
  by_cases h1:s.length<1
  · rw[decide_eq_false (by omega)]
    go_enter Tryz.func103,Tryz.ntmps103
    go_wp2
    go_ret
    exact⟨rfl,rfl⟩
  by_cases h2:12<s.length
  · rw[decide_eq_false (show ¬s.length<=12 by omega)]
    go_enter Tryz.func103,Tryz.ntmps103
    go_wp2
    go_ret
    exact⟨by simp,rfl⟩
  rw[decide_eq_true (show 1<=s.length by omega),decide_eq_true (show s.length<=12 by omega)]
  go_enter Tryz.func103,Tryz.ntmps103
  go_wp2
  go_loop [3] (fun i=> ∃j:Nat,j<=s.length/\i= .int .i64 j/\(s.take j).all nameB=true) (fun i=>s.length - (intOf i).toNat)
  case atStart=>exact⟨0,by omega,rfl,rfl⟩
  case round=>
    obtain⟨j,hj,rfl,ha⟩:=hrel
    by_cases hlt:j<s.length
    · have hget:=bstr_get s j hlt
      have HA:=hid (all_take_succ s j hlt)
      have HF:=hid (all_false_of s j hlt)
      have HL:=letter (s.getD j 0)
      generalize s.getD j 0=c at hget HA HF HL
      have yes:nameB c=true->(s.take (j+1)).all nameB=true:=fun hn=>by rw[HA.out,hn,ha];rfl
      have YES:=hid yes
      clear yes HA
      rcases HL with ⟨q1,q2,hn⟩ | ⟨q1,q2,q3,hn⟩ | ⟨q1,q2,q3,hn⟩ | ⟨q1,q2,q3,hn⟩ | ⟨q1,q2,q3,q4,hn⟩ | ⟨q1,q2,q3,q4,q5,hn⟩
      all_goals
        have HN:=hid hn
        clear hn
        go_wp2
        first
          | (go_ret
             exact⟨by rw[HF.out HN.out];rfl,rfl⟩)
          | (go_round
             case rel=>exact⟨j+1,by omega,by go_num,YES.out HN.out⟩
             case measure=>simp [intOf];omega)
    · obtain rfl:j=s.length:=by omega
      go_wp2
      go_ret
      rw[List.take_length] at ha
      exact⟨by rw[ha];rfl,rfl⟩
end Cm
end Go.Proofs.YtclcgkpfcogcdaaGreat

/- Contracts: which commands and requests may be. -/
set_option linter.unusedVariables false
set_option maxRecDepth 8000
set_option linter.unusedSimpArgs false
namespace Go.Proofs.YtclcgkpfcogcdaaGreat
open Lib (hid)
open Go.RowKit
namespace Cm

def cmdVal (c:CmdV):Value:=.agg #[.int .i64 c.kind,.int .i64 c.session,.string (bstr c.name)]
def reqVal (r:ReqV):Value:=.agg #[.int .i64 r.client,.int .i64 r.seq,.int .i64 r.cmd.kind,.int .i64 r.cmd.session,.string (bstr r.cmd.name)]
theorem bstr_empty (n:List UInt8):(bstr n).toList.isEmpty =decide (n= []):=by
 rw[ByteArray.toList_eq,bstr_toList]
 cases n<;>rfl
theorem May_any (c:CmdV) (w:World):Calls Tryz.prog 112 #[cmdVal c] w (SaysB (mayF c) w):=by
 obtain⟨k,s,n⟩:=c
 unfold cmdVal mayF
 dsimp only
 have C1:=hid (fun w=>isNumber_any s w)
 have C2:=hid (fun w=>Name_any n w)
 have E:=hid (bstr_empty n)
 by_cases h1:k=1
 ·subst h1
  rw[if_pos rfl]
  by_cases hs:s=0
  ·subst hs
   go_enter Tryz.func112,Tryz.ntmps112
   go_wp2
   go_ret
   exact⟨by rw[E.out];rfl,newAlloc _ _⟩
  ·have d:(s==0)=false:=by simpa using hs
   go_enter Tryz.func112,Tryz.ntmps112
   go_wp2
   go_ret
   exact⟨by simp [hs],newAlloc _ _⟩
 rw[if_neg h1]
 by_cases h2:k=2\/k=6
 ·rw[if_pos h2]
  clear h1
  rcases h2 with rfl | rfl
  all_goals
   cases hh:highF s 1
   all_goals
    have H:=hid hh
    clear hh
    go_enter Tryz.func112,Tryz.ntmps112
    go_wp2_with (go_at_call 111;refine(C1.out _).mono ?_;rw[H.out];rintro e w' ⟨rfl,rfl⟩)
    go_ret
    exact⟨by first | rfl | (rw[E.out];rfl),newAlloc _ _⟩
 rw[if_neg h2]
 by_cases h3:k=3\/k=4\/k=5
 ·rw[if_pos h3]
  clear h1 h2
  rcases h3 with rfl | rfl | rfl
  all_goals
   cases hh:highF s 1
   all_goals
    have H:=hid hh
    clear hh
    go_enter Tryz.func112,Tryz.ntmps112
    go_wp2_with (first
     | (go_at_call 111;refine(C1.out _).mono ?_;rw[H.out];rintro e w' ⟨rfl,rfl⟩)
     | (go_at_call 153;refine(C2.out _).mono ?_;rintro e w' ⟨rfl,rfl⟩))
    go_ret
    exact⟨by simp,newAlloc _ _⟩
 rw[if_neg h3]
 have d1:(k==1)=false:=by simp;omega
 have d2:(k==2)=false:=by simp;omega
 have d3:(k==3)=false:=by simp;omega
 have d4:(k==4)=false:=by simp;omega
 have d5:(k==5)=false:=by simp;omega
 have d6:(k==6)=false:=by simp;omega
 clear h1 h2 h3
 go_enter Tryz.func112,Tryz.ntmps112
 go_wp2
 go_ret
 exact⟨rfl,newAlloc _ _⟩
theorem RefMay_any (c:CmdV) (w:World):Calls Tryz.prog 125 #[cmdVal c] w (SaysB (mayF c) w):=by
 obtain⟨k,s,n⟩:=c
 unfold cmdVal mayF
 dsimp only
 have C1:=hid (fun w=>high_any s 1 w)
 have C2:=hid (fun w=>RefName_any n w)
 have E:=hid (bstr_empty n)
 by_cases h1:k=1
 ·subst h1
  rw[if_pos rfl]
  by_cases hs:s=0
  ·subst hs
   go_enter Tryz.func125,Tryz.ntmps125
   go_wp2
   go_ret
   exact⟨by rw[E.out];rfl,newAlloc _ _⟩
  ·have d:(s==0)=false:=by simpa using hs
   go_enter Tryz.func125,Tryz.ntmps125
   go_wp2
   go_ret
   exact⟨by simp [hs],newAlloc _ _⟩
 rw[if_neg h1]
 by_cases h2:k=2\/k=6
 ·rw[if_pos h2]
  clear h1
  rcases h2 with rfl | rfl
  all_goals
   cases hh:highF s 1
   all_goals
    have H:=hid hh
    clear hh
    go_enter Tryz.func125,Tryz.ntmps125
    go_wp2_with (go_at_call 124;refine(C1.out _).mono ?_;rw[H.out];rintro e w' ⟨rfl,rfl⟩)
    go_ret
    exact⟨by first | rfl | (rw[E.out];rfl),newAlloc _ _⟩
 rw[if_neg h2]
 by_cases h3:k=3\/k=4\/k=5
 ·rw[if_pos h3]
  clear h1 h2
  rcases h3 with rfl | rfl | rfl
  all_goals
   cases hh:highF s 1
   all_goals
    have H:=hid hh
    clear hh
    go_enter Tryz.func125,Tryz.ntmps125
    go_wp2_with (first
     | (go_at_call 124;refine(C1.out _).mono ?_;rw[H.out];rintro e w' ⟨rfl,rfl⟩)
     | (go_at_call 103;refine(C2.out _).mono ?_;rintro e w' ⟨rfl,rfl⟩))
    go_ret
    exact⟨by simp,newAlloc _ _⟩
 rw[if_neg h3]
 have d1:(k==1)=false:=by simp;omega
 have d2:(k==2)=false:=by simp;omega
 have d3:(k==3)=false:=by simp;omega
 have d4:(k==4)=false:=by simp;omega
 have d5:(k==5)=false:=by simp;omega
 have d6:(k==6)=false:=by simp;omega
 clear h1 h2 h3
 go_enter Tryz.func125,Tryz.ntmps125
 go_wp2
 go_ret
 exact⟨rfl,newAlloc _ _⟩
theorem MayReq_any (r:ReqV) (w:World):Calls Tryz.prog 57 #[reqVal r] w (SaysB (mayR r) w):=by
 obtain⟨c,q,m⟩:=r
 have C1:=hid (fun w=>isNumber_any q w)
 have C2:=hid (fun w=>May_any m w)
 unfold reqVal mayR
 unfold cmdVal at C2
 obtain⟨k,s,n⟩:=m
 dsimp only at C2 ⊢
 by_cases h0:0<=c
 ·have d0:decide (0<=c)=true:=decide_eq_true h0
  by_cases h1:c<8
  ·have d1:decide (c<8)=true:=decide_eq_true h1
   cases hh:highF q 1
   all_goals
    have H:=hid hh
    clear hh
    go_enter Tryz.func57,Tryz.ntmps57
    go_wp2_with (first
     | (go_at_call 111;refine(C1.out _).mono ?_;rw[H.out];rintro e w' ⟨rfl,rfl⟩)
     | (go_at_call 112;refine(C2.out _).mono ?_;rintro e w' ⟨rfl,hb⟩))
    go_ret
    first
     | exact⟨by simp [h0,h1],newAlloc _ _⟩
     | exact⟨by simp [h0,h1],step (newAlloc _ _) hb⟩
  ·have d1:decide (c<8)=false:=decide_eq_false h1
   go_enter Tryz.func57,Tryz.ntmps57
   go_wp2
   go_ret
   exact⟨by simp [h0,h1],newAlloc _ _⟩
 ·have d0:decide (0<=c)=false:=decide_eq_false h0
  go_enter Tryz.func57,Tryz.ntmps57
  go_wp2
  go_ret
  exact⟨by simp [h0],newAlloc _ _⟩
theorem RefMayReq_any (r:ReqV) (w:World):Calls Tryz.prog 62 #[reqVal r] w (SaysB (mayR r) w):=by
 obtain⟨c,q,m⟩:=r
 have C1:=hid (fun w=>high_any q 1 w)
 have C2:=hid (fun w=>RefMay_any m w)
 unfold reqVal mayR
 unfold cmdVal at C2
 obtain⟨k,s,n⟩:=m
 dsimp only at C2 ⊢
 by_cases h0:0<=c
 ·have d0:decide (0<=c)=true:=decide_eq_true h0
  by_cases h1:c<8
  ·have d1:decide (c<8)=true:=decide_eq_true h1
   cases hh:highF q 1
   all_goals
    have H:=hid hh
    clear hh
    go_enter Tryz.func62,Tryz.ntmps62
    go_wp2_with (first
     | (go_at_call 124;refine(C1.out _).mono ?_;rw[H.out];rintro e w' ⟨rfl,rfl⟩)
     | (go_at_call 125;refine(C2.out _).mono ?_;rintro e w' ⟨rfl,hb⟩))
    go_ret
    first
     | exact⟨by simp [h0,h1],newAlloc _ _⟩
     | exact⟨by simp [h0,h1],step (newAlloc _ _) hb⟩
  ·have d1:decide (c<8)=false:=decide_eq_false h1
   go_enter Tryz.func62,Tryz.ntmps62
   go_wp2
   go_ret
   exact⟨by simp [h0,h1],newAlloc _ _⟩
 ·have d0:decide (0<=c)=false:=decide_eq_false h0
  go_enter Tryz.func62,Tryz.ntmps62
  go_wp2
  go_ret
  exact⟨by simp [h0],newAlloc _ _⟩
end Cm
end Go.Proofs.YtclcgkpfcogcdaaGreat
