/- Texts laid together by program. -/
import Derived.WalkKit
import Derived.ProofKit
import Derived.Laws.BytesArg
import Derived.WalkLawsBesides
import Derived.WalkSpells
import Derived.Lib.Hide
import Derived.Lib.AppendStr
import Derived.Laws.AppendOwnNone
import Derived.Laws.OwnMore
import Derived.Laws.BitsAllLaws
import Derived.Test.YtbpmfjjbfiiiaaaProg
import Derived.Defers
import Derived.Recover
import Derived.Laws.Pointers
import Derived.Lib.AppendZeros
/- Byte lists in memory: what a slice of bytes reads as, and that it reads so later. No program is named here. -/
set_option linter.unusedVariables false
set_option maxRecDepth 8000
set_option linter.unusedSimpArgs false
namespace Go.Proofs.Ytbpmfjjbfiiiaaa
open Lib (hid)
open Go.RowKit

theorem step {a b c:World} (h:Below a.heap.size a b) (k:Below b.heap.size b c):Below a.heap.size a c:=h.trans (k.mono h.size)
theorem stepAlloc {a b:World} (h:Below a.heap.size a b) (o:Obj):Below a.heap.size a (b.alloc o):=h.alloc h.size o
theorem newAlloc (a:World) (o:Obj):Below a.heap.size a (a.alloc o):=(Below.refl _ _).alloc (Nat.le_refl _) o
structure Rd (w:World) (v:Value) (bs:List UInt8):Prop where
 ex: ∃a len cap,v= .slice a len cap/\bs.length=len/\len<=cap/\cap<=maxLen/\(a=none->len=0/\cap=0)/\
  ∀x,a=some x->0<len->x.spot=none/\ ∀i,i<len->w.cell? ⟨x.block,x.off+i,none⟩=some (.int .u8 (bs.getD i 0).toNat)
theorem lt_of_cell {w:World} {a:Addr} {v:Value} (h:w.cell? a=some v):a.block<w.heap.size:=by
 unfold World.cell? at h
 rcases Nat.lt_or_ge a.block w.heap.size with g | g
 ·exact g
 ·rw[Array.getElem?_eq_none g] at h;simp at h
theorem Rd.later {w w':World} {v:Value} {bs:List UInt8} (h:Rd w v bs) (hb:Below w.heap.size w w'):Rd w' v bs:=by
 obtain⟨a,len,cap,hv,hl,hc,hm,hn,hx⟩:=h.ex
 refine⟨a,len,cap,hv,hl,hc,hm,hn,fun x ha hp=>?_⟩
 obtain⟨hs,hi⟩:=hx x ha hp
 refine⟨hs,fun i h=>?_⟩
 rw[hb.cell (lt_of_cell (hi i h))]
 exact hi i h
def val (l:List UInt8):Nat:=l.foldl (fun a x=>a*256+x.toNat) 0
def IsRow (k:IntKind) (w:World) (a:Option Addr) (len cap:Nat) (zs:List Int):Prop:=
 (a=none/\len=0/\cap=0/\zs= [])\/
 ∃x,a=some x/\len<=cap/\cap<=maxLen/\zs.length=cap/\(∀i,i<zs.length->w.cell? (x.add i)=some (.int k (zs.getD i 0)))/\ ∀n∈zs,(Lit.int k n).wf =true
def bytesOf (zs:List Int) (len:Nat):List UInt8:=(zs.take len).map fun n=>UInt8.ofNat n.toNat
theorem IsRow.rd {w:World} {a:Option Addr} {len cap:Nat} {zs:List Int} (h:IsRow .u8 w a len cap zs):Rd w (.slice a len cap) (bytesOf zs len)/\(bytesOf zs len).length =len:=by
 rcases h with ⟨rfl,rfl,rfl,rfl⟩ | ⟨x,rfl,hl,hm,hz,hcell,hwz⟩
 ·exact⟨⟨none,0,0,rfl,rfl,Nat.le_refl _,by unfold maxLen;omega,fun _=>⟨rfl,rfl⟩,fun x hx=>by cases hx⟩,rfl⟩
 ·have hlen:(bytesOf zs len).length =len:=by unfold bytesOf;simp;omega
  refine⟨⟨some x,len,cap,rfl,hlen,hl,hm,(fun q=>by cases q),fun y hy hp=>?_⟩,hlen⟩
  cases hy
  obtain⟨b,off,spot⟩:=x
  have hc:=hcell 0 (by omega)
  have hspot:spot=none:=by simpa [Addr.add] using World.cell?_spot hc
  subst hspot
  refine⟨rfl,fun i hi=>?_⟩
  have hadd:(⟨b,off,none⟩:Addr).add i=⟨b,off+i,none⟩:=by unfold Addr.add;split<;>simp_all
  have:=hcell i (by omega)
  rw[hadd] at this
  rw[this]
  have hiz:i<zs.length:=by omega
  have hw:=hwz zs[i] (List.getElem_mem hiz)
  have hb:0<=zs[i]/\zs[i]<=255:=by simpa [Lit.wf,IntKind.min,IntKind.max,IntKind.signed,IntKind.bits] using hw
  have e:(bytesOf zs len).getD i 0=UInt8.ofNat (zs[i]).toNat :=by
   unfold bytesOf
   simp [List.getD,List.getElem?_map,List.getElem?_take,hi,List.getElem?_eq_getElem hiz]
  rw[e]
  have e2:zs.getD i 0=zs[i]:=by simp [List.getD,List.getElem?_eq_getElem hiz]
  rw[e2]
  have e3:((UInt8.ofNat (zs[i]).toNat).toNat :Int)=zs[i]:=by
   simp;omega
  rw[e3]
def bstr (l:List UInt8):ByteArray:=⟨l.toArray⟩
theorem bstr_toList (l:List UInt8):(bstr l).data.toList =l:=rfl
theorem bstr_size (l:List UInt8):(bstr l).size =l.length:=rfl
section
variable {P : Program} (w : World)
end

def cellsOf (bs:List UInt8):List Value:=bs.map fun u=>.int .u8 (u.toNat:Int)
theorem Rd.own {w:World} {base:Nat} {e:TypeId} {v:Value} {bs:List UInt8} (h:w.ownsRow base e 1 v bs.length (cellsOf bs)):Rd w v bs:=by
 rcases h.2 with ⟨rfl,hn⟩ | ⟨g,cap,cur,rfl,hb,hg,hn,hc,hs,ht⟩
 ·have:bs= []:=List.length_eq_zero_iff.1 hn
  exact⟨none,0,0,rfl,hn,Nat.le_refl _,by unfold maxLen;omega,fun _=>⟨rfl,rfl⟩,fun x hx=>by cases hx⟩
 ·refine⟨some ⟨g,0,none⟩,bs.length,cap,rfl,rfl,hn,hc,(fun h=>by cases h),fun x hx hp=>?_⟩
  cases hx
  refine⟨rfl,fun i hi=>?_⟩
  rw[h.cellAt (0+i) (by omega)]
  simp [cellsOf,List.getElem?_eq_getElem hi]
section
variable {P : Program} {w : World}
end

end Go.Proofs.Ytbpmfjjbfiiiaaa

/- What is owned and written over; what was put and is read again. -/
set_option linter.unusedVariables false
set_option maxRecDepth 8000
set_option linter.unusedSimpArgs false
namespace Go.Proofs.Ytbpmfjjbfiiiaaa
open Lib (hid)
open Go.RowKit

theorem Rd.pre {w:World} {g N cap m:Nat} {T:List UInt8} (h:Rd w (.slice (some ⟨g,0,none⟩) N cap) T) (hm:m<=N):Rd w (.slice (some ⟨g,0,none⟩) m cap) (T.take m):=by
 obtain⟨a,len,c,hv,hl,hc,hmx,hn,hx⟩:=h.ex
 cases hv
 refine⟨some ⟨g,0,none⟩,m,cap,rfl,by simp;omega,by omega,hmx,(fun q=>by cases q),fun x hx' hp=>?_⟩
 cases hx'
 refine⟨rfl,fun i hi=>?_⟩
 have:=(hx _ rfl (by omega)).2 i (by omega)
 rw[this]
 have e:(T.take m).getD i 0=T.getD i 0:=by simp [List.getD,List.getElem?_take,hi]
 rw[e]
end Go.Proofs.Ytbpmfjjbfiiiaaa

/- What package cmd answers, as plain functions over bytes: names, commands, requests; what is put is read as it was. No program is named here. -/
set_option linter.unusedVariables false
set_option maxRecDepth 8000
set_option linter.unusedSimpArgs false
namespace Go.Proofs.Ytbpmfjjbfiiiaaa
open Lib (hid)
open Go.RowKit

namespace Cm

structure CmdV where
 kind:Int
 session:Int
 name:List UInt8
def zero:CmdV:=⟨0,0,[]⟩
def nameB (c:UInt8):Bool:=(decide (97<=c.toNat) && decide (c.toNat<=122)) || (decide (48<=c.toNat) && decide (c.toNat<=57)) || decide (c.toNat=45)
def nameF (s:List UInt8):Bool:=decide (1<=s.length) && decide (s.length<=12) && s.all nameB
def highF (v least:Int):Bool:=decide (least<=v) && decide (v<=2305843009213693952)
def mayF (c:CmdV):Bool:=
 if c.kind=1 then decide (c.session=0) && decide (c.name= [])
 else if c.kind=2\/c.kind=6 then highF c.session 1 && decide (c.name= [])
 else if c.kind=3\/c.kind=4\/c.kind=5 then highF c.session 1 && nameF c.name
 else false
end Cm
end Go.Proofs.Ytbpmfjjbfiiiaaa

/- What package cmd answers of requests, as plain functions over bytes. No program is named here. -/
set_option linter.unusedVariables false
set_option maxRecDepth 8000
set_option linter.unusedSimpArgs false
namespace Go.Proofs.Ytbpmfjjbfiiiaaa
open Lib (hid)
open Go.RowKit
namespace Cm

structure ReqV where
 client:Int
 seq:Int
 cmd:CmdV
def mayR (r:ReqV):Bool:=decide (0<=r.client) && decide (r.client<8) && highF r.seq 1 && mayF r.cmd
end Cm
end Go.Proofs.Ytbpmfjjbfiiiaaa

/- What package batch answers, as plain functions over bytes; what is put is read as it was; what is read determines its bytes. No program is named here. -/
set_option linter.unusedVariables false
set_option maxRecDepth 8000
set_option linter.unusedSimpArgs false
namespace Go.Proofs.Ytbpmfjjbfiiiaaa
open Lib (hid)
open Go.RowKit
namespace Cm

structure BatV where
 fill:Bool
 view:Int
 tv:Int
 ts:Int
 time:Int
 reqs:List ReqV
def zeroB:BatV:=⟨false,0,0,0,0,[]⟩
def fillB:BatV:=⟨true,0,0,0,0,[]⟩
def hasC (l:List ReqV) (c:Int):Bool:=l.any fun r=>decide (r.client=c)
def okR:List ReqV->List ReqV->Bool
 | _,[]=>true
 | p,r::l=>mayR r && !hasC p r.client && okR (p++ [r]) l
def reqsF (l:List ReqV):Bool:=decide (l.length<=3) && okR [] l
theorem okR_step (l:List ReqV) (i:Nat) (h:i<l.length):okR (l.take i) (l.drop i)=(mayR l[i] && !hasC (l.take i) l[i].client && okR (l.take (i+1)) (l.drop (i+1))):=by
 rw[List.drop_eq_getElem_cons h,okR,List.take_succ_eq_append_getElem h]
def mayB (b:BatV):Bool:=
 if b.fill then decide (b.view=0) && (decide (b.tv=0) && decide (b.ts=0)) && decide (b.time=0) && decide (b.reqs.length=0)
 else highF b.view 0 && highF b.tv 0 && highF b.ts 0 && highF b.time 0 && reqsF b.reqs
def eqR (a b:ReqV):Bool:=decide (a.client=b.client) && decide (a.seq=b.seq) && (decide (a.cmd.kind=b.cmd.kind) && decide (a.cmd.session=b.cmd.session) && decide (a.cmd.name=b.cmd.name))
theorem eqR_iff (a b:ReqV):eqR a b=true ↔ a=b:=by
 obtain⟨a1,a2,a3,a4,a5⟩:=a
 obtain⟨b1,b2,b3,b4,b5⟩:=b
 simp [eqR]
 constructor
 ·rintro ⟨⟨h1,h2⟩,⟨h3,h4⟩,h5⟩
  exact⟨h1,h2,h3,h4,h5⟩
 ·rintro ⟨h1,h2,h3,h4,h5⟩
  exact⟨⟨h1,h2⟩,⟨h3,h4⟩,h5⟩
def sameRs:List ReqV->List ReqV->Bool
 | [],[]=>true
 | x::l,y::m=>eqR x y && sameRs l m
 | _,_=>false
theorem sameRs_iff: ∀a b:List ReqV,sameRs a b=true ↔ a=b
 | [],[]=>by simp [sameRs]
 | x::l,y::m=>by rw[sameRs,Bool.and_eq_true,eqR_iff,sameRs_iff l m,List.cons.injEq]
 | [],_::_=>by simp [sameRs]
 | _::_,[]=>by simp [sameRs]
theorem sameRs_len (a b:List ReqV) (h:a.length≠b.length):sameRs a b=false:=by
 cases q:sameRs a b
 ·rfl
 ·rw[(sameRs_iff a b).1 q] at h
  exact absurd rfl h
theorem sameRs_step (a b:List ReqV) (i:Nat) (ha:i<a.length) (hb:i<b.length):sameRs (a.drop i) (b.drop i)=(eqR a[i] b[i] && sameRs (a.drop (i+1)) (b.drop (i+1))):=by
 rw[List.drop_eq_getElem_cons ha,List.drop_eq_getElem_cons hb,sameRs]
theorem sameRs_end (a b:List ReqV) (i:Nat) (ha:a.length<=i) (hb:b.length<=i):sameRs (a.drop i) (b.drop i)=true:=by
 rw[List.drop_eq_nil_of_le ha,List.drop_eq_nil_of_le hb]
 rfl
def sameB (a b:BatV):Bool:=decide (a.fill=b.fill) && decide (a.view=b.view) && (decide (a.tv=b.tv) && decide (a.ts=b.ts)) && decide (a.time=b.time) && sameRs a.reqs b.reqs
theorem sameB_iff (a b:BatV):sameB a b=true ↔ a=b:=by
 obtain⟨a1,a2,a3,a4,a5,a6⟩:=a
 obtain⟨b1,b2,b3,b4,b5,b6⟩:=b
 simp [sameB,sameRs_iff]
 constructor
 ·rintro ⟨⟨⟨⟨h1,h2⟩,h3,h4⟩,h5⟩,h6⟩
  exact⟨h1,h2,h3,h4,h5,h6⟩
 ·rintro ⟨h1,h2,h3,h4,h5,h6⟩
  exact⟨⟨⟨⟨h1,h2⟩,h3,h4⟩,h5⟩,h6⟩
def batOf (l:List Int) (q:List ReqV):BatV:=⟨false,l.getD 0 0,l.getD 1 0,l.getD 2 0,l.getD 3 0,q⟩
end Cm
end Go.Proofs.Ytbpmfjjbfiiiaaa

/- Contracts of package cmd, and of the document's answers for it: letters, numbers, names, commands that may be. -/
set_option linter.unusedVariables false
set_option maxRecDepth 8000
set_option linter.unusedSimpArgs false
namespace Go.Proofs.Ytbpmfjjbfiiiaaa
open Lib (hid)
open Go.RowKit
namespace Cm

def Says (r:Bool) (w:World) (e:Ending) (w':World):Prop:=e= .returned (.bool r)/\w=w'
def SaysB (r:Bool) (w:World) (e:Ending) (w':World):Prop:=e= .returned (.bool r)/\Below w.heap.size w w'
theorem Says.b {r:Bool} {w:World} {e:Ending} {w':World} (h:Says r w e w'):SaysB r w e w':=by
 obtain⟨h1,rfl⟩:=h
 exact⟨h1,Below.refl _ _⟩
theorem inName_any (c:UInt8) (w:World):Calls Try.prog 78 #[.int .u8 (c.toNat:Int)] w (Says (nameB c) w):=by
  have hc:=UInt8.toNat_lt c
  unfold nameB
  generalize c.toNat=n at hc ⊢
  by_cases h1:97<=n<;>by_cases h2:n<=122<;>by_cases h3:48<=n<;>by_cases h4:n<=57<;>by_cases h5:n=45<;>first
    | (exfalso;omega)
    | (go_enter Try.func78,Try.ntmps78
       go_wp2
       go_ret
       exact⟨by simp [h1,h2,h3,h4,h5]<;>omega,rfl⟩)
theorem isNumber_any (v:Int) (w:World):Calls Try.prog 58 #[.int .i64 v] w (Says (highF v 1) w):=by
  unfold highF
  by_cases h1:1<=v<;>by_cases h2:v<=2305843009213693952<;>
    (go_enter Try.func58,Try.ntmps58
     go_wp2
     go_ret
     exact⟨by simp [h1,h2]<;>omega,rfl⟩)
theorem high_any (v least:Int) (w:World):Calls Try.prog 83 #[.int .i64 v,.int .i64 least] w (Says (highF v least) w):=by
  unfold highF
  by_cases h1:least<=v<;>by_cases h2:v<=2305843009213693952<;>
    (go_enter Try.func83,Try.ntmps83
     go_wp2
     go_ret
     exact⟨by simp [h1,h2]<;>omega,rfl⟩)
theorem all_take_succ (s:List UInt8) (k:Nat) (h:k<s.length):(s.take (k+1)).all nameB=((s.take k).all nameB && nameB (s.getD k 0)):=by
 rw[List.take_succ_eq_append_getElem h,List.all_append]
 simp [List.getD,List.getElem?_eq_getElem h]
theorem all_false_of (s:List UInt8) (k:Nat) (h:k<s.length) (hb:nameB (s.getD k 0)=false):s.all nameB=false:=by
 rw[List.all_eq_false]
 have e:s.getD k 0=s[k]:=by simp [List.getD,List.getElem?_eq_getElem h]
 exact⟨s[k],List.getElem_mem h,by rw[<-e,hb];simp⟩
theorem bstr_get (s:List UInt8) (k:Nat) (h:k<s.length) (h':k<(bstr s).size):(bstr s)[k]'h'=s.getD k 0:=by
 simp only[List.getD,List.getElem?_eq_getElem h,Option.getD_some]
 rfl
theorem Name_any (s:List UInt8) (w:World):Calls Try.prog 69 #[.string (bstr s)] w (Says (nameF s) w):=by
 have hs:=bstr_size s
 unfold nameF
 by_cases h1:s.length<1
 ·rw[decide_eq_false (by omega)]
  go_enter Try.func69,Try.ntmps69
  go_wp2
  go_ret
  exact⟨rfl,rfl⟩
 by_cases h2:12<s.length
 ·rw[decide_eq_false (show ¬s.length<=12 by omega)]
  go_enter Try.func69,Try.ntmps69
  go_wp2
  go_ret
  exact⟨by simp,rfl⟩
 rw[decide_eq_true (show 1<=s.length by omega),decide_eq_true (show s.length<=12 by omega)]
 go_enter Try.func69,Try.ntmps69
 go_wp2
 go_loop [14] (fun i=> ∃j:Nat,j<=s.length/\i= .int .i64 j/\(s.take j).all nameB=true) (fun i=>s.length - (intOf i).toNat)
 case atStart=>exact⟨0,by omega,rfl,rfl⟩
 case round=>
  obtain⟨j,hj,rfl,ha⟩:=hrel
  by_cases hlt:j<s.length
  ·have hget:=bstr_get s j hlt
   have HA:=hid (all_take_succ s j hlt)
   have HF:=hid (all_false_of s j hlt)
   generalize s.getD j 0=c at hget HA HF
   cases hn:nameB c
   ·have HN:=hid hn
    clear hn
    go_wp2_with (go_at_call 78;refine(inName_any c _).mono ?_;rw[HN.out];rintro e w' ⟨rfl,rfl⟩)
    go_ret
    exact⟨by rw[HF.out HN.out];rfl,rfl⟩
   ·have HN:=hid hn
    clear hn
    go_wp2_with (go_at_call 78;refine(inName_any c _).mono ?_;rw[HN.out];rintro e w' ⟨rfl,rfl⟩)
    go_round
    case rel=>exact⟨j+1,by omega,by go_num,by rw[HA.out,HN.out,ha];rfl⟩
    case measure=>simp [intOf];omega
  ·obtain rfl:j=s.length:=by omega
   go_wp2
   go_ret
   rw[List.take_length] at ha
   exact⟨by rw[ha];rfl,rfl⟩
theorem letter (c:UInt8):(decide (97<=(c.toNat:Int))=true/\decide ((c.toNat:Int)<=122)=true/\nameB c=true)\/
  (decide (97<=(c.toNat:Int))=false/\decide (48<=(c.toNat:Int))=true/\decide ((c.toNat:Int)<=57)=true/\nameB c=true)\/
  (decide (97<=(c.toNat:Int))=false/\decide (48<=(c.toNat:Int))=false/\((c.toNat:Int)==45)=true/\nameB c=true)\/
  (decide (97<=(c.toNat:Int))=false/\decide (48<=(c.toNat:Int))=false/\((c.toNat:Int)==45)=false/\nameB c=false)\/
  (decide (97<=(c.toNat:Int))=false/\decide (48<=(c.toNat:Int))=true/\decide ((c.toNat:Int)<=57)=false/\((c.toNat:Int)==45)=false/\nameB c=false)\/
  (decide (97<=(c.toNat:Int))=true/\decide ((c.toNat:Int)<=122)=false/\decide (48<=(c.toNat:Int))=true/\decide ((c.toNat:Int)<=57)=false/\((c.toNat:Int)==45)=false/\nameB c=false):=by
 have hc:=UInt8.toNat_lt c
 unfold nameB
 generalize c.toNat=n at hc ⊢
 simp only[decide_eq_true_eq,decide_eq_false_iff_not,beq_iff_eq,beq_eq_false_iff_ne,Bool.or_eq_true,Bool.and_eq_true,Bool.or_eq_false_iff,Bool.and_eq_false_imp]
 omega
theorem RefName_any (s:List UInt8) (w:World):Calls Try.prog 88 #[.string (bstr s)] w (Says (nameF s) w):=by
  have hs:=bstr_size s
  unfold nameF
  by_cases h1:s.length<1
  · rw[decide_eq_false (by omega)]
    go_enter Try.func88,Try.ntmps88
    go_wp2
    go_ret
    exact⟨rfl,rfl⟩
  by_cases h2:12<s.length
  · rw[decide_eq_false (show ¬s.length<=12 by omega)]
    go_enter Try.func88,Try.ntmps88
    go_wp2
    go_ret
    exact⟨by simp,rfl⟩
  rw[decide_eq_true (show 1<=s.length by omega),decide_eq_true (show s.length<=12 by omega)]
  go_enter Try.func88,Try.ntmps88
  go_wp2
  go_loop [3] (fun i=> ∃j:Nat,j<=s.length/\i= .int .i64 j/\(s.take j).all nameB=true) (fun i=>s.length - (intOf i).toNat)
  case atStart=>exact⟨0,by omega,rfl,rfl⟩
  case round=>
    obtain⟨j,hj,rfl,ha⟩:=hrel
    by_cases hlt:j<s.length
    · have hget:=bstr_get s j hlt
      have HA:=hid (all_take_succ s j hlt)
      have HF:=hid (all_false_of s j hlt)
      have HL:=letter (s.getD j 0)
      generalize s.getD j 0=c at hget HA HF HL
      have yes:nameB c=true->(s.take (j+1)).all nameB=true:=fun hn=>by rw[HA.out,hn,ha];rfl
      have YES:=hid yes
      clear yes HA
      rcases HL with ⟨q1,q2,hn⟩ | ⟨q1,q2,q3,hn⟩ | ⟨q1,q2,q3,hn⟩ | ⟨q1,q2,q3,hn⟩ | ⟨q1,q2,q3,q4,hn⟩ | ⟨q1,q2,q3,q4,q5,hn⟩
      all_goals
        have HN:=hid hn
        clear hn
        go_wp2
        first
          | (go_ret
             exact⟨by rw[HF.out HN.out];rfl,rfl⟩)
          | (go_round
             case rel=>exact⟨j+1,by omega,by go_num,YES.out HN.out⟩
             case measure=>simp [intOf];omega)
    · obtain rfl:j=s.length:=by omega
      go_wp2
      go_ret
      rw[List.take_length] at ha
      exact⟨by rw[ha];rfl,rfl⟩
end Cm
end Go.Proofs.Ytbpmfjjbfiiiaaa

/- Contracts: which commands and requests may be. -/
set_option linter.unusedVariables false
set_option maxRecDepth 8000
set_option linter.unusedSimpArgs false
namespace Go.Proofs.Ytbpmfjjbfiiiaaa
open Lib (hid)
open Go.RowKit
namespace Cm

def cmdVal (c:CmdV):Value:=.agg #[.int .i64 c.kind,.int .i64 c.session,.string (bstr c.name)]
def reqVal (r:ReqV):Value:=.agg #[.int .i64 r.client,.int .i64 r.seq,.int .i64 r.cmd.kind,.int .i64 r.cmd.session,.string (bstr r.cmd.name)]
theorem bstr_empty (n:List UInt8):(bstr n).toList.isEmpty =decide (n= []):=by
 rw[ByteArray.toList_eq,bstr_toList]
 cases n<;>rfl
theorem May_any (c:CmdV) (w:World):Calls Try.prog 59 #[cmdVal c] w (SaysB (mayF c) w):=by
 obtain⟨k,s,n⟩:=c
 unfold cmdVal mayF
 dsimp only
 have C1:=hid (fun w=>isNumber_any s w)
 have C2:=hid (fun w=>Name_any n w)
 have E:=hid (bstr_empty n)
 by_cases h1:k=1
 ·subst h1
  rw[if_pos rfl]
  by_cases hs:s=0
  ·subst hs
   go_enter Try.func59,Try.ntmps59
   go_wp2
   go_ret
   exact⟨by rw[E.out];rfl,newAlloc _ _⟩
  ·have d:(s==0)=false:=by simpa using hs
   go_enter Try.func59,Try.ntmps59
   go_wp2
   go_ret
   exact⟨by simp [hs],newAlloc _ _⟩
 rw[if_neg h1]
 by_cases h2:k=2\/k=6
 ·rw[if_pos h2]
  clear h1
  rcases h2 with rfl | rfl
  all_goals
   cases hh:highF s 1
   all_goals
    have H:=hid hh
    clear hh
    go_enter Try.func59,Try.ntmps59
    go_wp2_with (go_at_call 58;refine(C1.out _).mono ?_;rw[H.out];rintro e w' ⟨rfl,rfl⟩)
    go_ret
    exact⟨by first | rfl | (rw[E.out];rfl),newAlloc _ _⟩
 rw[if_neg h2]
 by_cases h3:k=3\/k=4\/k=5
 ·rw[if_pos h3]
  clear h1 h2
  rcases h3 with rfl | rfl | rfl
  all_goals
   cases hh:highF s 1
   all_goals
    have H:=hid hh
    clear hh
    go_enter Try.func59,Try.ntmps59
    go_wp2_with (first
     | (go_at_call 58;refine(C1.out _).mono ?_;rw[H.out];rintro e w' ⟨rfl,rfl⟩)
     | (go_at_call 69;refine(C2.out _).mono ?_;rintro e w' ⟨rfl,rfl⟩))
    go_ret
    exact⟨by simp,newAlloc _ _⟩
 rw[if_neg h3]
 have d1:(k==1)=false:=by simp;omega
 have d2:(k==2)=false:=by simp;omega
 have d3:(k==3)=false:=by simp;omega
 have d4:(k==4)=false:=by simp;omega
 have d5:(k==5)=false:=by simp;omega
 have d6:(k==6)=false:=by simp;omega
 clear h1 h2 h3
 go_enter Try.func59,Try.ntmps59
 go_wp2
 go_ret
 exact⟨rfl,newAlloc _ _⟩
theorem RefMay_any (c:CmdV) (w:World):Calls Try.prog 84 #[cmdVal c] w (SaysB (mayF c) w):=by
 obtain⟨k,s,n⟩:=c
 unfold cmdVal mayF
 dsimp only
 have C1:=hid (fun w=>high_any s 1 w)
 have C2:=hid (fun w=>RefName_any n w)
 have E:=hid (bstr_empty n)
 by_cases h1:k=1
 ·subst h1
  rw[if_pos rfl]
  by_cases hs:s=0
  ·subst hs
   go_enter Try.func84,Try.ntmps84
   go_wp2
   go_ret
   exact⟨by rw[E.out];rfl,newAlloc _ _⟩
  ·have d:(s==0)=false:=by simpa using hs
   go_enter Try.func84,Try.ntmps84
   go_wp2
   go_ret
   exact⟨by simp [hs],newAlloc _ _⟩
 rw[if_neg h1]
 by_cases h2:k=2\/k=6
 ·rw[if_pos h2]
  clear h1
  rcases h2 with rfl | rfl
  all_goals
   cases hh:highF s 1
   all_goals
    have H:=hid hh
    clear hh
    go_enter Try.func84,Try.ntmps84
    go_wp2_with (go_at_call 83;refine(C1.out _).mono ?_;rw[H.out];rintro e w' ⟨rfl,rfl⟩)
    go_ret
    exact⟨by first | rfl | (rw[E.out];rfl),newAlloc _ _⟩
 rw[if_neg h2]
 by_cases h3:k=3\/k=4\/k=5
 ·rw[if_pos h3]
  clear h1 h2
  rcases h3 with rfl | rfl | rfl
  all_goals
   cases hh:highF s 1
   all_goals
    have H:=hid hh
    clear hh
    go_enter Try.func84,Try.ntmps84
    go_wp2_with (first
     | (go_at_call 83;refine(C1.out _).mono ?_;rw[H.out];rintro e w' ⟨rfl,rfl⟩)
     | (go_at_call 88;refine(C2.out _).mono ?_;rintro e w' ⟨rfl,rfl⟩))
    go_ret
    exact⟨by simp,newAlloc _ _⟩
 rw[if_neg h3]
 have d1:(k==1)=false:=by simp;omega
 have d2:(k==2)=false:=by simp;omega
 have d3:(k==3)=false:=by simp;omega
 have d4:(k==4)=false:=by simp;omega
 have d5:(k==5)=false:=by simp;omega
 have d6:(k==6)=false:=by simp;omega
 clear h1 h2 h3
 go_enter Try.func84,Try.ntmps84
 go_wp2
 go_ret
 exact⟨rfl,newAlloc _ _⟩
theorem MayReq_any (r:ReqV) (w:World):Calls Try.prog 47 #[reqVal r] w (SaysB (mayR r) w):=by
 obtain⟨c,q,m⟩:=r
 have C1:=hid (fun w=>isNumber_any q w)
 have C2:=hid (fun w=>May_any m w)
 unfold reqVal mayR
 unfold cmdVal at C2
 obtain⟨k,s,n⟩:=m
 dsimp only at C2 ⊢
 by_cases h0:0<=c
 ·have d0:decide (0<=c)=true:=decide_eq_true h0
  by_cases h1:c<8
  ·have d1:decide (c<8)=true:=decide_eq_true h1
   cases hh:highF q 1
   all_goals
    have H:=hid hh
    clear hh
    go_enter Try.func47,Try.ntmps47
    go_wp2_with (first
     | (go_at_call 58;refine(C1.out _).mono ?_;rw[H.out];rintro e w' ⟨rfl,rfl⟩)
     | (go_at_call 59;refine(C2.out _).mono ?_;rintro e w' ⟨rfl,hb⟩))
    go_ret
    first
     | exact⟨by simp [h0,h1],newAlloc _ _⟩
     | exact⟨by simp [h0,h1],step (newAlloc _ _) hb⟩
  ·have d1:decide (c<8)=false:=decide_eq_false h1
   go_enter Try.func47,Try.ntmps47
   go_wp2
   go_ret
   exact⟨by simp [h0,h1],newAlloc _ _⟩
 ·have d0:decide (0<=c)=false:=decide_eq_false h0
  go_enter Try.func47,Try.ntmps47
  go_wp2
  go_ret
  exact⟨by simp [h0],newAlloc _ _⟩
theorem RefMayReq_any (r:ReqV) (w:World):Calls Try.prog 77 #[reqVal r] w (SaysB (mayR r) w):=by
 obtain⟨c,q,m⟩:=r
 have C1:=hid (fun w=>high_any q 1 w)
 have C2:=hid (fun w=>RefMay_any m w)
 unfold reqVal mayR
 unfold cmdVal at C2
 obtain⟨k,s,n⟩:=m
 dsimp only at C2 ⊢
 by_cases h0:0<=c
 ·have d0:decide (0<=c)=true:=decide_eq_true h0
  by_cases h1:c<8
  ·have d1:decide (c<8)=true:=decide_eq_true h1
   cases hh:highF q 1
   all_goals
    have H:=hid hh
    clear hh
    go_enter Try.func77,Try.ntmps77
    go_wp2_with (first
     | (go_at_call 83;refine(C1.out _).mono ?_;rw[H.out];rintro e w' ⟨rfl,rfl⟩)
     | (go_at_call 84;refine(C2.out _).mono ?_;rintro e w' ⟨rfl,hb⟩))
    go_ret
    first
     | exact⟨by simp [h0,h1],newAlloc _ _⟩
     | exact⟨by simp [h0,h1],step (newAlloc _ _) hb⟩
  ·have d1:decide (c<8)=false:=decide_eq_false h1
   go_enter Try.func77,Try.ntmps77
   go_wp2
   go_ret
   exact⟨by simp [h0,h1],newAlloc _ _⟩
 ·have d0:decide (0<=c)=false:=decide_eq_false h0
  go_enter Try.func77,Try.ntmps77
  go_wp2
  go_ret
  exact⟨by simp [h0],newAlloc _ _⟩
end Cm
end Go.Proofs.Ytbpmfjjbfiiiaaa

/- Contracts: package cmd's Put, Get of commands. -/
set_option linter.unusedVariables false
set_option maxRecDepth 8000
set_option linter.unusedSimpArgs false
namespace Go.Proofs.Ytbpmfjjbfiiiaaa
open Lib (hid)
open Go.RowKit
namespace Cm

theorem box5 {w w':World} {x y z u v:Value} {t:TypeId} (h:Below (w.alloc (.cells #[x,y,z,u,v] t)).heap.size (w.alloc (.cells #[x,y,z,u,v] t)) w'):
  w'.cell? ⟨w.heap.size,0,none⟩=some x/\w'.cell? ⟨w.heap.size,1,none⟩=some y/\w'.cell? ⟨w.heap.size,2,none⟩=some z/\w'.cell? ⟨w.heap.size,3,none⟩=some u/\w'.cell? ⟨w.heap.size,4,none⟩=some v:=by
 have hl:w.heap.size<(w.alloc (.cells #[x,y,z,u,v] t)).heap.size :=by simp
 refine⟨?_,?_,?_,?_,?_⟩
 ·rw[h.cell (p:=⟨w.heap.size,0,none⟩) hl];simp [go_sem]
 ·rw[h.cell (p:=⟨w.heap.size,1,none⟩) hl];simp [go_sem]
 ·rw[h.cell (p:=⟨w.heap.size,2,none⟩) hl];simp [go_sem]
 ·rw[h.cell (p:=⟨w.heap.size,3,none⟩) hl];simp [go_sem]
 ·rw[h.cell (p:=⟨w.heap.size,4,none⟩) hl];simp [go_sem]
theorem Rd.len_le {w:World} {v:Value} {bs:List UInt8} (h:Rd w v bs):bs.length<=maxLen:=by
 obtain⟨a,l,c,_,h1,h2,h3,_⟩:=h.ex
 omega
theorem set3 {w w1:World} (h:Below w.heap.size w w1) (x y z:Value):Below w.heap.size w (((w1.setCell ⟨w.heap.size,0,none⟩ x).setCell ⟨w.heap.size,1,none⟩ y).setCell ⟨w.heap.size,2,none⟩ z):=
 ((h.setCell (Nat.le_refl _) _).setCell (Nat.le_refl _) _).setCell (Nat.le_refl _) _
end Cm
end Go.Proofs.Ytbpmfjjbfiiiaaa

/- Contracts: package cmd's PutReq, GetReq. -/
set_option linter.unusedVariables false
set_option maxRecDepth 8000
set_option linter.unusedSimpArgs false
namespace Go.Proofs.Ytbpmfjjbfiiiaaa
open Lib (hid)
open Go.RowKit
namespace Cm



theorem free5 {w w':World} {x y z u v:Value} {t:TypeId} (h:Below (w.alloc (.cells #[x,y,z,u,v] t)).heap.size (w.alloc (.cells #[x,y,z,u,v] t)) w'):
  ∀k,w'.frozen? ⟨w.heap.size,k,none⟩=false:=by
 intro k
 have hl:w.heap.size<(w.alloc (.cells #[x,y,z,u,v] t)).heap.size :=by simp
 rw[h.frozen (p:=⟨w.heap.size,k,none⟩) hl]
 simp [go_sem]
theorem set5 {w w1:World} (h:Below w.heap.size w w1) (x y z u v:Value):Below w.heap.size w (((((w1.setCell ⟨w.heap.size,0,none⟩ x).setCell ⟨w.heap.size,1,none⟩ y).setCell ⟨w.heap.size,2,none⟩ z).setCell ⟨w.heap.size,3,none⟩ u).setCell ⟨w.heap.size,4,none⟩ v):=
 ((((h.setCell (Nat.le_refl _) _).setCell (Nat.le_refl _) _).setCell (Nat.le_refl _) _).setCell (Nat.le_refl _) _).setCell (Nat.le_refl _) _
end Cm
end Go.Proofs.Ytbpmfjjbfiiiaaa
