/- Texts laid together by program. -/
import Derived.Test.YthpknaieimlmnaaGreatQ2
import Derived.Test.YthpknaieimlmnaaGreatProg
import Derived.Defers
import Derived.Recover
import Derived.Laws.Pointers
import Derived.Lib.AppendStr
import Derived.Lib.AppendZeros
import Derived.Deep.Cut
import Derived.Deep.CutBlock
import Derived.Deep.DeepCutAuto
import Derived.Deep.CutRange
import Derived.BigQuiet
import Derived.Deep.RegionWith
/- Contracts: package cmd's Put, Get of commands. -/
set_option linter.unusedVariables false
set_option maxRecDepth 8000
set_option linter.unusedSimpArgs false
namespace Go.Proofs.YthpknaieimlmnaaGreat
open Lib (hid)
open Go.RowKit
namespace Cm

theorem box3 {w w':World} {x y z:Value} {t:TypeId} (h:Below (w.alloc (.cells #[x,y,z] t)).heap.size (w.alloc (.cells #[x,y,z] t)) w'):
  w'.cell? ⟨w.heap.size,0,none⟩=some x/\w'.cell? ⟨w.heap.size,1,none⟩=some y/\w'.cell? ⟨w.heap.size,2,none⟩=some z:=by
 have hl:w.heap.size<(w.alloc (.cells #[x,y,z] t)).heap.size :=by simp
 refine⟨?_,?_,?_⟩
 ·rw[h.cell (p:=⟨w.heap.size,0,none⟩) hl];simp [go_sem]
 ·rw[h.cell (p:=⟨w.heap.size,1,none⟩) hl];simp [go_sem]
 ·rw[h.cell (p:=⟨w.heap.size,2,none⟩) hl];simp [go_sem]
theorem box5 {w w':World} {x y z u v:Value} {t:TypeId} (h:Below (w.alloc (.cells #[x,y,z,u,v] t)).heap.size (w.alloc (.cells #[x,y,z,u,v] t)) w'):
  w'.cell? ⟨w.heap.size,0,none⟩=some x/\w'.cell? ⟨w.heap.size,1,none⟩=some y/\w'.cell? ⟨w.heap.size,2,none⟩=some z/\w'.cell? ⟨w.heap.size,3,none⟩=some u/\w'.cell? ⟨w.heap.size,4,none⟩=some v:=by
 have hl:w.heap.size<(w.alloc (.cells #[x,y,z,u,v] t)).heap.size :=by simp
 refine⟨?_,?_,?_,?_,?_⟩
 ·rw[h.cell (p:=⟨w.heap.size,0,none⟩) hl];simp [go_sem]
 ·rw[h.cell (p:=⟨w.heap.size,1,none⟩) hl];simp [go_sem]
 ·rw[h.cell (p:=⟨w.heap.size,2,none⟩) hl];simp [go_sem]
 ·rw[h.cell (p:=⟨w.heap.size,3,none⟩) hl];simp [go_sem]
 ·rw[h.cell (p:=⟨w.heap.size,4,none⟩) hl];simp [go_sem]
theorem free3 {w w':World} {x y z:Value} {t:TypeId} (h:Below (w.alloc (.cells #[x,y,z] t)).heap.size (w.alloc (.cells #[x,y,z] t)) w'):
  ∀k,w'.frozen? ⟨w.heap.size,k,none⟩=false:=by
 intro k
 have hl:w.heap.size<(w.alloc (.cells #[x,y,z] t)).heap.size :=by simp
 rw[h.frozen (p:=⟨w.heap.size,k,none⟩) hl]
 simp [go_sem]
theorem set3 {w w1:World} (h:Below w.heap.size w w1) (x y z:Value):Below w.heap.size w (((w1.setCell ⟨w.heap.size,0,none⟩ x).setCell ⟨w.heap.size,1,none⟩ y).setCell ⟨w.heap.size,2,none⟩ z):=
 ((h.setCell (Nat.le_refl _) _).setCell (Nat.le_refl _) _).setCell (Nat.le_refl _) _
end Cm
end Go.Proofs.YthpknaieimlmnaaGreat

/- Contracts: padlockref6's readers of sessions: high, client, In, FindSession, SameSessions; padlockref4's SameInts. -/
set_option linter.unusedVariables false
set_option maxRecDepth 8000
set_option linter.unusedSimpArgs false
namespace Go.Proofs.YthpknaieimlmnaaGreat
open Lib (hid)
open Go.RowKit
namespace Cm

def cellsS (s:SesV):List Value:= [.int .i64 s.client,.int .i64 s.num,.int .i64 s.ren]
theorem cellsS_length (s:SesV):(cellsS s).length =3:=rfl
def sesVal (s:SesV):Value:=.agg #[.int .i64 s.client,.int .i64 s.num,.int .i64 s.ren]
abbrev RdS:=RdX 3 cellsS
theorem rds_at {w:World} {a:Option Addr} {n cap:Nat} {l:List SesV} (h:RdS w (.slice a n cap) l) (i:Nat) (hi:i<l.length):
  ∃b o,a=some ⟨b,o,none⟩/\ ∀w':World,Below w.heap.size w w'->w'.cell? ⟨b,o+i*3,none⟩=some (.int .i64 l[i].client)/\w'.cell? ⟨b,o+i*3+1,none⟩=some (.int .i64 l[i].num)/\w'.cell? ⟨b,o+i*3+2,none⟩=some (.int .i64 l[i].ren):=by
 obtain⟨b,o,e,c⟩:=h.at i hi
 exact⟨b,o,e,fun w' hb=>⟨c w' hb 0 _ rfl,c w' hb 1 _ rfl,c w' hb 2 _ rfl⟩⟩
def cellsI (x:Int):List Value:= [.int .i64 x]
theorem cellsI_length (x:Int):(cellsI x).length =1:=rfl
abbrev RdI:=RdX 1 cellsI
theorem rdi_at {w:World} {a:Option Addr} {n cap:Nat} {l:List Int} (h:RdI w (.slice a n cap) l) (i:Nat) (hi:i<l.length):
  ∃b o,a=some ⟨b,o,none⟩/\ ∀w':World,Below w.heap.size w w'->w'.cell? ⟨b,o+i,none⟩=some (.int .i64 l[i]):=by
 obtain⟨b,o,e,c⟩:=h.at i hi
 refine⟨b,o,e,fun w' hb=>?_⟩
 have:=c w' hb 0 _ rfl
 rw[Nat.mul_one] at this
 exact this
theorem high6_any (v least:Int) (w:World):Calls Tryz.prog 78 #[.int .i64 v,.int .i64 least] w (Says (highF v least) w):=by
  unfold highF
  by_cases h1:least<=v<;>by_cases h2:v<=2305843009213693952<;>
    (go_enter Tryz.func78,Tryz.ntmps78
     go_wp2
     go_ret
     exact⟨by simp [h1,h2]<;>omega,rfl⟩)
theorem client6_any (c:Int) (w:World):Calls Tryz.prog 142 #[.int .i64 c] w (Says (clientF c) w):=by
  unfold clientF
  by_cases h1:0<=c<;>by_cases h2:c<8<;>
    (go_enter Tryz.func142,Tryz.ntmps142
     go_wp2
     go_ret
     exact⟨by simp [h1,h2]<;>omega,rfl⟩)
theorem any_eq_drop (l:List Int) (x:Int) (j:Nat) (h:j<l.length):(l.drop j).any (fun y=>decide (y=x))=(decide (l[j]=x) || (l.drop (j+1)).any fun y=>decide (y=x)):=by
 rw[List.drop_eq_getElem_cons h,List.any_cons]
theorem In_any (v:Value) (l:List Int) (x:Int) (w:World) (h:RdI w v l):Calls Tryz.prog 37 #[v,.int .i64 x] w (Says (l.any fun y=>decide (y=x)) w):=by
 have hm:=h.len
 obtain⟨a,cap,rfl⟩:=h.form
 have HA:=hid (fun i hi=>rdi_at h i hi)
 have HD:=hid (any_eq_drop l x)
 clear h
 obtain⟨L,hL⟩: ∃L,l.length=L:=⟨_,rfl⟩
 rw[hL] at hm ⊢
 go_enter Tryz.func37,Tryz.ntmps37
 go_wp2
 go_loop [5] (fun i=> ∃j:Nat,j<=L/\i= .int .i64 j/\Hid ((l.any fun y=>decide (y=x))=(l.drop j).any fun y=>decide (y=x))) (fun i=>L - (intOf i).toNat)
 case atStart=>exact⟨0,by omega,rfl,hid rfl⟩
 case round=>
  obtain⟨j,hj,rfl,ha⟩:=hrel
  by_cases hlt:j<L
  ·obtain⟨b,o,rfl,hc⟩:=HA.out j (by omega)
   have q1:=hc w (Below.refl _ _)
   have hd:=HD.out j (by omega)
   clear HA HD hc
   generalize l[j]=g at q1 hd
   by_cases hq:g=x
   ·have d:(g==x)=true:=by simpa using hq
    rw[decide_eq_true hq,Bool.true_or] at hd
    have H:=hid hd
    clear hd hq
    go_wp2
    go_ret
    exact⟨by rw[ha.out,H.out];rfl,rfl⟩
   ·have d:(g==x)=false:=by simpa using hq
    rw[decide_eq_false hq,Bool.false_or] at hd
    have H:=hid hd
    clear hd hq
    go_wp2
    go_round
    case rel=>exact⟨j+1,by omega,by go_num,hid (by rw[ha.out,H.out])⟩
    case measure=>simp [intOf];omega
  ·obtain rfl:j=L:=by omega
   go_wp2
   go_ret
   have ha:=ha.out
   rw[<-hL,List.drop_length] at ha
   exact⟨by rw[ha];rfl,rfl⟩
theorem findS_drop (l:List SesV) (c:Int) (j:Nat) (h:j<l.length):findS (l.drop j) c=if l[j].client =c then (l[j],true) else findS (l.drop (j+1)) c:=by
 rw[List.drop_eq_getElem_cons h]
 rfl
def Found (r:SesV × Bool) (w:World) (e:Ending) (w':World):Prop:=e= .returned (.tuple #[sesVal r.1,.bool r.2])/\Below w.heap.size w w'
set_option maxHeartbeats 1000000 in
theorem Find_any (v:Value) (l:List SesV) (c:Int) (w:World) (h:RdS w v l):Calls Tryz.prog 32 #[v,.int .i64 c] w (Found (findS l c) w):=by
 have hm:=h.len
 obtain⟨a,cap,rfl⟩:=h.form
 have HA:=hid (fun i hi=>rds_at h i hi)
 have HD:=hid (findS_drop l c)
 clear h
 obtain⟨L,hL⟩: ∃L,l.length=L:=⟨_,rfl⟩
 rw[hL] at hm ⊢
 go_enter Tryz.func32,Tryz.ntmps32
 go_wp2
 have hB:=newAlloc w (.cells #[.int .i64 0,.int .i64 0,.int .i64 0] 56)
 obtain⟨c0,c1,c2⟩:=box3 (Below.refl _ (w.alloc (.cells #[.int .i64 0,.int .i64 0,.int .i64 0] 56)))
 have f0:=free3 (Below.refl _ (w.alloc (.cells #[.int .i64 0,.int .i64 0,.int .i64 0] 56)))
 generalize w.alloc (.cells #[.int .i64 0,.int .i64 0,.int .i64 0] 56)=W at*
 have HB:=hid hB
 clear hB
 go_loop [6] (fun i=> ∃j:Nat,j<=L/\i= .int .i64 j/\Hid (findS l c=findS (l.drop j) c)) (fun i=>L - (intOf i).toNat)
 case atStart=>exact⟨0,by omega,rfl,hid rfl⟩
 case round=>
  obtain⟨j,hj,rfl,ha⟩:=hrel
  by_cases hlt:j<L
  ·obtain⟨b,o,rfl,hc⟩:=HA.out j (by omega)
   obtain⟨q0,q1,q2⟩:=hc W HB.out
   have hd:=HD.out j (by omega)
   clear HA HD hc
   generalize l[j]=g at q0 q1 q2 hd
   obtain⟨gc,gn,gr⟩:=g
   dsimp only at q0 q1 q2 hd
   by_cases hq:gc=c
   ·have d:(gc==c)=true:=by simpa using hq
    rw[if_pos hq] at hd
    have H:=hid hd
    clear hd hq
    go_wp2
    refine bodyPost_ret (by simp [results,Tryz.results32,go_sem,c0,c1,c2,f0]<;>rfl) rfl ⟨by rw[ha.out,H.out];rfl,set3 HB.out _ _ _⟩
   ·have d:(gc==c)=false:=by simpa using hq
    rw[if_neg hq] at hd
    have H:=hid hd
    clear hd hq
    go_wp2
    go_round
    case rel=>exact⟨j+1,by omega,by go_num,hid (by rw[ha.out,H.out])⟩
    case measure=>simp [intOf];omega
  ·obtain rfl:j=L:=by omega
   have ha:=ha.out
   rw[<-hL,List.drop_length] at ha
   have H:=hid ha
   clear ha
   go_wp2
   refine bodyPost_ret (by simp [results,Tryz.results32,go_sem,c0,c1,c2,f0]<;>rfl) rfl ⟨by rw[H.out];rfl,set3 HB.out _ _ _⟩
end Cm
end Go.Proofs.YthpknaieimlmnaaGreat

/- Contracts: padlockref6's SameSessions; padlockref4's SameInts. -/
set_option linter.unusedVariables false
set_option maxRecDepth 8000
set_option linter.unusedSimpArgs false
namespace Go.Proofs.YthpknaieimlmnaaGreat
open Lib (hid)
open Go.RowKit
namespace Cm

theorem below_drewN6 {B:Nat} {a w:World} (h:Below B a w) (n:Nat):Below B a (w.drewN n):=⟨h.os,h.tape,h.output,h.size,h.block⟩
def sameI:List Int->List Int->Bool
 | [],[]=>true
 | x::l,y::m=>decide (x=y) && sameI l m
 | _,_=>false
theorem sameI_len: ∀(l m:List Int),l.length≠m.length->sameI l m=false
 | [],[],h=>absurd rfl h
 | [],_::_,_=>rfl
 | _::_,[],_=>rfl
 | g::l,h::m,q=>by
  have:=sameI_len l m (by simpa using q)
  unfold sameI
  rw[this,Bool.and_false]
theorem sameI_iff: ∀(l m:List Int),sameI l m=true ↔ l=m
 | [],[]=>by simp [sameI]
 | [],_::_=>by simp [sameI]
 | _::_,[]=>by simp [sameI]
 | a::l,c::m=>by
  unfold sameI
  simp [sameI_iff l m]
theorem sameI_drop (l m:List Int) (j:Nat) (h:j<l.length) (hm:j<m.length):sameI (l.drop j) (m.drop j)=(decide (l[j]=m[j]) && sameI (l.drop (j+1)) (m.drop (j+1))):=by
 rw[List.drop_eq_getElem_cons h,List.drop_eq_getElem_cons hm]
 rfl
set_option maxHeartbeats 1000000 in
theorem SameInts_any (u v:Value) (l m:List Int) (w:World) (h:RdI w u l) (h2:RdI w v m):
  Calls Tryz.prog 19 #[u,v] w (SaysB (sameI l m) w):=by
 have hm:=h.len
 have hm2:=h2.len
 obtain⟨a,cap,rfl⟩:=h.form
 obtain⟨a2,cap2,rfl⟩:=h2.form
 by_cases hn:l.length=m.length
 ·have HA:=hid (fun i hi=>rdi_at h i hi)
  have HA2:=hid (fun i hi=>rdi_at h2 i hi)
  have HD:=hid (sameI_drop l m)
  clear h h2
  obtain⟨L,hL⟩: ∃L,l.length=L:=⟨_,rfl⟩
  have hL2:m.length=L:=by omega
  rw[hL] at hm ⊢
  rw[hL2] at hm2 ⊢
  go_enter Tryz.func19,Tryz.ntmps19
  go_wp2
  go_loopw [5] (fun i wr=> ∃j:Nat,j<=L/\i= .int .i64 j/\Below w.heap.size w wr/\Hid (sameI l m=sameI (l.drop j) (m.drop j))) (fun i _=>L - (intOf i).toNat)
  case atStart=>exact⟨0,by omega,rfl,Below.refl _ _,hid rfl⟩
  case round=>
   obtain⟨j,hj,rfl,hb,ha⟩:=hrel
   have HB:=hid hb
   clear hb
   by_cases hlt:j<L
   ·obtain⟨b,o,rfl,hc⟩:=HA.out j (by omega)
    obtain⟨b',o',rfl,hc2⟩:=HA2.out j (by omega)
    have q1:=hc _ HB.out
    have q2:=hc2 _ HB.out
    have hd:=HD.out j (by omega) (by omega)
    clear HA HA2 HD hc hc2
    generalize l[j]=x at q1 hd
    generalize m[j]=y at q2 hd
    by_cases e1:x=y
    ·have d1:(x != y)=false:=by simp [e1]
     rw[decide_eq_true e1,Bool.true_and] at hd
     have H:=hid hd
     clear hd e1
     go_upto_region 6 with fail
     go_quiet (fail)
     go_wp2
     go_roundw
     case rel=>exact⟨j+1,by omega,by go_num,below_drewN6 HB.out nq,hid (by rw[ha.out,H.out])⟩
     case measure=>simp [intOf];omega
    ·have d1:(x != y)=true:=by simpa using e1
     rw[decide_eq_false e1,Bool.false_and] at hd
     have H:=hid hd
     clear hd e1
     go_upto_region 6 with fail
     go_quiet (fail)
     go_wp2
     go_ret
     exact⟨by rw[ha.out,H.out];rfl,below_drewN6 HB.out nq⟩
   ·obtain rfl:j=L:=by omega
    go_wp2
    go_ret
    have ha:=ha.out
    rw[<-hL,List.drop_length,hL,<-hL2,List.drop_length] at ha
    exact⟨by rw[ha];rfl,HB.out⟩
 ·have d1:((l.length:Int) != (m.length:Int))=true:=by simp;omega
  have e:sameI l m=false:=sameI_len l m hn
  rw[e]
  clear h h2 hn e
  generalize l.length=L at*
  generalize m.length=M at*
  go_enter Tryz.func19,Tryz.ntmps19
  go_wp2
  go_ret
  exact⟨rfl,Below.refl _ _⟩
def sameE (x y:SesV):Bool:=decide (x.client=y.client) && decide (x.num=y.num) && decide (x.ren=y.ren)
theorem sameE_iff (x y:SesV):sameE x y=true ↔ x=y:=by
 obtain⟨a,b,c⟩:=x
 obtain⟨d,e,f⟩:=y
 unfold sameE
 simp [and_assoc]
def sameL:List SesV->List SesV->Bool
 | [],[]=>true
 | x::l,y::m=>sameE x y && sameL l m
 | _,_=>false
theorem sameL_len: ∀(l m:List SesV),l.length≠m.length->sameL l m=false
 | [],[],h=>absurd rfl h
 | [],_::_,_=>rfl
 | _::_,[],_=>rfl
 | g::l,h::m,q=>by
  have:=sameL_len l m (by simpa using q)
  unfold sameL
  rw[this,Bool.and_false]
theorem sameL_iff: ∀(l m:List SesV),sameL l m=true ↔ l=m
 | [],[]=>by simp [sameL]
 | [],_::_=>by simp [sameL]
 | _::_,[]=>by simp [sameL]
 | a::l,c::m=>by
  unfold sameL
  simp [sameL_iff l m,sameE_iff]
theorem sameL_drop (l m:List SesV) (j:Nat) (h:j<l.length) (hm:j<m.length):sameL (l.drop j) (m.drop j)=(sameE l[j] m[j] && sameL (l.drop (j+1)) (m.drop (j+1))):=by
 rw[List.drop_eq_getElem_cons h,List.drop_eq_getElem_cons hm]
 rfl
set_option maxHeartbeats 2000000 in
theorem SameSes_any (u v:Value) (l m:List SesV) (w:World) (h:RdS w u l) (h2:RdS w v m):
  Calls Tryz.prog 60 #[u,v] w (SaysB (sameL l m) w):=by
 have hm:=h.len
 have hm2:=h2.len
 obtain⟨a,cap,rfl⟩:=h.form
 obtain⟨a2,cap2,rfl⟩:=h2.form
 by_cases hn:l.length=m.length
 ·have HA:=hid (fun i hi=>rds_at h i hi)
  have HA2:=hid (fun i hi=>rds_at h2 i hi)
  have HD:=hid (sameL_drop l m)
  clear h h2
  obtain⟨L,hL⟩: ∃L,l.length=L:=⟨_,rfl⟩
  have hL2:m.length=L:=by omega
  rw[hL] at hm ⊢
  rw[hL2] at hm2 ⊢
  go_enter Tryz.func60,Tryz.ntmps60
  go_wp2
  go_loopw [5] (fun i wr=> ∃j:Nat,j<=L/\i= .int .i64 j/\Below w.heap.size w wr/\Hid (sameL l m=sameL (l.drop j) (m.drop j))) (fun i _=>L - (intOf i).toNat)
  case atStart=>exact⟨0,by omega,rfl,Below.refl _ _,hid rfl⟩
  case round=>
   obtain⟨j,hj,rfl,hb,ha⟩:=hrel
   have HB:=hid hb
   clear hb
   by_cases hlt:j<L
   ·obtain⟨b,o,rfl,hc⟩:=HA.out j (by omega)
    obtain⟨b',o',rfl,hc2⟩:=HA2.out j (by omega)
    obtain⟨q0,q1,q2⟩:=hc _ HB.out
    obtain⟨p0,p1,p2⟩:=hc2 _ HB.out
    have hd:=HD.out j (by omega) (by omega)
    clear HA HA2 HD hc hc2
    generalize l[j]=x at q0 q1 q2 hd
    generalize m[j]=y at p0 p1 p2 hd
    obtain⟨xc,xn,xr⟩:=x
    obtain⟨yc,yn,yr⟩:=y
    dsimp only at q0 q1 q2 p0 p1 p2
    have hse:sameE ⟨xc,xn,xr⟩ ⟨yc,yn,yr⟩=((xc==yc) && ((xn==yn) && (xr==yr))):=by unfold sameE;by_cases g1:xc=yc<;>by_cases g2:xn=yn<;>by_cases g3:xr=yr<;>simp [g1,g2,g3]
    rw[hse] at hd
    cases g1:(xc==yc)
    ·rw[g1,Bool.false_and,Bool.false_and] at hd
     have H:=hid hd
     clear hd hse
     go_upto_region 6 with fail
     go_quiet (fail)
     go_wp2
     go_ret
     exact⟨by rw[ha.out,H.out];rfl,below_drewN6 HB.out nq⟩
    ·cases g2:(xn==yn)
     ·rw[g1,g2,Bool.false_and,Bool.and_false,Bool.false_and] at hd
      have H:=hid hd
      clear hd hse
      go_upto_region 6 with fail
      go_quiet (fail)
      go_wp2
      go_ret
      exact⟨by rw[ha.out,H.out];rfl,below_drewN6 HB.out nq⟩
     ·cases g3:(xr==yr)
      ·rw[g1,g2,g3,Bool.and_false,Bool.and_false,Bool.false_and] at hd
       have H:=hid hd
       clear hd hse
       go_upto_region 6 with fail
       go_quiet (fail)
       go_wp2
       go_ret
       exact⟨by rw[ha.out,H.out];rfl,below_drewN6 HB.out nq⟩
      ·rw[g1,g2,g3,Bool.and_true,Bool.and_true,Bool.true_and] at hd
       have H:=hid hd
       clear hd hse
       go_upto_region 6 with fail
       go_quiet (fail)
       go_wp2
       go_roundw
       case rel=>exact⟨j+1,by omega,by go_num,below_drewN6 HB.out nq,hid (by rw[ha.out,H.out])⟩
       case measure=>simp [intOf];omega
   ·obtain rfl:j=L:=by omega
    go_wp2
    go_ret
    have ha:=ha.out
    rw[<-hL,List.drop_length,hL,<-hL2,List.drop_length] at ha
    exact⟨by rw[ha];rfl,HB.out⟩
 ·have d1:((l.length:Int) != (m.length:Int))=true:=by simp;omega
  have e:sameL l m=false:=sameL_len l m hn
  rw[e]
  clear h h2 hn e
  generalize l.length=L at*
  generalize m.length=M at*
  go_enter Tryz.func60,Tryz.ntmps60
  go_wp2
  go_ret
  exact⟨rfl,Below.refl _ _⟩
end Cm
end Go.Proofs.YthpknaieimlmnaaGreat
