/- Texts laid together by program. -/
import Derived.Test.YtlnbmblbeaodcaaGreatQS7
import Derived.Deep.Cut
import Derived.Deep.CutBlock
import Derived.Deep.DeepCutAuto
import Derived.Deep.CutRange
import Derived.BigQuiet
import Derived.Deep.RegionWith
/- Contracts: padlockref6's readers of sessions: high, client, In, FindSession, SameSessions; padlockref4's SameInts. -/
set_option linter.unusedVariables false
set_option maxRecDepth 8000
set_option linter.unusedSimpArgs false
namespace Go.Proofs.YtlnbmblbeaodcaaGreat
open Lib (hid)
open Go.RowKit
namespace Cm

def cellsS (s:SesV):List Value:= [.int .i64 s.client,.int .i64 s.num,.int .i64 s.ren]
theorem cellsS_length (s:SesV):(cellsS s).length =3:=rfl
def sesVal (s:SesV):Value:=.agg #[.int .i64 s.client,.int .i64 s.num,.int .i64 s.ren]
abbrev RdS:=RdX 3 cellsS
theorem rds_at {w:World} {a:Option Addr} {n cap:Nat} {l:List SesV} (h:RdS w (.slice a n cap) l) (i:Nat) (hi:i<l.length):
  ∃b o,a=some ⟨b,o,none⟩/\ ∀w':World,Below w.heap.size w w'->w'.cell? ⟨b,o+i*3,none⟩=some (.int .i64 l[i].client)/\w'.cell? ⟨b,o+i*3+1,none⟩=some (.int .i64 l[i].num)/\w'.cell? ⟨b,o+i*3+2,none⟩=some (.int .i64 l[i].ren):=by
 obtain⟨b,o,e,c⟩:=h.at i hi
 exact⟨b,o,e,fun w' hb=>⟨c w' hb 0 _ rfl,c w' hb 1 _ rfl,c w' hb 2 _ rfl⟩⟩
def cellsI (x:Int):List Value:= [.int .i64 x]
theorem cellsI_length (x:Int):(cellsI x).length =1:=rfl
abbrev RdI:=RdX 1 cellsI
theorem rdi_at {w:World} {a:Option Addr} {n cap:Nat} {l:List Int} (h:RdI w (.slice a n cap) l) (i:Nat) (hi:i<l.length):
  ∃b o,a=some ⟨b,o,none⟩/\ ∀w':World,Below w.heap.size w w'->w'.cell? ⟨b,o+i,none⟩=some (.int .i64 l[i]):=by
 obtain⟨b,o,e,c⟩:=h.at i hi
 refine⟨b,o,e,fun w' hb=>?_⟩
 have:=c w' hb 0 _ rfl
 rw[Nat.mul_one] at this
 exact this
theorem high6_any (v least:Int) (w:World):Calls Tryz.prog 45 #[.int .i64 v,.int .i64 least] w (Says (highF v least) w):=by
  unfold highF
  by_cases h1:least<=v<;>by_cases h2:v<=2305843009213693952<;>
    (go_enter Tryz.func45,Tryz.ntmps45
     go_wp2
     go_ret
     exact⟨by simp [h1,h2]<;>omega,rfl⟩)
theorem client6_any (c:Int) (w:World):Calls Tryz.prog 98 #[.int .i64 c] w (Says (clientF c) w):=by
  unfold clientF
  by_cases h1:0<=c<;>by_cases h2:c<8<;>
    (go_enter Tryz.func98,Tryz.ntmps98
     go_wp2
     go_ret
     exact⟨by simp [h1,h2]<;>omega,rfl⟩)
theorem any_eq_drop (l:List Int) (x:Int) (j:Nat) (h:j<l.length):(l.drop j).any (fun y=>decide (y=x))=(decide (l[j]=x) || (l.drop (j+1)).any fun y=>decide (y=x)):=by
 rw[List.drop_eq_getElem_cons h,List.any_cons]
theorem In_any (v:Value) (l:List Int) (x:Int) (w:World) (h:RdI w v l):Calls Tryz.prog 101 #[v,.int .i64 x] w (Says (l.any fun y=>decide (y=x)) w):=by
 have hm:=h.len
 obtain⟨a,cap,rfl⟩:=h.form
 have HA:=hid (fun i hi=>rdi_at h i hi)
 have HD:=hid (any_eq_drop l x)
 clear h
 obtain⟨L,hL⟩: ∃L,l.length=L:=⟨_,rfl⟩
 rw[hL] at hm ⊢
 go_enter Tryz.func101,Tryz.ntmps101
 go_wp2
 go_loop [5] (fun i=> ∃j:Nat,j<=L/\i= .int .i64 j/\Hid ((l.any fun y=>decide (y=x))=(l.drop j).any fun y=>decide (y=x))) (fun i=>L - (intOf i).toNat)
 case atStart=>exact⟨0,by omega,rfl,hid rfl⟩
 case round=>
  obtain⟨j,hj,rfl,ha⟩:=hrel
  by_cases hlt:j<L
  ·obtain⟨b,o,rfl,hc⟩:=HA.out j (by omega)
   have q1:=hc w (Below.refl _ _)
   have hd:=HD.out j (by omega)
   clear HA HD hc
   generalize l[j]=g at q1 hd
   by_cases hq:g=x
   ·have d:(g==x)=true:=by simpa using hq
    rw[decide_eq_true hq,Bool.true_or] at hd
    have H:=hid hd
    clear hd hq
    go_wp2
    go_ret
    exact⟨by rw[ha.out,H.out];rfl,rfl⟩
   ·have d:(g==x)=false:=by simpa using hq
    rw[decide_eq_false hq,Bool.false_or] at hd
    have H:=hid hd
    clear hd hq
    go_wp2
    go_round
    case rel=>exact⟨j+1,by omega,by go_num,hid (by rw[ha.out,H.out])⟩
    case measure=>simp [intOf];omega
  ·obtain rfl:j=L:=by omega
   go_wp2
   go_ret
   have ha:=ha.out
   rw[<-hL,List.drop_length] at ha
   exact⟨by rw[ha];rfl,rfl⟩
theorem findS_drop (l:List SesV) (c:Int) (j:Nat) (h:j<l.length):findS (l.drop j) c=if l[j].client =c then (l[j],true) else findS (l.drop (j+1)) c:=by
 rw[List.drop_eq_getElem_cons h]
 rfl
def Found (r:SesV × Bool) (w:World) (e:Ending) (w':World):Prop:=e= .returned (.tuple #[sesVal r.1,.bool r.2])/\Below w.heap.size w w'
set_option maxHeartbeats 1000000 in
theorem Find_any (v:Value) (l:List SesV) (c:Int) (w:World) (h:RdS w v l):Calls Tryz.prog 49 #[v,.int .i64 c] w (Found (findS l c) w):=by
 have hm:=h.len
 obtain⟨a,cap,rfl⟩:=h.form
 have HA:=hid (fun i hi=>rds_at h i hi)
 have HD:=hid (findS_drop l c)
 clear h
 obtain⟨L,hL⟩: ∃L,l.length=L:=⟨_,rfl⟩
 rw[hL] at hm ⊢
 go_enter Tryz.func49,Tryz.ntmps49
 go_wp2
 have hB:=newAlloc w (.cells #[.int .i64 0,.int .i64 0,.int .i64 0] 73)
 obtain⟨c0,c1,c2⟩:=box3 (Below.refl _ (w.alloc (.cells #[.int .i64 0,.int .i64 0,.int .i64 0] 73)))
 have f0:=free3 (Below.refl _ (w.alloc (.cells #[.int .i64 0,.int .i64 0,.int .i64 0] 73)))
 generalize w.alloc (.cells #[.int .i64 0,.int .i64 0,.int .i64 0] 73)=W at*
 have HB:=hid hB
 clear hB
 go_loop [6] (fun i=> ∃j:Nat,j<=L/\i= .int .i64 j/\Hid (findS l c=findS (l.drop j) c)) (fun i=>L - (intOf i).toNat)
 case atStart=>exact⟨0,by omega,rfl,hid rfl⟩
 case round=>
  obtain⟨j,hj,rfl,ha⟩:=hrel
  by_cases hlt:j<L
  ·obtain⟨b,o,rfl,hc⟩:=HA.out j (by omega)
   obtain⟨q0,q1,q2⟩:=hc W HB.out
   have hd:=HD.out j (by omega)
   clear HA HD hc
   generalize l[j]=g at q0 q1 q2 hd
   obtain⟨gc,gn,gr⟩:=g
   dsimp only at q0 q1 q2 hd
   by_cases hq:gc=c
   ·have d:(gc==c)=true:=by simpa using hq
    rw[if_pos hq] at hd
    have H:=hid hd
    clear hd hq
    go_wp2
    refine bodyPost_ret (by simp [results,Tryz.results49,go_sem,c0,c1,c2,f0]<;>rfl) rfl ⟨by rw[ha.out,H.out];rfl,set3 HB.out _ _ _⟩
   ·have d:(gc==c)=false:=by simpa using hq
    rw[if_neg hq] at hd
    have H:=hid hd
    clear hd hq
    go_wp2
    go_round
    case rel=>exact⟨j+1,by omega,by go_num,hid (by rw[ha.out,H.out])⟩
    case measure=>simp [intOf];omega
  ·obtain rfl:j=L:=by omega
   have ha:=ha.out
   rw[<-hL,List.drop_length] at ha
   have H:=hid ha
   clear ha
   go_wp2
   refine bodyPost_ret (by simp [results,Tryz.results49,go_sem,c0,c1,c2,f0]<;>rfl) rfl ⟨by rw[H.out];rfl,set3 HB.out _ _ _⟩
end Cm
end Go.Proofs.YtlnbmblbeaodcaaGreat

/- Contracts: padlockref6's SameSessions; padlockref4's SameInts. -/
set_option linter.unusedVariables false
set_option maxRecDepth 8000
set_option linter.unusedSimpArgs false
namespace Go.Proofs.YtlnbmblbeaodcaaGreat
open Lib (hid)
open Go.RowKit
namespace Cm

theorem below_drewN6 {B:Nat} {a w:World} (h:Below B a w) (n:Nat):Below B a (w.drewN n):=⟨h.os,h.tape,h.output,h.size,h.block⟩
def sameI:List Int->List Int->Bool
 | [],[]=>true
 | x::l,y::m=>decide (x=y) && sameI l m
 | _,_=>false
theorem sameI_len: ∀(l m:List Int),l.length≠m.length->sameI l m=false
 | [],[],h=>absurd rfl h
 | [],_::_,_=>rfl
 | _::_,[],_=>rfl
 | g::l,h::m,q=>by
  have:=sameI_len l m (by simpa using q)
  unfold sameI
  rw[this,Bool.and_false]
theorem sameI_iff: ∀(l m:List Int),sameI l m=true ↔ l=m
 | [],[]=>by simp [sameI]
 | [],_::_=>by simp [sameI]
 | _::_,[]=>by simp [sameI]
 | a::l,c::m=>by
  unfold sameI
  simp [sameI_iff l m]
theorem sameI_drop (l m:List Int) (j:Nat) (h:j<l.length) (hm:j<m.length):sameI (l.drop j) (m.drop j)=(decide (l[j]=m[j]) && sameI (l.drop (j+1)) (m.drop (j+1))):=by
 rw[List.drop_eq_getElem_cons h,List.drop_eq_getElem_cons hm]
 rfl
def sameE (x y:SesV):Bool:=decide (x.client=y.client) && decide (x.num=y.num) && decide (x.ren=y.ren)
theorem sameE_iff (x y:SesV):sameE x y=true ↔ x=y:=by
 obtain⟨a,b,c⟩:=x
 obtain⟨d,e,f⟩:=y
 unfold sameE
 simp [and_assoc]
def sameL:List SesV->List SesV->Bool
 | [],[]=>true
 | x::l,y::m=>sameE x y && sameL l m
 | _,_=>false
theorem sameL_len: ∀(l m:List SesV),l.length≠m.length->sameL l m=false
 | [],[],h=>absurd rfl h
 | [],_::_,_=>rfl
 | _::_,[],_=>rfl
 | g::l,h::m,q=>by
  have:=sameL_len l m (by simpa using q)
  unfold sameL
  rw[this,Bool.and_false]
theorem sameL_iff: ∀(l m:List SesV),sameL l m=true ↔ l=m
 | [],[]=>by simp [sameL]
 | [],_::_=>by simp [sameL]
 | _::_,[]=>by simp [sameL]
 | a::l,c::m=>by
  unfold sameL
  simp [sameL_iff l m,sameE_iff]
theorem sameL_drop (l m:List SesV) (j:Nat) (h:j<l.length) (hm:j<m.length):sameL (l.drop j) (m.drop j)=(sameE l[j] m[j] && sameL (l.drop (j+1)) (m.drop (j+1))):=by
 rw[List.drop_eq_getElem_cons h,List.drop_eq_getElem_cons hm]
 rfl
set_option maxHeartbeats 2000000 in
theorem SameSes_any (u v:Value) (l m:List SesV) (w:World) (h:RdS w u l) (h2:RdS w v m):
  Calls Tryz.prog 61 #[u,v] w (SaysB (sameL l m) w):=by
 have hm:=h.len
 have hm2:=h2.len
 obtain⟨a,cap,rfl⟩:=h.form
 obtain⟨a2,cap2,rfl⟩:=h2.form
 by_cases hn:l.length=m.length
 ·have HA:=hid (fun i hi=>rds_at h i hi)
  have HA2:=hid (fun i hi=>rds_at h2 i hi)
  have HD:=hid (sameL_drop l m)
  clear h h2
  obtain⟨L,hL⟩: ∃L,l.length=L:=⟨_,rfl⟩
  have hL2:m.length=L:=by omega
  rw[hL] at hm ⊢
  rw[hL2] at hm2 ⊢
  go_enter Tryz.func61,Tryz.ntmps61
  go_wp2
  go_loopw [5] (fun i wr=> ∃j:Nat,j<=L/\i= .int .i64 j/\Below w.heap.size w wr/\Hid (sameL l m=sameL (l.drop j) (m.drop j))) (fun i _=>L - (intOf i).toNat)
  case atStart=>exact⟨0,by omega,rfl,Below.refl _ _,hid rfl⟩
  case round=>
   obtain⟨j,hj,rfl,hb,ha⟩:=hrel
   have HB:=hid hb
   clear hb
   by_cases hlt:j<L
   ·obtain⟨b,o,rfl,hc⟩:=HA.out j (by omega)
    obtain⟨b',o',rfl,hc2⟩:=HA2.out j (by omega)
    obtain⟨q0,q1,q2⟩:=hc _ HB.out
    obtain⟨p0,p1,p2⟩:=hc2 _ HB.out
    have hd:=HD.out j (by omega) (by omega)
    clear HA HA2 HD hc hc2
    generalize l[j]=x at q0 q1 q2 hd
    generalize m[j]=y at p0 p1 p2 hd
    obtain⟨xc,xn,xr⟩:=x
    obtain⟨yc,yn,yr⟩:=y
    dsimp only at q0 q1 q2 p0 p1 p2
    have hse:sameE ⟨xc,xn,xr⟩ ⟨yc,yn,yr⟩=((xc==yc) && ((xn==yn) && (xr==yr))):=by unfold sameE;by_cases g1:xc=yc<;>by_cases g2:xn=yn<;>by_cases g3:xr=yr<;>simp [g1,g2,g3]
    rw[hse] at hd
    cases g1:(xc==yc)
    ·rw[g1,Bool.false_and,Bool.false_and] at hd
     have H:=hid hd
     clear hd hse
     go_upto_region 6 with fail
     go_quiet (fail)
     go_wp2
     go_ret
     exact⟨by rw[ha.out,H.out];rfl,below_drewN6 HB.out nq⟩
    ·cases g2:(xn==yn)
     ·rw[g1,g2,Bool.false_and,Bool.and_false,Bool.false_and] at hd
      have H:=hid hd
      clear hd hse
      go_upto_region 6 with fail
      go_quiet (fail)
      go_wp2
      go_ret
      exact⟨by rw[ha.out,H.out];rfl,below_drewN6 HB.out nq⟩
     ·cases g3:(xr==yr)
      ·rw[g1,g2,g3,Bool.and_false,Bool.and_false,Bool.false_and] at hd
       have H:=hid hd
       clear hd hse
       go_upto_region 6 with fail
       go_quiet (fail)
       go_wp2
       go_ret
       exact⟨by rw[ha.out,H.out];rfl,below_drewN6 HB.out nq⟩
      ·rw[g1,g2,g3,Bool.and_true,Bool.and_true,Bool.true_and] at hd
       have H:=hid hd
       clear hd hse
       go_upto_region 6 with fail
       go_quiet (fail)
       go_wp2
       go_roundw
       case rel=>exact⟨j+1,by omega,by go_num,below_drewN6 HB.out nq,hid (by rw[ha.out,H.out])⟩
       case measure=>simp [intOf];omega
   ·obtain rfl:j=L:=by omega
    go_wp2
    go_ret
    have ha:=ha.out
    rw[<-hL,List.drop_length,hL,<-hL2,List.drop_length] at ha
    exact⟨by rw[ha];rfl,HB.out⟩
 ·have d1:((l.length:Int) != (m.length:Int))=true:=by simp;omega
  have e:sameL l m=false:=sameL_len l m hn
  rw[e]
  clear h h2 hn e
  generalize l.length=L at*
  generalize m.length=M at*
  go_enter Tryz.func61,Tryz.ntmps61
  go_wp2
  go_ret
  exact⟨rfl,Below.refl _ _⟩
end Cm
end Go.Proofs.YtlnbmblbeaodcaaGreat

/- Contracts: padlockref6's OpenSession. -/
set_option linter.unusedVariables false
set_option maxRecDepth 8000
set_option linter.unusedSimpArgs false
namespace Go.Proofs.YtlnbmblbeaodcaaGreat
open Lib (hid)
open Go.RowKit
namespace Cm

theorem infoS:(Tryz.prog.info? 73).map (fun i=>(i.zero,i.size,i.bytes))=some (some (.agg #[.int .i64 0,.int .i64 0,.int .i64 0]),3,24):=by kernel_rfl
def GetsS (r:List SesV × Int) (w:World) (e:Ending) (w':World):Prop:=
 ∃v,e= .returned (.tuple #[v,.int .i64 r.2])/\w'.ownsRow w.heap.size 73 3 v r.1.length (flatX cellsS r.1)/\Below w.heap.size w w'
theorem GetsS.empty {w w':World} {e:Ending} {c:Int} (he:e= .returned (.tuple #[.slice none 0 0,.int .i64 c])) (hb:Below w.heap.size w w'):GetsS ([],c) w e w':=
 ⟨.slice none 0 0,he,World.ownsRow_nil _ _ _ _,hb⟩
theorem takenS_drop (l:List SesV) (c n:Int) (j:Nat) (h:j<l.length):takenS (l.drop j) c n=((decide (l[j].num =n) && !decide (l[j].client =c)) || takenS (l.drop (j+1)) c n):=by
 rw[List.drop_eq_getElem_cons h]
 rfl
theorem cellsS_one (s:SesV): ∀u∈cellsS s,u.oneCell'=true:=by
 intro u hu
 unfold cellsS at hu
 simp only[List.mem_cons,List.not_mem_nil,or_false] at hu
 rcases hu with rfl | rfl | rfl<;>rfl
set_option maxHeartbeats 4000000 in
theorem Open_any (v:Value) (l:List SesV) (c n t:Int) (w:World) (h:RdS w v l):Calls Tryz.prog 169 #[v,.int .i64 c,.int .i64 n,.int .i64 t] w (GetsS (openS l c n t) w):=by
 have hm:=h.len
 have CF:=hid (Find_any v l c w h)
 obtain⟨a,cap,rfl⟩:=h.form
 have HA:=hid (fun i hi=>rds_at h i hi)
 have HT:=hid (takenS_drop l c n)
 clear h
 cases n1:clientF c
 case false=>
  have e:openS l c n t=([],1):=by unfold openS;simp [n1]
  rw[e]
  go_enter Tryz.func169,Tryz.ntmps169
  go_wp2_with (go_at_call 98;refine(client6_any _ _).mono ?_;rw[n1];rintro e w1 ⟨rfl,rfl⟩)
  go_ret2
  exact GetsS.empty rfl (Below.refl _ _)
 cases n2:highF n 1
 case false=>
  have e:openS l c n t=([],1):=by unfold openS;simp [n2]
  rw[e]
  go_enter Tryz.func169,Tryz.ntmps169
  go_wp2_with (go_at_call 98;refine(client6_any _ _).mono ?_;rw[n1];rintro e w1 ⟨rfl,rfl⟩)
  refine(high6_any _ _ _).mono ?_
  rw[n2]
  rintro e w1 ⟨rfl,rfl⟩
  go_wp2
  go_ret2
  exact GetsS.empty rfl (Below.refl _ _)
 cases n3:highF t 0
 case false=>
  have e:openS l c n t=([],1):=by unfold openS;simp [n3]
  rw[e]
  go_enter Tryz.func169,Tryz.ntmps169
  go_wp2_with (go_at_call 98;refine(client6_any _ _).mono ?_;rw[n1];rintro e w1 ⟨rfl,rfl⟩)
  refine(high6_any _ _ _).mono ?_
  rw[n2]
  rintro e w1 ⟨rfl,rfl⟩
  go_wp2_with fail
  refine(high6_any _ _ _).mono ?_
  rw[n3]
  rintro e w1 ⟨rfl,rfl⟩
  go_wp2
  go_ret2
  exact GetsS.empty rfl (Below.refl _ _)
 have HE:Hid (openS l c n t=if takenS l c n=true then ([],1) else if (findS l c).2=true then ([],7) else if 5<=l.length then ([],5) else (putS ⟨c,n,t⟩ l,0)):=hid (by unfold openS;simp [n1,n2,n3])
 have HPA:=hid (putN_all ⟨c,n,t⟩ l)
 have HPS:=hid (putN_succ ⟨c,n,t⟩ l)
 have HPL:=hid (putN_length ⟨c,n,t⟩ l)
 obtain⟨L,hL⟩: ∃L,l.length=L:=⟨_,rfl⟩
 have HLL:=hid hL
 rw[hL] at hm CF ⊢
 clear hL
 obtain⟨i0,hi,hz0,hz1,hz2⟩:=info_parts infoS
 go_enter Tryz.func169,Tryz.ntmps169
 go_wp2_with (go_at_call 98;refine(client6_any _ _).mono ?_;rw[n1];rintro e w1 ⟨rfl,rfl⟩)
 refine(high6_any _ _ _).mono ?_
 rw[n2]
 rintro e w1 ⟨rfl,rfl⟩
 go_wp2_with fail
 refine(high6_any _ _ _).mono ?_
 rw[n3]
 rintro e w1 ⟨rfl,rfl⟩
 clear n1 n2 n3
 go_wp2
 go_loop [10] (fun i=> ∃j:Nat,j<=L/\i= .int .i64 j/\Hid (takenS l c n=takenS (l.drop j) c n)) (fun i=>L - (intOf i).toNat)
 case atStart=>exact⟨0,by omega,rfl,hid rfl⟩
 case round=>
  obtain⟨j,hj,rfl,ha⟩:=hrel
  by_cases hlt:j<L
  ·have hjl:j<l.length:=by rw[HLL.out];exact hlt
   obtain⟨b,o,rfl,hc⟩:=HA.out j hjl
   obtain⟨q0,q1,q2⟩:=hc w (Below.refl _ _)
   have hd:=HT.out j hjl
   clear hc
   generalize l[j]=g at q0 q1 q2 hd
   obtain⟨gc,gn,gr⟩:=g
   dsimp only at q0 q1 q2 hd
   by_cases e1:gn=n
   ·have d1:(gn==n)=true:=by simpa using e1
    by_cases e2:gc=c
    ·have d2:(gc != c)=false:=by simp [e2]
     rw[decide_eq_true e2,Bool.not_true,Bool.and_false,Bool.false_or] at hd
     have H:=hid hd
     clear hd e1 e2
     go_wp2
     go_round
     case rel=>exact⟨j+1,by omega,by go_num,hid (by rw[ha.out,H.out])⟩
     case measure=>simp [intOf];omega
    ·have d2:(gc != c)=true:=by simpa using e2
     rw[decide_eq_true e1,decide_eq_false e2,Bool.not_false,Bool.true_and,Bool.true_or] at hd
     have H:=hid hd
     clear hd e1 e2
     go_wp2
     go_ret2
     rw[HE.out,ha.out,H.out,if_pos rfl]
     exact GetsS.empty rfl (Below.refl _ _)
   ·have d1:(gn==n)=false:=by simpa using e1
    rw[decide_eq_false e1,Bool.false_and,Bool.false_or] at hd
    have H:=hid hd
    clear hd e1
    go_wp2
    go_round
    case rel=>exact⟨j+1,by omega,by go_num,hid (by rw[ha.out,H.out])⟩
    case measure=>simp [intOf];omega
  ·obtain rfl:j=L:=by omega
   have ha:=ha.out
   rw[<-HLL.out,List.drop_length] at ha
   have ht:takenS l c n=false:=ha
   have he:=HE.out
   rw[ht,if_neg (by simp)] at he
   clear ha ht HE HT
   have CF2:=CF.out
   unfold Found at CF2
   cases hf:(findS l c).2
   case true=>
    rw[hf,if_pos rfl] at he
    rw[hf] at CF2
    have HE:=hid he
    have CF2:=hid CF2
    clear he hf
    generalize (findS l c).1=fs at CF2
    obtain⟨fc,fn,fr⟩:=fs
    unfold sesVal at CF2
    dsimp only at CF2
    go_wp2_with (go_at_call 49;refine CF2.out.mono ?_;rintro e w1 ⟨rfl,hb1⟩)
    go_ret2
    rw[HE.out]
    exact GetsS.empty rfl (stepAlloc hb1 _)
   rw[hf,if_neg (by simp),HLL.out] at he
   rw[hf] at CF2
   have CF2:=hid CF2
   clear hf
   generalize (findS l c).1=fs at CF2
   obtain⟨fc,fn,fr⟩:=fs
   unfold sesVal at CF2
   dsimp only at CF2
   by_cases h5:5<=j
   ·have d5:decide ((5:Int)<=(j:Int))=true:=by simp;omega
    rw[if_pos h5] at he
    have HE:=hid he
    clear he
    go_wp2_with (go_at_call 49;refine CF2.out.mono ?_;rintro e w1 ⟨rfl,hb1⟩)
    go_ret2
    rw[HE.out]
    exact GetsS.empty rfl (stepAlloc hb1 _)
   have d5:decide ((5:Int)<=(j:Int))=false:=by simp;omega
   rw[if_neg h5] at he
   have HE:=hid he
   clear he
   go_wp2_with (go_at_call 49;refine CF2.out.mono ?_;rintro e w1 ⟨rfl,hb1⟩)
   have HW:=hid (stepAlloc hb1 (.cells #[.int .i64 fc,.int .i64 fn,.int .i64 fr] 73))
   clear hb1 CF CF2 d5
   go_loopw [13,14,15] (fun m p i wr=> ∃(k:Nat) (M:List SesV) (P:Bool),k<=j/\i= .int .i64 k/\p= .bool P/\Hid (putN ⟨c,n,t⟩ l k=(M,P))/\M.length<=6/\Hid (wr.ownsRow w.heap.size 73 3 m M.length (flatX cellsS M))/\Hid (Below w.heap.size w wr)) (fun _ _ i _=>j - (intOf i).toNat)
   case atStart=>exact⟨0,[],false,by omega,rfl,rfl,hid (putN_zero _ _),by simp,hid (World.ownsRow_nil _ _ _ _),HW⟩
   case round=>
    obtain⟨k,M,P,hk,rfl,rfl,HP,hM6,HO,HB⟩:=hrel
    by_cases hlt:k<j
    ·have hkl:k<l.length:=by rw[HLL.out];exact hlt
     obtain⟨b,o,rfl,hc⟩:=HA.out k hkl
     obtain⟨q0,q1,q2⟩:=hc _ HB.out
     have hp:=HPS.out k hkl
     have HPN:=hid (HPL.out (k+1) (by rw[HLL.out];omega))
     have hM:=(HPL.out k (by rw[HLL.out];omega)).1
     rw[HP.out] at hp hM
     dsimp only at hM
     have HC:Hid (∀w',Below w.heap.size w w'->w'.cell? ⟨b,o+k*3,none⟩=some (.int .i64 l[k].client)/\w'.cell? ⟨b,o+k*3+1,none⟩=some (.int .i64 l[k].num)/\w'.cell? ⟨b,o+k*3+2,none⟩=some (.int .i64 l[k].ren)):=hc
     clear hc
     generalize l[k]=g at q0 q1 q2 hp HC
     obtain⟨gc,gn,gr⟩:=g
     dsimp only at q0 q1 q2 HC
     have f1:(0:Int)<=(k:Int):=by omega
     have f2:(k:Int)<(j:Int):=by omega
     cases P
     case true=>
      have hp2:putN ⟨c,n,t⟩ l (k+1)=(M++ [⟨gc,gn,gr⟩],true):=by rw[hp];simp [putE]
      have H:=hid hp2
      have hl6:(M++ [(⟨gc,gn,gr⟩:SesV)]).length <=6:=by have:=HPN.out.1;rw[H.out] at this;dsimp only at this;omega
      have HL6:=hid hl6
      clear hp hp2 hl6
      go_wp2_with (first
       | (at_builtin;refine wpList_append_one cellsS_length (by omega) rfl (.tmp 85) (.tmp 90) 22 rfl 73 i0 _ 24 Tryz.underlying22 hi hz0 hz1 hz2 rfl #[.int .i64 gc,.int .i64 gn,.int .i64 gr] ⟨gc,gn,gr⟩ rfl (cellsS_one _) M w.heap.size w.heap.size w _ rfl rfl HO.out (by unfold maxLen;first | omega | (simp;omega)) (by first | omega | (simp;omega)) HB.out.size HB.out (Nat.le_refl _) ?_;intro v5 w5 ho5 hb5 _;have HO5:=hid ho5;have HB5:=hid hb5;clear ho5 hb5))
      go_roundw
      case rel=>exact⟨k+1,M++ [⟨gc,gn,gr⟩],true,by omega,by go_num,rfl,H,HL6.out,HO5,HB5⟩
      case measure=>simp [intOf];omega
     case false=>
      by_cases hcg:c<gc
      ·have d1:decide (c<gc)=true:=decide_eq_true hcg
       have hp2:putN ⟨c,n,t⟩ l (k+1)=(M++ [⟨c,n,t⟩]++ [⟨gc,gn,gr⟩],true):=by rw[hp];simp [putE,hcg]
       have H:=hid hp2
       have hl6:(M++ [(⟨c,n,t⟩:SesV)]++ [(⟨gc,gn,gr⟩:SesV)]).length <=6:=by have:=HPN.out.1;rw[H.out] at this;dsimp only at this;omega
       have HL6:=hid hl6
       clear hp hp2 hl6 hcg
       go_wp2_with (first
        | (at_builtin;refine wpList_append_one cellsS_length (by omega) rfl (.tmp 78) (.tmp 83) 22 rfl 73 i0 _ 24 Tryz.underlying22 hi hz0 hz1 hz2 rfl #[.int .i64 c,.int .i64 n,.int .i64 t] ⟨c,n,t⟩ rfl (cellsS_one _) M w.heap.size w.heap.size w _ rfl rfl HO.out (by unfold maxLen;first | omega | (simp;omega)) (by first | omega | (simp;omega)) HB.out.size HB.out (Nat.le_refl _) ?_;intro v4 w4 ho4 hb4 _;have HO4:=hid ho4;have HB4:=hid hb4;clear ho4 hb4;obtain⟨q0,q1,q2⟩:=HC.out _ HB4.out)
        | (at_builtin;refine wpList_append_one cellsS_length (by omega) rfl (.tmp 85) (.tmp 90) 22 rfl 73 i0 _ 24 Tryz.underlying22 hi hz0 hz1 hz2 rfl #[.int .i64 gc,.int .i64 gn,.int .i64 gr] ⟨gc,gn,gr⟩ rfl (cellsS_one _) (M++ [(⟨c,n,t⟩:SesV)]) w.heap.size w.heap.size w _ rfl rfl HO4.out (by unfold maxLen;first | omega | (simp;omega)) (by first | omega | (simp;omega)) HB4.out.size HB4.out (Nat.le_refl _) ?_;intro v5 w5 ho5 hb5 _;have HO5:=hid ho5;have HB5:=hid hb5;clear ho5 hb5))
       go_roundw
       case rel=>exact⟨k+1,M++ [⟨c,n,t⟩]++ [⟨gc,gn,gr⟩],true,by omega,by go_num,rfl,H,HL6.out,HO5,HB5⟩
       case measure=>simp [intOf];omega
      ·have d1:decide (c<gc)=false:=decide_eq_false hcg
       have hp2:putN ⟨c,n,t⟩ l (k+1)=(M++ [⟨gc,gn,gr⟩],false):=by rw[hp];simp [putE,hcg]
       have H:=hid hp2
       have hl6:(M++ [(⟨gc,gn,gr⟩:SesV)]).length <=6:=by have:=HPN.out.1;rw[H.out] at this;dsimp only at this;omega
       have HL6:=hid hl6
       clear hp hp2 hl6 hcg
       go_wp2_with (first
        | (at_builtin;refine wpList_append_one cellsS_length (by omega) rfl (.tmp 85) (.tmp 90) 22 rfl 73 i0 _ 24 Tryz.underlying22 hi hz0 hz1 hz2 rfl #[.int .i64 gc,.int .i64 gn,.int .i64 gr] ⟨gc,gn,gr⟩ rfl (cellsS_one _) M w.heap.size w.heap.size w _ rfl rfl HO.out (by unfold maxLen;first | omega | (simp;omega)) (by first | omega | (simp;omega)) HB.out.size HB.out (Nat.le_refl _) ?_;intro v5 w5 ho5 hb5 _;have HO5:=hid ho5;have HB5:=hid hb5;clear ho5 hb5))
       go_roundw
       case rel=>exact⟨k+1,M++ [⟨gc,gn,gr⟩],false,by omega,by go_num,rfl,H,HL6.out,HO5,HB5⟩
       case measure=>simp [intOf];omega
    ·obtain rfl:k=j:=by omega
     have he:=HE.out
     have ha:=HPA.out
     rw[HLL.out,HP.out] at ha
     cases P
     case true=>
      have ha:M=putS ⟨c,n,t⟩ l:=by rw[<-ha];rfl
      rw[<-ha] at he
      have HE:=hid he
      clear he ha
      go_wp2
      go_ret2
      rw[HE.out]
      exact⟨_,rfl,HO.out,HB.out⟩
     case false=>
      have ha:M++ [⟨c,n,t⟩]=putS ⟨c,n,t⟩ l:=by rw[<-ha];rfl
      rw[<-ha] at he
      have HE:=hid he
      clear he ha
      go_wp2_with (first
       | (at_builtin;refine wpList_append_one cellsS_length (by omega) rfl (.tmp 94) (.tmp 99) 22 rfl 73 i0 _ 24 Tryz.underlying22 hi hz0 hz1 hz2 rfl #[.int .i64 c,.int .i64 n,.int .i64 t] ⟨c,n,t⟩ rfl (cellsS_one _) M w.heap.size w.heap.size w _ rfl rfl HO.out (by unfold maxLen;first | omega | (simp;omega)) (by first | omega | (simp;omega)) HB.out.size HB.out (Nat.le_refl _) ?_;intro v5 w5 ho5 hb5 _;have HO5:=hid ho5;have HB5:=hid hb5;clear ho5 hb5))
      go_ret2
      rw[HE.out]
      exact⟨_,rfl,HO5.out,HB5.out⟩
end Cm
end Go.Proofs.YtlnbmblbeaodcaaGreat
