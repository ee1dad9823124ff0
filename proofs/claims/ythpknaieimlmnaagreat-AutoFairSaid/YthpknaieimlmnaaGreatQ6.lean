/- Texts laid together by program. -/
import Derived.Test.YthpknaieimlmnaaGreatQ5
import Derived.Lib.QuietBelow
import Derived.Deep.RegionHeld3
import Derived.BigQuiet
import Derived.Deep.Cut
import Derived.Deep.CutBlock
import Derived.Deep.DeepCutAuto
import Derived.Deep.CutRange
import Derived.Deep.RegionWith
/- Locks that are held, in memory; contracts of the document's Token. -/
set_option linter.unusedVariables false
set_option maxRecDepth 8000
set_option linter.unusedSimpArgs false
namespace Go.Proofs.YthpknaieimlmnaaGreat
open Lib (hid)
open Go.RowKit
namespace Cm

structure RdH (w:World) (v:Value) (l:List GrantV):Prop where
 ex: ∃a cap,v= .slice a l.length cap/\l.length<=cap/\cap<=maxLen/\(a=none->l= [])/\
  ∀x,a=some x->l≠ []->x.spot=none/\ ∀i (h:i<l.length),w.cell? ⟨x.block,x.off+i*2,none⟩=some (.string (bstr l[i].name))/\w.cell? ⟨x.block,x.off+i*2+1,none⟩=some (.int .i64 l[i].token)
theorem RdH.later {w w':World} {v:Value} {l:List GrantV} (h:RdH w v l) (hb:Below w.heap.size w w'):RdH w' v l:=by
 obtain⟨a,cap,hv,h1,h2,h3,h4⟩:=h.ex
 refine⟨a,cap,hv,h1,h2,h3,fun x hx hp=>?_⟩
 obtain⟨hs,hc⟩:=h4 x hx hp
 refine⟨hs,fun i hi=>?_⟩
 obtain⟨c1,c2⟩:=hc i hi
 exact⟨(hb.cell (lt_of_cell c1)).trans c1,(hb.cell (lt_of_cell c2)).trans c2⟩
theorem RdH.nil (w:World):RdH w (.slice none 0 0) []:=⟨none,0,rfl,Nat.le_refl _,by unfold maxLen;omega,fun _=>rfl,fun x hx=>by cases hx⟩
theorem RdH.at {w:World} {a:Option Addr} {n cap:Nat} {l:List GrantV} (h:RdH w (.slice a n cap) l) (i:Nat) (hi:i<l.length) (w':World) (hb:Below w.heap.size w w'):
  ∃b o,a=some ⟨b,o,none⟩/\w'.cell? ⟨b,o+i*2,none⟩=some (.string (bstr l[i].name))/\w'.cell? ⟨b,o+i*2+1,none⟩=some (.int .i64 l[i].token):=by
 obtain⟨a',cap',hv,h1,h2,h3,h4⟩:=(h.later hb).ex
 cases hv
 match a,h3,h4 with
 | none,h3,_=>have:=h3 rfl;subst this;simp at hi
 | some ⟨b,o,sp⟩,_,h4=>
  obtain⟨hs,hc⟩:=h4 _ rfl (by intro q;subst q;simp at hi)
  simp only at hs
  subst hs
  exact⟨b,o,rfl,hc i hi⟩
theorem RdH.len {w:World} {v:Value} {l:List GrantV} (h:RdH w v l):l.length<=9223372036854775807:=by
 obtain⟨a,cap,hv,h1,h2,h3,h4⟩:=h.ex
 unfold maxLen at h2
 omega
def repVal (r:ReplyV) (v:Value):Value:=.agg #[.int .i64 r.code,.int .i64 r.session,.int .i64 r.ahead,v]
theorem box4 {w w':World} {x y z u:Value} {t:TypeId} (h:Below (w.alloc (.cells #[x,y,z,u] t)).heap.size (w.alloc (.cells #[x,y,z,u] t)) w'):
  w'.cell? ⟨w.heap.size,0,none⟩=some x/\w'.cell? ⟨w.heap.size,1,none⟩=some y/\w'.cell? ⟨w.heap.size,2,none⟩=some z/\w'.cell? ⟨w.heap.size,3,none⟩=some u:=by
 have hl:w.heap.size<(w.alloc (.cells #[x,y,z,u] t)).heap.size :=by simp
 refine⟨?_,?_,?_,?_⟩
 ·rw[h.cell (p:=⟨w.heap.size,0,none⟩) hl];simp [go_sem]
 ·rw[h.cell (p:=⟨w.heap.size,1,none⟩) hl];simp [go_sem]
 ·rw[h.cell (p:=⟨w.heap.size,2,none⟩) hl];simp [go_sem]
 ·rw[h.cell (p:=⟨w.heap.size,3,none⟩) hl];simp [go_sem]
def sameH:List GrantV->List GrantV->Bool
 | [],[]=>true
 | g::l,h::m=>decide (g.name=h.name) && decide (g.token=h.token) && sameH l m
 | _,_=>false
theorem str_eq (a b:List UInt8):((bstr a).toList ==(bstr b).toList)=decide (a=b):=by
 rw[ByteArray.toList_eq,ByteArray.toList_eq,bstr_toList,bstr_toList]
 by_cases h:a=b<;>simp [h]
theorem same_len: ∀(l m:List GrantV),l.length≠m.length->sameH l m=false
 | [],[],h=>absurd rfl h
 | [],_::_,_=>rfl
 | _::_,[],_=>rfl
 | g::l,h::m,q=>by
  have:=same_len l m (by simpa using q)
  unfold sameH
  rw[this,Bool.and_false]
theorem sameH_iff: ∀(l m:List GrantV),sameH l m=true ↔ l=m
 | [],[]=>by simp [sameH]
 | [],_::_=>by simp [sameH]
 | _::_,[]=>by simp [sameH]
 | ⟨a,b⟩::l,⟨c,d⟩::m=>by
  unfold sameH
  simp [sameH_iff l m]
theorem below_drewN {B:Nat} {a w:World} (h:Below B a w) (n:Nat):Below B a (w.drewN n):=⟨h.os,h.tape,h.output,h.size,h.block⟩
theorem same_drop (l m:List GrantV) (j:Nat) (h:j<l.length) (hm:j<m.length):sameH (l.drop j) (m.drop j)=(decide (l[j].name =m[j].name) && decide (l[j].token =m[j].token) && sameH (l.drop (j+1)) (m.drop (j+1))):=by
 rw[List.drop_eq_getElem_cons h,List.drop_eq_getElem_cons hm]
 rfl
set_option maxHeartbeats 1000000 in
theorem SameGrants_any (u v:Value) (l m:List GrantV) (w:World) (h:RdH w u l) (h2:RdH w v m):
  Calls Tryz.prog 35 #[u,v] w (SaysB (sameH l m) w):=by
 have hm:=h.len
 have hm2:=h2.len
 obtain⟨a,cap,rfl, -⟩:=h.ex
 obtain⟨a2,cap2,rfl, -⟩:=h2.ex
 by_cases hn:l.length=m.length
 ·have HA:=hid (fun i hi=>h.at i hi)
  have HA2:=hid (fun i hi=>h2.at i hi)
  have HD:=hid (same_drop l m)
  clear h h2
  obtain⟨L,hL⟩: ∃L,l.length=L:=⟨_,rfl⟩
  have hL2:m.length=L:=by omega
  rw[hL] at hm ⊢
  rw[hL2] at hm2 ⊢
  go_enter Tryz.func35,Tryz.ntmps35
  go_wp2
  go_loopw [5] (fun i wr=> ∃j:Nat,j<=L/\i= .int .i64 j/\Below w.heap.size w wr/\Hid (sameH l m=sameH (l.drop j) (m.drop j))) (fun i _=>L - (intOf i).toNat)
  case atStart=>exact⟨0,by omega,rfl,Below.refl _ _,hid rfl⟩
  case round=>
   obtain⟨j,hj,rfl,hb,ha⟩:=hrel
   have HB:=hid hb
   clear hb
   by_cases hlt:j<L
   ·obtain⟨b,o,rfl,q1,q2⟩:=HA.out j (by omega) _ HB.out
    obtain⟨b',o',rfl,q3,q4⟩:=HA2.out j (by omega) _ HB.out
    have hd:=HD.out j (by omega) (by omega)
    clear HA HA2 HD
    generalize l[j]=g at q1 q2 hd
    generalize m[j]=g2 at q3 q4 hd
    have hE:=str_eq g.name g2.name
    by_cases e1:g.name=g2.name/\g.token=g2.token
    ·rw[decide_eq_true e1.1,decide_eq_true e1.2] at hd
     rw[decide_eq_true e1.1] at hE
     have d1:(g.token==g2.token)=true:=by simp [e1.2]
     have H:=hid hd
     clear hd e1
     go_upto_region 6 with fail
     go_quiet (fail)
     go_wp2
     go_roundw
     case rel=>exact⟨j+1,by omega,by go_num,below_drewN HB.out nq,hid (by rw[ha.out,H.out];rfl)⟩
     case measure=>simp [intOf];omega
    ·have d0:(decide (g.name=g2.name) && decide (g.token=g2.token))=false:=by simpa using e1
     rw[d0] at hd
     have H:=hid hd
     clear hd d0
     by_cases e2:g.name=g2.name
     ·rw[decide_eq_true e2] at hE
      have d1:(g.token==g2.token)=false:=by simpa using fun q=>e1 ⟨e2,q⟩
      clear e1 e2
      go_upto_region 6 with fail
      go_quiet (fail)
      go_wp2
      go_ret
      exact⟨by rw[ha.out,H.out];rfl,below_drewN HB.out nq⟩
     ·rw[decide_eq_false e2] at hE
      clear e1 e2
      go_upto_region 6 with fail
      go_quiet (fail)
      go_wp2
      go_ret
      exact⟨by rw[ha.out,H.out];rfl,below_drewN HB.out nq⟩
   ·obtain rfl:j=L:=by omega
    go_wp2
    go_ret
    have ha:=ha.out
    rw[<-hL,List.drop_length,hL,<-hL2,List.drop_length] at ha
    exact⟨by rw[ha];rfl,HB.out⟩
 ·have d1:((l.length:Int) != (m.length:Int))=true:=by simp;omega
  have e:sameH l m=false:=same_len l m hn
  rw[e]
  clear h h2 hn e
  generalize l.length=L at*
  generalize m.length=M at*
  go_enter Tryz.func35,Tryz.ntmps35
  go_wp2
  go_ret
  exact⟨rfl,Below.refl _ _⟩
end Cm
end Go.Proofs.YthpknaieimlmnaaGreat

/- Contracts: the document's SameReply, MayReply. -/
set_option linter.unusedVariables false
set_option maxRecDepth 8000
set_option linter.unusedSimpArgs false
namespace Go.Proofs.YthpknaieimlmnaaGreat
open Lib (hid)
open Go.RowKit
namespace Cm

def sameP (r q:ReplyV):Bool:=decide (r.code=q.code) && decide (r.session=q.session) && decide (r.ahead=q.ahead) && sameH r.held q.held
theorem sameP_iff (r q:ReplyV):sameP r q=true ↔ r=q:=by
 obtain⟨a,b,c,l⟩:=r
 obtain⟨a',b',c',l'⟩:=q
 unfold sameP
 simp [sameH_iff,and_assoc]
set_option maxHeartbeats 1000000 in
theorem SameReply_any (r q:ReplyV) (u v:Value) (w:World) (h:RdH w u r.held) (h2:RdH w v q.held):
  Calls Tryz.prog 25 #[repVal r u,repVal q v] w (SaysB (sameP r q) w):=by
 obtain⟨k,s,d,l⟩:=r
 obtain⟨k',s',d',l'⟩:=q
 unfold repVal sameP
 dsimp only at h h2 ⊢
 have C:Hid (∀w',Below w.heap.size w w'->Calls Tryz.prog 35 #[u,v] w' (SaysB (sameH l l') w')):=fun w' hb=>SameGrants_any _ _ _ _ _ (h.later hb) (h2.later hb)
 clear h h2
 generalize sameH l l'=b at*
 by_cases e1:k=k'
 ·subst e1
  by_cases e2:s=s'
  ·subst e2
   by_cases e3:d=d'
   ·subst e3
    go_enter Tryz.func25,Tryz.ntmps25
    go_wp2_with (go_at_call 35;refine(C.out _ (stepAlloc (newAlloc _ _) _)).mono ?_;rintro e w1 ⟨rfl,hb1⟩)
    go_ret
    exact⟨by simp,step (stepAlloc (newAlloc _ _) _) hb1⟩
   ·have d1:(d==d')=false:=by simpa using e3
    go_enter Tryz.func25,Tryz.ntmps25
    go_wp2
    go_ret
    exact⟨by simp [e3],stepAlloc (newAlloc _ _) _⟩
  ·have d1:(s==s')=false:=by simpa using e2
   go_enter Tryz.func25,Tryz.ntmps25
   go_wp2
   go_ret
   exact⟨by simp [e2],stepAlloc (newAlloc _ _) _⟩
 ·have d1:(k==k')=false:=by simpa using e1
  go_enter Tryz.func25,Tryz.ntmps25
  go_wp2
  go_ret
  exact⟨by simp [e1],stepAlloc (newAlloc _ _) _⟩
def prevN (l:List GrantV) (j:Nat):Option (List UInt8):=if j=0 then none else (l[j - 1]?).map (·.name)
theorem heldOk_drop (l:List GrantV) (j:Nat) (h:j<l.length):heldOk (prevN l j) (l.drop j)=(grantOk (prevN l j) l[j] && heldOk (prevN l (j+1)) (l.drop (j+1))):=by
 rw[List.drop_eq_getElem_cons h]
 have:prevN l (j+1)=some l[j].name :=by simp [prevN,h]
 rw[this]
 rfl
theorem less_tri: ∀a b:List UInt8,(Op.bytesLess a b=true/\Op.bytesLess b a=false/\a≠b)\/(Op.bytesLess a b=false/\Op.bytesLess b a=true/\a≠b)\/(a=b/\Op.bytesLess a b=false):=by
 intro a
 induction a with
 | nil=>intro b;cases b<;>simp [Op.bytesLess]
 | cons x a ih=>
  intro b
  cases b with
  | nil=>simp [Op.bytesLess]
  | cons y b=>
   have:=ih b
   rcases Nat.lt_trichotomy x.toNat y.toNat with h | h | h
   ·have h1:x<y:=h
    have h2: ¬y<x:=fun q=>by have:y.toNat<x.toNat:=q;omega
    have h3:x≠y:=fun q=>by subst q;omega
    have h4:y≠x:=fun q=>h3 q.symm
    simp [Op.bytesLess,h1,h2,h3,h4]
   ·obtain rfl:x=y:=UInt8.toNat_inj.1 h
    have h2: ¬x<x:=fun q=>by have:x.toNat<x.toNat:=q;omega
    simpa [Op.bytesLess,h2] using this
   ·have h1:y<x:=h
    have h2: ¬x<y:=fun q=>by have:x.toNat<y.toNat:=q;omega
    have h3:x≠y:=fun q=>by subst q;omega
    have h4:y≠x:=fun q=>h3 q.symm
    simp [Op.bytesLess,h1,h2,h3,h4]
theorem str_less (a b:List UInt8):Op.bytesLess (bstr a).toList (bstr b).toList =Op.bytesLess a b:=by
 rw[ByteArray.toList_eq,ByteArray.toList_eq,bstr_toList,bstr_toList]
theorem quiet_eq {P:Program} {f:FuncId} {args:Array Value} {w:World} {n:Nat} {v:Value}
  (h:Calls P f args (w.drewN n) fun e w'=>e= .returned v/\w.drewN n=w'):Calls P f args (w.drewN n) fun e w''=>e= .returned v/\ ∃m,w''=w.drewN m:=
 h.mono fun _ _ ⟨he,hm⟩=>⟨he,n,hm.symm⟩
theorem prevN_zero (l:List GrantV):prevN l 0=none:=rfl
theorem prevN_succ (l:List GrantV) (j:Nat) (h:j<l.length):prevN l (j+1)=some l[j].name :=by simp [prevN,h]
set_option maxHeartbeats 4000000 in
theorem MayReply_any (r:ReplyV) (v:Value) (w:World) (h:RdH w v r.held):
  Calls Tryz.prog 180 #[repVal r v] w (SaysB (mayP r) w):=by
 obtain⟨k,s,d,l⟩:=r
 unfold repVal mayP
 dsimp only at h ⊢
 have hm:=h.len
 obtain⟨a,cap,rfl, -⟩:=h.ex
 have C1:=hid (fun w=>high_any s 0 w)
 by_cases c1:0<=k
 case neg=>
  rw[decide_eq_false c1]
  clear h
  generalize l.length=L at*
  have d1:decide (k<0)=true:=by simp;omega
  go_enter Tryz.func180,Tryz.ntmps180
  go_wp2
  go_ret
  exact⟨by simp,newAlloc _ _⟩
 by_cases c2:k<=12
 case neg=>
  rw[decide_eq_false c2]
  clear h
  have d1:decide (k<0)=false:=by simp;omega
  have d2:decide (12<k)=true:=by simp;omega
  go_enter Tryz.func180,Tryz.ntmps180
  go_wp2
  go_ret
  exact⟨by simp,newAlloc _ _⟩
 have d1:decide (k<0)=false:=by simp;omega
 have d2:decide (12<k)=false:=by simp;omega
 rw[decide_eq_true c1,decide_eq_true c2]
 cases c3:highF s 0
 case false=>
  have H3:=hid c3
  clear h c3
  go_enter Tryz.func180,Tryz.ntmps180
  go_wp2_with (go_at_call 125;refine(C1.out _).mono ?_;rw[H3.out];rintro e w1 ⟨rfl,rfl⟩)
  go_ret
  exact⟨by simp,newAlloc _ _⟩
 have H3:=hid c3
 clear c3
 by_cases c4:0<=d
 case neg=>
  rw[decide_eq_false c4]
  clear h
  have d3:decide (d<0)=true:=by simp;omega
  go_enter Tryz.func180,Tryz.ntmps180
  go_wp2_with (go_at_call 125;refine(C1.out _).mono ?_;rw[H3.out];rintro e w1 ⟨rfl,rfl⟩)
  go_ret
  exact⟨by simp,newAlloc _ _⟩
 have d3:decide (d<0)=false:=by simp;omega
 by_cases c5:d<=3
 case neg=>
  rw[decide_eq_false c5]
  clear h
  have d4:decide (3<d)=true:=by simp;omega
  go_enter Tryz.func180,Tryz.ntmps180
  go_wp2_with (go_at_call 125;refine(C1.out _).mono ?_;rw[H3.out];rintro e w1 ⟨rfl,rfl⟩)
  go_ret
  exact⟨by simp,newAlloc _ _⟩
 have d4:decide (3<d)=false:=by simp;omega
 rw[decide_eq_true c4,decide_eq_true c5]
 by_cases c6:l.length<=4
 case neg=>
  rw[decide_eq_false c6]
  clear h
  have d5:decide (4<(l.length:Int))=true:=by simp;omega
  go_enter Tryz.func180,Tryz.ntmps180
  go_wp2_with (go_at_call 125;refine(C1.out _).mono ?_;rw[H3.out];rintro e w1 ⟨rfl,rfl⟩)
  go_ret
  exact⟨by simp,newAlloc _ _⟩
 have d5:decide (4<(l.length:Int))=false:=by simp;omega
 rw[decide_eq_true c6]
 have HA:=hid (fun i hi=>h.at i hi)
 have HD:=hid (heldOk_drop l)
 have HP:=hid (prevN_succ l)
 clear h
 obtain⟨L,hL⟩: ∃L,l.length=L:=⟨_,rfl⟩
 rw[hL] at hm c6 d5 ⊢
 by_cases c7:s=0/\0<L
 ·obtain⟨rfl,c7⟩:=c7
  rw[decide_eq_true c7]
  have d6:decide (0<(L:Int))=true:=by simp;omega
  go_enter Tryz.func180,Tryz.ntmps180
  go_wp2_with (go_at_call 125;refine(C1.out _).mono ?_;rw[H3.out];rintro e w1 ⟨rfl,rfl⟩)
  go_ret
  exact⟨by simp,newAlloc _ _⟩
 have e7:(!(decide (s=0) && decide (0<L)))=true:=by simp;omega
 rw[e7]
 have hc:(s==0)=false\/((s==0)=true/\decide (0<L)=false/\Hid (L=0)):=by
  by_cases q:s=0
  ·exact .inr ⟨by simpa using q,by simp;omega,hid (by omega)⟩
  ·exact .inl (by simpa using q)
 clear e7 c7
 go_enter Tryz.func180,Tryz.ntmps180
 have hb0:=newAlloc w (.cells #[.int .i64 k,.int .i64 s,.int .i64 d,.slice a L cap] 44)
 have HB0:=hid hb0
 have HX:Hid (∀w',Below (w.alloc (.cells #[.int .i64 k,.int .i64 s,.int .i64 d,.slice a L cap] 44)).heap.size (w.alloc (.cells #[.int .i64 k,.int .i64 s,.int .i64 d,.slice a L cap] 44)) w'->w'.cell? ⟨w.heap.size,3,none⟩=some (.slice a L cap)/\w'.frozen? ⟨w.heap.size,3,none⟩=false):=fun w' h=>⟨(box4 h).2.2.2,by rw[h.frozen (p:=⟨w.heap.size,3,none⟩) (by simp)];simp [go_sem]⟩
 clear hb0
 rcases hc with hc | ⟨hc,hc',hL0⟩
 ·go_upto_region 3 with (go_at_call 125;refine(C1.out _).mono ?_;rw[H3.out];rintro e w1 ⟨rfl,rfl⟩)
  generalize w.alloc (.cells #[.int .i64 k,.int .i64 s,.int .i64 d,.slice a L cap] 44)=W at HB0 HX ⊢
  clear c1 c2 c4 c5 d1 d2 d3 d4 d5 C1 H3 hc
  go_wp2_with fail
  go_loopw [3] (fun i wr=> ∃j:Nat,j<=L/\i= .int .i64 j/\Below W.heap.size W wr/\Hid (heldOk none l=heldOk (prevN l j) (l.drop j))) (fun i _=>L - (intOf i).toNat)
  case atStart=>exact⟨0,by omega,rfl,Below.refl _ _,hid rfl⟩
  case round=>
   obtain⟨j,hj,rfl,hb,ha⟩:=hrel
   have HB:=hid (step HB0.out hb)
   have HW:=hid hb
   obtain⟨x3,f3⟩:=HX.out _ hb
   clear hb
   by_cases hlt:j<L
   ·have hd:=HD.out j (by omega)
    have hp:=HP.out j (by omega)
    obtain⟨b,o,rfl,q1,q2⟩:=HA.out j (by omega) _ HB.out
    generalize hg:l[j]=g at q1 q2 hd
    have HG:=hid hg
    clear hg
    have CN:=hid (fun w=>RefName_any g.name w)
    have CT:=hid (fun w=>high_any g.token 1 w)
    unfold grantOk at hd
    by_cases n1:nameF g.name=true
    case neg=>
     have n1:nameF g.name=false:=by simpa using n1
     rw[n1,Bool.false_and,Bool.false_and,Bool.false_and] at hd
     have H:=hid hd
     have CN:Hid (∀w,Calls Tryz.prog 143 #[.string (bstr g.name)] w fun e w'=>e= .returned (.bool false)/\w=w'):=fun w=>by have:=CN.out w;rw[n1] at this;exact this
     clear hd n1
     go_upto_region 7 with fail
     have HB1:=hid (stepAlloc HB.out (.cells #[.string (bstr g.name),.int .i64 g.token] 67))
     go_quiet (first | (go_at_call 143;exact quiet_eq (CN.out _)))
     go_wp2
     go_ret
     exact⟨by rw[ha.out,H.out];rfl,below_drewN HB1.out nq⟩
    by_cases n2:highF g.token 1=true
    case neg=>
     have n2:highF g.token 1=false:=by simpa using n2
     rw[n2,Bool.and_false,Bool.false_and,Bool.false_and] at hd
     have H:=hid hd
     have CN:Hid (∀w,Calls Tryz.prog 143 #[.string (bstr g.name)] w fun e w'=>e= .returned (.bool true)/\w=w'):=fun w=>by have:=CN.out w;rw[n1] at this;exact this
     have CT:Hid (∀w,Calls Tryz.prog 125 #[.int .i64 g.token,.int .i64 1] w fun e w'=>e= .returned (.bool false)/\w=w'):=fun w=>by have:=CT.out w;rw[n2] at this;exact this
     clear hd n1 n2
     go_upto_region 7 with fail
     have HB1:=hid (stepAlloc HB.out (.cells #[.string (bstr g.name),.int .i64 g.token] 67))
     go_quiet (first
      | (go_at_call 143;exact quiet_eq (CN.out _))
      | (go_at_call 125;exact quiet_eq (CT.out _)))
     go_wp2
     go_ret
     exact⟨by rw[ha.out,H.out];rfl,below_drewN HB1.out nq⟩
    rw[n1,n2,Bool.true_and,Bool.true_and] at hd
    have CN:Hid (∀w,Calls Tryz.prog 143 #[.string (bstr g.name)] w fun e w'=>e= .returned (.bool true)/\w=w'):=fun w=>by have:=CN.out w;rw[n1] at this;exact this
    have CT:Hid (∀w,Calls Tryz.prog 125 #[.int .i64 g.token,.int .i64 1] w fun e w'=>e= .returned (.bool true)/\w=w'):=fun w=>by have:=CT.out w;rw[n2] at this;exact this
    clear n1 n2
    rcases Nat.eq_zero_or_pos j with hj0 | hj0
    ·have HJ:=hid hj0
     have d0:decide (0<j)=false:=by simp;omega
     rw[hj0,prevN_zero,<-hj0] at hd
     dsimp only at hd
     rw[Bool.true_and] at hd
     have H:=hid hd
     clear hd hp hj0
     go_upto_region 7 with fail
     have HW1:=hid (stepAlloc HW.out (.cells #[.string (bstr g.name),.int .i64 g.token] 67))
     go_quiet (first
      | (go_at_call 143;exact quiet_eq (CN.out _))
      | (go_at_call 125;exact quiet_eq (CT.out _)))
     go_wp2
     go_roundw
     case rel=>exact⟨j+1,by omega,by go_num,below_drewN HW1.out nq,hid (by rw[ha.out];have e:=H.out;rw[<-prevN_zero l,<-HJ.out] at e;exact e)⟩
     case measure=>simp [intOf];omega
    ·obtain⟨q,hq⟩: ∃q,j=q+1:=⟨j - 1,by omega⟩
     have hpn:=HP.out q (by omega)
     have HB1:=hid (stepAlloc HB.out (.cells #[.string (bstr g.name),.int .i64 g.token] 67))
     have HW1:=hid (stepAlloc HW.out (.cells #[.string (bstr g.name),.int .i64 g.token] 67))
     obtain⟨b',o',hbo,p1, -⟩:=HA.out q (by omega) _ HB1.out
     cases hbo
     obtain⟨x3',f3'⟩:=HX.out _ HW1.out
     rw[<-hq] at hpn
     rw[hpn] at hd
     dsimp only at hd
     generalize l[q]=pv at p1 hd hpn
     have e1:IntKind.i64.wrap ((j:Int) - 1)=(q:Int):=by rw[IntKind.wrap_i64];omega
     have e2:(0:Int)<=(q:Int):=by omega
     have e3:(q:Int)<(L:Int):=by omega
     have hl1:=str_less g.name pv.name
     have hl2:=str_eq g.name pv.name
     rcases less_tri pv.name g.name with ⟨t1,t2,t3⟩ | ⟨t1,t2,t3⟩ | ⟨t3,t1⟩
     ·rw[t2] at hl1
      rw[decide_eq_false (fun h=>t3 h.symm)] at hl2
      rw[t1,Bool.true_and] at hd
      have H:=hid hd
      have HPN:=hid hpn
      clear hd hp t1 t2 t3 hq hpn
      go_upto_region 7 with fail
      go_quiet (first
       | (go_at_call 143;exact quiet_eq (CN.out _))
       | (go_at_call 125;exact quiet_eq (CT.out _)))
      go_wp2
      go_roundw
      case rel=>exact⟨j+1,by omega,by go_num,below_drewN HW1.out nq,hid (by rw[ha.out,HPN.out,H.out])⟩
      case measure=>simp [intOf];omega
     ·rw[t2] at hl1
      rw[t1,Bool.false_and] at hd
      have H:=hid hd
      have HPN:=hid hpn
      clear hd hp t1 t2 t3 hq hpn hl2
      go_upto_region 7 with fail
      go_quiet (first
       | (go_at_call 143;exact quiet_eq (CN.out _))
       | (go_at_call 125;exact quiet_eq (CT.out _)))
      go_wp2
      go_ret
      exact⟨by rw[ha.out,HPN.out,H.out];rfl,below_drewN HB1.out nq⟩
     ·have t2:Op.bytesLess g.name pv.name=false:=by rw[<-t3] at t1 ⊢;exact t1
      rw[t2] at hl1
      rw[decide_eq_true t3.symm] at hl2
      rw[t1,Bool.false_and] at hd
      have H:=hid hd
      have HPN:=hid hpn
      clear hd hp t1 t2 t3 hq hpn
      go_upto_region 7 with fail
      go_quiet (first
       | (go_at_call 143;exact quiet_eq (CN.out _))
       | (go_at_call 125;exact quiet_eq (CT.out _)))
      go_wp2
      go_ret
      exact⟨by rw[ha.out,HPN.out,H.out];rfl,below_drewN HB1.out nq⟩
   ·obtain rfl:j=L:=by omega
    go_wp2
    go_ret
    have ha:=ha.out
    rw[<-hL,List.drop_length] at ha
    exact⟨by rw[ha];rfl,HB.out⟩
 ·go_upto_region 3 with (go_at_call 125;refine(C1.out _).mono ?_;rw[H3.out];rintro e w1 ⟨rfl,rfl⟩)
  generalize w.alloc (.cells #[.int .i64 k,.int .i64 s,.int .i64 d,.slice a L cap] 44)=W at HB0 HX ⊢
  try clear hc'
  clear c1 c2 c4 c5 d1 d2 d3 d4 d5 C1 H3 hc
  go_wp2_with fail
  go_loopw [3] (fun i wr=> ∃j:Nat,j<=L/\i= .int .i64 j/\Below W.heap.size W wr/\Hid (heldOk none l=heldOk (prevN l j) (l.drop j))) (fun i _=>L - (intOf i).toNat)
  case atStart=>exact⟨0,by omega,rfl,Below.refl _ _,hid rfl⟩
  case round=>
   obtain⟨j,hj,rfl,hb,ha⟩:=hrel
   have HB:=hid (step HB0.out hb)
   have HW:=hid hb
   obtain⟨x3,f3⟩:=HX.out _ hb
   clear hb
   by_cases hlt:j<L
   ·exact absurd hL0.out (by omega)
   ·obtain rfl:j=L:=by omega
    go_wp2
    go_ret
    have ha:=ha.out
    rw[<-hL,List.drop_length] at ha
    exact⟨by rw[ha];rfl,HB.out⟩
end Cm
end Go.Proofs.YthpknaieimlmnaaGreat
