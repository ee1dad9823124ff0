/- Texts laid together by program. -/
import Derived.Test.YtlnbmblbeaodcaaGreatQS10
import Derived.Laws.AppendOwnNone
/- Contracts: the document's SameReply, MayReply. -/
set_option linter.unusedVariables false
set_option maxRecDepth 8000
set_option linter.unusedSimpArgs false
namespace Go.Proofs.YtlnbmblbeaodcaaGreat
open Lib (hid)
open Go.RowKit
namespace Cm

def sameP (r q:ReplyV):Bool:=decide (r.code=q.code) && decide (r.session=q.session) && decide (r.ahead=q.ahead) && sameH r.held q.held
theorem sameP_iff (r q:ReplyV):sameP r q=true ↔ r=q:=by
 obtain⟨a,b,c,l⟩:=r
 obtain⟨a',b',c',l'⟩:=q
 unfold sameP
 simp [sameH_iff,and_assoc]
set_option maxHeartbeats 1000000 in
theorem SameReply_any (r q:ReplyV) (u v:Value) (w:World) (h:RdH w u r.held) (h2:RdH w v q.held):
  Calls Tryz.prog 19 #[repVal r u,repVal q v] w (SaysB (sameP r q) w):=by
 obtain⟨k,s,d,l⟩:=r
 obtain⟨k',s',d',l'⟩:=q
 unfold repVal sameP
 dsimp only at h h2 ⊢
 have C:Hid (∀w',Below w.heap.size w w'->Calls Tryz.prog 68 #[u,v] w' (SaysB (sameH l l') w')):=fun w' hb=>SameGrants_any _ _ _ _ _ (h.later hb) (h2.later hb)
 clear h h2
 generalize sameH l l'=b at*
 by_cases e1:k=k'
 ·subst e1
  by_cases e2:s=s'
  ·subst e2
   by_cases e3:d=d'
   ·subst e3
    go_enter Tryz.func19,Tryz.ntmps19
    go_wp2_with (go_at_call 68;refine(C.out _ (stepAlloc (newAlloc _ _) _)).mono ?_;rintro e w1 ⟨rfl,hb1⟩)
    go_ret
    exact⟨by simp,step (stepAlloc (newAlloc _ _) _) hb1⟩
   ·have d1:(d==d')=false:=by simpa using e3
    go_enter Tryz.func19,Tryz.ntmps19
    go_wp2
    go_ret
    exact⟨by simp [e3],stepAlloc (newAlloc _ _) _⟩
  ·have d1:(s==s')=false:=by simpa using e2
   go_enter Tryz.func19,Tryz.ntmps19
   go_wp2
   go_ret
   exact⟨by simp [e2],stepAlloc (newAlloc _ _) _⟩
 ·have d1:(k==k')=false:=by simpa using e1
  go_enter Tryz.func19,Tryz.ntmps19
  go_wp2
  go_ret
  exact⟨by simp [e1],stepAlloc (newAlloc _ _) _⟩
def prevN (l:List GrantV) (j:Nat):Option (List UInt8):=if j=0 then none else (l[j - 1]?).map (·.name)
theorem heldOk_drop (l:List GrantV) (j:Nat) (h:j<l.length):heldOk (prevN l j) (l.drop j)=(grantOk (prevN l j) l[j] && heldOk (prevN l (j+1)) (l.drop (j+1))):=by
 rw[List.drop_eq_getElem_cons h]
 have:prevN l (j+1)=some l[j].name :=by simp [prevN,h]
 rw[this]
 rfl
theorem less_tri: ∀a b:List UInt8,(Op.bytesLess a b=true/\Op.bytesLess b a=false/\a≠b)\/(Op.bytesLess a b=false/\Op.bytesLess b a=true/\a≠b)\/(a=b/\Op.bytesLess a b=false):=by
 intro a
 induction a with
 | nil=>intro b;cases b<;>simp [Op.bytesLess]
 | cons x a ih=>
  intro b
  cases b with
  | nil=>simp [Op.bytesLess]
  | cons y b=>
   have:=ih b
   rcases Nat.lt_trichotomy x.toNat y.toNat with h | h | h
   ·have h1:x<y:=h
    have h2: ¬y<x:=fun q=>by have:y.toNat<x.toNat:=q;omega
    have h3:x≠y:=fun q=>by subst q;omega
    have h4:y≠x:=fun q=>h3 q.symm
    simp [Op.bytesLess,h1,h2,h3,h4]
   ·obtain rfl:x=y:=UInt8.toNat_inj.1 h
    have h2: ¬x<x:=fun q=>by have:x.toNat<x.toNat:=q;omega
    simpa [Op.bytesLess,h2] using this
   ·have h1:y<x:=h
    have h2: ¬x<y:=fun q=>by have:x.toNat<y.toNat:=q;omega
    have h3:x≠y:=fun q=>by subst q;omega
    have h4:y≠x:=fun q=>h3 q.symm
    simp [Op.bytesLess,h1,h2,h3,h4]
theorem str_less (a b:List UInt8):Op.bytesLess (bstr a).toList (bstr b).toList =Op.bytesLess a b:=by
 rw[ByteArray.toList_eq,ByteArray.toList_eq,bstr_toList,bstr_toList]
theorem quiet_eq {P:Program} {f:FuncId} {args:Array Value} {w:World} {n:Nat} {v:Value}
  (h:Calls P f args (w.drewN n) fun e w'=>e= .returned v/\w.drewN n=w'):Calls P f args (w.drewN n) fun e w''=>e= .returned v/\ ∃m,w''=w.drewN m:=
 h.mono fun _ _ ⟨he,hm⟩=>⟨he,n,hm.symm⟩
theorem prevN_zero (l:List GrantV):prevN l 0=none:=rfl
theorem prevN_succ (l:List GrantV) (j:Nat) (h:j<l.length):prevN l (j+1)=some l[j].name :=by simp [prevN,h]
set_option maxHeartbeats 4000000 in
theorem MayReply_any (r:ReplyV) (v:Value) (w:World) (h:RdH w v r.held):
  Calls Tryz.prog 158 #[repVal r v] w (SaysB (mayP r) w):=by
 obtain⟨k,s,d,l⟩:=r
 unfold repVal mayP
 dsimp only at h ⊢
 have hm:=h.len
 obtain⟨a,cap,rfl, -⟩:=h.ex
 have C1:=hid (fun w=>high_any s 0 w)
 by_cases c1:0<=k
 case neg=>
  rw[decide_eq_false c1]
  clear h
  generalize l.length=L at*
  have d1:decide (k<0)=true:=by simp;omega
  go_enter Tryz.func158,Tryz.ntmps158
  go_wp2
  go_ret
  exact⟨by simp,newAlloc _ _⟩
 by_cases c2:k<=12
 case neg=>
  rw[decide_eq_false c2]
  clear h
  have d1:decide (k<0)=false:=by simp;omega
  have d2:decide (12<k)=true:=by simp;omega
  go_enter Tryz.func158,Tryz.ntmps158
  go_wp2
  go_ret
  exact⟨by simp,newAlloc _ _⟩
 have d1:decide (k<0)=false:=by simp;omega
 have d2:decide (12<k)=false:=by simp;omega
 rw[decide_eq_true c1,decide_eq_true c2]
 cases c3:highF s 0
 case false=>
  have H3:=hid c3
  clear h c3
  go_enter Tryz.func158,Tryz.ntmps158
  go_wp2_with (go_at_call 121;refine(C1.out _).mono ?_;rw[H3.out];rintro e w1 ⟨rfl,rfl⟩)
  go_ret
  exact⟨by simp,newAlloc _ _⟩
 have H3:=hid c3
 clear c3
 by_cases c4:0<=d
 case neg=>
  rw[decide_eq_false c4]
  clear h
  have d3:decide (d<0)=true:=by simp;omega
  go_enter Tryz.func158,Tryz.ntmps158
  go_wp2_with (go_at_call 121;refine(C1.out _).mono ?_;rw[H3.out];rintro e w1 ⟨rfl,rfl⟩)
  go_ret
  exact⟨by simp,newAlloc _ _⟩
 have d3:decide (d<0)=false:=by simp;omega
 by_cases c5:d<=3
 case neg=>
  rw[decide_eq_false c5]
  clear h
  have d4:decide (3<d)=true:=by simp;omega
  go_enter Tryz.func158,Tryz.ntmps158
  go_wp2_with (go_at_call 121;refine(C1.out _).mono ?_;rw[H3.out];rintro e w1 ⟨rfl,rfl⟩)
  go_ret
  exact⟨by simp,newAlloc _ _⟩
 have d4:decide (3<d)=false:=by simp;omega
 rw[decide_eq_true c4,decide_eq_true c5]
 by_cases c6:l.length<=4
 case neg=>
  rw[decide_eq_false c6]
  clear h
  have d5:decide (4<(l.length:Int))=true:=by simp;omega
  go_enter Tryz.func158,Tryz.ntmps158
  go_wp2_with (go_at_call 121;refine(C1.out _).mono ?_;rw[H3.out];rintro e w1 ⟨rfl,rfl⟩)
  go_ret
  exact⟨by simp,newAlloc _ _⟩
 have d5:decide (4<(l.length:Int))=false:=by simp;omega
 rw[decide_eq_true c6]
 have HA:=hid (fun i hi=>h.at i hi)
 have HD:=hid (heldOk_drop l)
 have HP:=hid (prevN_succ l)
 clear h
 obtain⟨L,hL⟩: ∃L,l.length=L:=⟨_,rfl⟩
 rw[hL] at hm c6 d5 ⊢
 by_cases c7:s=0/\0<L
 ·obtain⟨rfl,c7⟩:=c7
  rw[decide_eq_true c7]
  have d6:decide (0<(L:Int))=true:=by simp;omega
  go_enter Tryz.func158,Tryz.ntmps158
  go_wp2_with (go_at_call 121;refine(C1.out _).mono ?_;rw[H3.out];rintro e w1 ⟨rfl,rfl⟩)
  go_ret
  exact⟨by simp,newAlloc _ _⟩
 have e7:(!(decide (s=0) && decide (0<L)))=true:=by simp;omega
 rw[e7]
 have hc:(s==0)=false\/((s==0)=true/\decide (0<L)=false/\Hid (L=0)):=by
  by_cases q:s=0
  ·exact .inr ⟨by simpa using q,by simp;omega,hid (by omega)⟩
  ·exact .inl (by simpa using q)
 clear e7 c7
 go_enter Tryz.func158,Tryz.ntmps158
 have hb0:=newAlloc w (.cells #[.int .i64 k,.int .i64 s,.int .i64 d,.slice a L cap] 36)
 have HB0:=hid hb0
 have HX:Hid (∀w',Below (w.alloc (.cells #[.int .i64 k,.int .i64 s,.int .i64 d,.slice a L cap] 36)).heap.size (w.alloc (.cells #[.int .i64 k,.int .i64 s,.int .i64 d,.slice a L cap] 36)) w'->w'.cell? ⟨w.heap.size,3,none⟩=some (.slice a L cap)/\w'.frozen? ⟨w.heap.size,3,none⟩=false):=fun w' h=>⟨(box4 h).2.2.2,by rw[h.frozen (p:=⟨w.heap.size,3,none⟩) (by simp)];simp [go_sem]⟩
 clear hb0
 rcases hc with hc | ⟨hc,hc',hL0⟩
 ·go_upto_region 3 with (go_at_call 121;refine(C1.out _).mono ?_;rw[H3.out];rintro e w1 ⟨rfl,rfl⟩)
  generalize w.alloc (.cells #[.int .i64 k,.int .i64 s,.int .i64 d,.slice a L cap] 36)=W at HB0 HX ⊢
  clear c1 c2 c4 c5 d1 d2 d3 d4 d5 C1 H3 hc
  go_wp2_with fail
  go_loopw [3] (fun i wr=> ∃j:Nat,j<=L/\i= .int .i64 j/\Below W.heap.size W wr/\Hid (heldOk none l=heldOk (prevN l j) (l.drop j))) (fun i _=>L - (intOf i).toNat)
  case atStart=>exact⟨0,by omega,rfl,Below.refl _ _,hid rfl⟩
  case round=>
   obtain⟨j,hj,rfl,hb,ha⟩:=hrel
   have HB:=hid (step HB0.out hb)
   have HW:=hid hb
   obtain⟨x3,f3⟩:=HX.out _ hb
   clear hb
   by_cases hlt:j<L
   ·have hd:=HD.out j (by omega)
    have hp:=HP.out j (by omega)
    obtain⟨b,o,rfl,q1,q2⟩:=HA.out j (by omega) _ HB.out
    generalize hg:l[j]=g at q1 q2 hd
    have HG:=hid hg
    clear hg
    have CN:=hid (fun w=>RefName_any g.name w)
    have CT:=hid (fun w=>high_any g.token 1 w)
    unfold grantOk at hd
    by_cases n1:nameF g.name=true
    case neg=>
     have n1:nameF g.name=false:=by simpa using n1
     rw[n1,Bool.false_and,Bool.false_and,Bool.false_and] at hd
     have H:=hid hd
     have CN:Hid (∀w,Calls Tryz.prog 99 #[.string (bstr g.name)] w fun e w'=>e= .returned (.bool false)/\w=w'):=fun w=>by have:=CN.out w;rw[n1] at this;exact this
     clear hd n1
     go_upto_region 7 with fail
     have HB1:=hid (stepAlloc HB.out (.cells #[.string (bstr g.name),.int .i64 g.token] 141))
     go_quiet (first | (go_at_call 99;exact quiet_eq (CN.out _)))
     go_wp2
     go_ret
     exact⟨by rw[ha.out,H.out];rfl,below_drewN HB1.out nq⟩
    by_cases n2:highF g.token 1=true
    case neg=>
     have n2:highF g.token 1=false:=by simpa using n2
     rw[n2,Bool.and_false,Bool.false_and,Bool.false_and] at hd
     have H:=hid hd
     have CN:Hid (∀w,Calls Tryz.prog 99 #[.string (bstr g.name)] w fun e w'=>e= .returned (.bool true)/\w=w'):=fun w=>by have:=CN.out w;rw[n1] at this;exact this
     have CT:Hid (∀w,Calls Tryz.prog 121 #[.int .i64 g.token,.int .i64 1] w fun e w'=>e= .returned (.bool false)/\w=w'):=fun w=>by have:=CT.out w;rw[n2] at this;exact this
     clear hd n1 n2
     go_upto_region 7 with fail
     have HB1:=hid (stepAlloc HB.out (.cells #[.string (bstr g.name),.int .i64 g.token] 141))
     go_quiet (first
      | (go_at_call 99;exact quiet_eq (CN.out _))
      | (go_at_call 121;exact quiet_eq (CT.out _)))
     go_wp2
     go_ret
     exact⟨by rw[ha.out,H.out];rfl,below_drewN HB1.out nq⟩
    rw[n1,n2,Bool.true_and,Bool.true_and] at hd
    have CN:Hid (∀w,Calls Tryz.prog 99 #[.string (bstr g.name)] w fun e w'=>e= .returned (.bool true)/\w=w'):=fun w=>by have:=CN.out w;rw[n1] at this;exact this
    have CT:Hid (∀w,Calls Tryz.prog 121 #[.int .i64 g.token,.int .i64 1] w fun e w'=>e= .returned (.bool true)/\w=w'):=fun w=>by have:=CT.out w;rw[n2] at this;exact this
    clear n1 n2
    rcases Nat.eq_zero_or_pos j with hj0 | hj0
    ·have HJ:=hid hj0
     have d0:decide (0<j)=false:=by simp;omega
     rw[hj0,prevN_zero,<-hj0] at hd
     dsimp only at hd
     rw[Bool.true_and] at hd
     have H:=hid hd
     clear hd hp hj0
     go_upto_region 7 with fail
     have HW1:=hid (stepAlloc HW.out (.cells #[.string (bstr g.name),.int .i64 g.token] 141))
     go_quiet (first
      | (go_at_call 99;exact quiet_eq (CN.out _))
      | (go_at_call 121;exact quiet_eq (CT.out _)))
     go_wp2
     go_roundw
     case rel=>exact⟨j+1,by omega,by go_num,below_drewN HW1.out nq,hid (by rw[ha.out];have e:=H.out;rw[<-prevN_zero l,<-HJ.out] at e;exact e)⟩
     case measure=>simp [intOf];omega
    ·obtain⟨q,hq⟩: ∃q,j=q+1:=⟨j - 1,by omega⟩
     have hpn:=HP.out q (by omega)
     have HB1:=hid (stepAlloc HB.out (.cells #[.string (bstr g.name),.int .i64 g.token] 141))
     have HW1:=hid (stepAlloc HW.out (.cells #[.string (bstr g.name),.int .i64 g.token] 141))
     obtain⟨b',o',hbo,p1, -⟩:=HA.out q (by omega) _ HB1.out
     cases hbo
     obtain⟨x3',f3'⟩:=HX.out _ HW1.out
     rw[<-hq] at hpn
     rw[hpn] at hd
     dsimp only at hd
     generalize l[q]=pv at p1 hd hpn
     have e1:IntKind.i64.wrap ((j:Int) - 1)=(q:Int):=by rw[IntKind.wrap_i64];omega
     have e2:(0:Int)<=(q:Int):=by omega
     have e3:(q:Int)<(L:Int):=by omega
     have hl1:=str_less g.name pv.name
     have hl2:=str_eq g.name pv.name
     rcases less_tri pv.name g.name with ⟨t1,t2,t3⟩ | ⟨t1,t2,t3⟩ | ⟨t3,t1⟩
     ·rw[t2] at hl1
      rw[decide_eq_false (fun h=>t3 h.symm)] at hl2
      rw[t1,Bool.true_and] at hd
      have H:=hid hd
      have HPN:=hid hpn
      clear hd hp t1 t2 t3 hq hpn
      go_upto_region 7 with fail
      go_quiet (first
       | (go_at_call 99;exact quiet_eq (CN.out _))
       | (go_at_call 121;exact quiet_eq (CT.out _)))
      go_wp2
      go_roundw
      case rel=>exact⟨j+1,by omega,by go_num,below_drewN HW1.out nq,hid (by rw[ha.out,HPN.out,H.out])⟩
      case measure=>simp [intOf];omega
     ·rw[t2] at hl1
      rw[t1,Bool.false_and] at hd
      have H:=hid hd
      have HPN:=hid hpn
      clear hd hp t1 t2 t3 hq hpn hl2
      go_upto_region 7 with fail
      go_quiet (first
       | (go_at_call 99;exact quiet_eq (CN.out _))
       | (go_at_call 121;exact quiet_eq (CT.out _)))
      go_wp2
      go_ret
      exact⟨by rw[ha.out,HPN.out,H.out];rfl,below_drewN HB1.out nq⟩
     ·have t2:Op.bytesLess g.name pv.name=false:=by rw[<-t3] at t1 ⊢;exact t1
      rw[t2] at hl1
      rw[decide_eq_true t3.symm] at hl2
      rw[t1,Bool.false_and] at hd
      have H:=hid hd
      have HPN:=hid hpn
      clear hd hp t1 t2 t3 hq hpn
      go_upto_region 7 with fail
      go_quiet (first
       | (go_at_call 99;exact quiet_eq (CN.out _))
       | (go_at_call 121;exact quiet_eq (CT.out _)))
      go_wp2
      go_ret
      exact⟨by rw[ha.out,HPN.out,H.out];rfl,below_drewN HB1.out nq⟩
   ·obtain rfl:j=L:=by omega
    go_wp2
    go_ret
    have ha:=ha.out
    rw[<-hL,List.drop_length] at ha
    exact⟨by rw[ha];rfl,HB.out⟩
 ·go_upto_region 3 with (go_at_call 121;refine(C1.out _).mono ?_;rw[H3.out];rintro e w1 ⟨rfl,rfl⟩)
  generalize w.alloc (.cells #[.int .i64 k,.int .i64 s,.int .i64 d,.slice a L cap] 36)=W at HB0 HX ⊢
  try clear hc'
  clear c1 c2 c4 c5 d1 d2 d3 d4 d5 C1 H3 hc
  go_wp2_with fail
  go_loopw [3] (fun i wr=> ∃j:Nat,j<=L/\i= .int .i64 j/\Below W.heap.size W wr/\Hid (heldOk none l=heldOk (prevN l j) (l.drop j))) (fun i _=>L - (intOf i).toNat)
  case atStart=>exact⟨0,by omega,rfl,Below.refl _ _,hid rfl⟩
  case round=>
   obtain⟨j,hj,rfl,hb,ha⟩:=hrel
   have HB:=hid (step HB0.out hb)
   have HW:=hid hb
   obtain⟨x3,f3⟩:=HX.out _ hb
   clear hb
   by_cases hlt:j<L
   ·exact absurd hL0.out (by omega)
   ·obtain rfl:j=L:=by omega
    go_wp2
    go_ret
    have ha:=ha.out
    rw[<-hL,List.drop_length] at ha
    exact⟨by rw[ha];rfl,HB.out⟩
end Cm
end Go.Proofs.YtlnbmblbeaodcaaGreat

/- Slices that read as lists: parts of them; appended to a row of one's own. No program is named here. -/
set_option linter.unusedVariables false
set_option maxRecDepth 8000
set_option linter.unusedSimpArgs false
namespace Go.Proofs.YtlnbmblbeaodcaaGreat
open Lib (hid)
open Go.RowKit

section
variable {α : Type} {sz : Nat} {f : α → List Value}

theorem RdX.take {w:World} {a:Option Addr} {n cap:Nat} {l:List α} (h:RdX sz f w (.slice a n cap) l) (k:Nat) (hk:k<=n):RdX sz f w (.slice a k cap) (l.take k):=by
 obtain⟨a',cap',hv,h1,h2,h3,h4⟩:=h.ex
 cases hv
 have hl:(l.take k).length =k:=by rw[List.length_take];omega
 refine⟨a,cap,by rw[hl],by rw[hl];omega,h2,fun q=>?_,fun x hx hne=>?_⟩
 ·obtain⟨q1,q2⟩:=h3 q
  subst q1
  exact⟨by simp,q2⟩
 ·obtain⟨hs,hc⟩:=h4 x hx (by intro q;subst q;simp at hne)
  refine⟨hs,fun i hi j u hu=>?_⟩
  have hi':i<l.length:=by rw[List.length_take] at hi;omega
  exact hc i hi' j u (by rw[<-hu,List.getElem_take])
theorem RdX.drop (hsz:0<sz) {w:World} {a:Option Addr} {n cap:Nat} {l:List α} (h:RdX sz f w (.slice a n cap) l) (k:Nat) (hk:k<=n):
  RdX sz f w (.slice (if cap=k then a else a.map (·.add (k*sz))) (n - k) (cap - k)) (l.drop k):=by
 obtain⟨a',cap',hv,h1,h2,h3,h4⟩:=h.ex
 cases hv
 have hl:(l.drop k).length =l.length - k:=List.length_drop
 refine⟨_,cap - k,by rw[hl],by rw[hl];omega,by omega,fun q=>?_,fun x hx hne=>?_⟩
 ·have q':a=none:=by
   split at q
   ·exact q
   ·cases a<;>simp_all
  obtain⟨q1,q2⟩:=h3 q'
  subst q1
  exact⟨by simp,by omega⟩
 ·have hkl:k<l.length:=by
   rcases Nat.lt_or_ge k l.length with g | g
   ·exact g
   ·exact absurd (List.drop_eq_nil_of_le g) hne
  rw[if_neg (by omega)] at hx
  match a,hx,h4 with
  | some y,hx,h4=>
   obtain⟨hs,hc⟩:=h4 y rfl (by intro q;subst q;simp at hkl)
   obtain⟨b,o,sp⟩:=y
   simp only at hs
   subst hs
   have hadd:(⟨b,o,none⟩:Addr).add (k*sz)=⟨b,o+k*sz,none⟩:=by unfold Addr.add;split<;>simp_all
   simp only[Option.map_some,hadd] at hx
   cases hx
   refine⟨rfl,fun i hi j u hu=>?_⟩
   have hi':k+i<l.length:=by rw[hl] at hi;omega
   have e:(l.drop k)[i]=l[k+i]:=List.getElem_drop
   have:=hc (k+i) hi' j u (by rw[<-hu,e])
   have e2:o+((k+i)*sz+j)=o+k*sz+(i*sz+j):=by rw[Nat.add_mul];omega
   simp only at this ⊢
   rw[<-e2]
   exact this
theorem RdX.one {w:World} {b:Nat} {cs:Array Value} {t:TypeId} {y:α} (h:w.heap[b]?=some (.cells cs t)) (hcs:cs.toList=f y):RdX sz f w (.slice (some ⟨b,0,none⟩) 1 1) [y]:=by
 refine⟨some ⟨b,0,none⟩,1,rfl,Nat.le_refl _,by unfold maxLen;omega,(fun q=>by cases q),fun x hx hp=>?_⟩
 cases hx
 refine⟨rfl,fun i hi k u hu=>?_⟩
 obtain rfl:i=0:=by simpa using hi
 have hu:(f y)[k]?=some u:=hu
 rw[<-hcs] at hu
 simp only[Nat.zero_mul,Nat.zero_add]
 simpa [World.cell?,h] using hu
theorem flatX_one (h1: ∀x:α,∀u∈f x,u.oneCell'=true) (l:List α): ∀u∈flatX f l,u.oneCell'=true:=by
 intro u hu
 unfold flatX at hu
 obtain⟨x,_,hx⟩:=List.mem_flatMap.1 hu
 exact h1 x u hx
theorem wpList_append_rdx (hf: ∀x,(f x).length =sz) (hsz:0<sz) (h1: ∀x:α,∀u∈f x,u.oneCell'=true) {P:Program} {w:World} {ops:Array Oper} {rest:List Oper} {o:Oper} {a:Act} {Q:Exit->Act->World->Prop} (hgd:o.guard=none) (s x:Operand) (t:TypeId)
  (ho:o.op= .call { callee:=.builtin .append,args:=#[s,x],argTypes:=#[t,t] })
  (base:Nat) (e:TypeId) (i:TypeInfo) (z:Value) (bytes:Nat) (ht:P.underlying t=some (.slice e)) (hi:P.info? e=some i) (hz:i.zero=some z) (hsize:i.size=sz) (hby:i.bytes=bytes) (hzs:z.cells.size=sz)
  (v:Value) (n:Nat) (xs:List Value) (hs:a.eval s=v) (hown:w.ownsRow base e sz v n xs) (y:Value) (l:List α) (hx:a.eval x=y) (hr:RdX sz f w y l)
  (h63:n+l.length<=maxLen) (hlen:(n+l.length)*bytes<=140737488355328) (hbase:base<=w.heap.size)
  (h: ∀v' w',w'.ownsRow base e sz v' (n+l.length) (xs++flatX f l)->w.grownBy w' v.ownBlock->wpList P ops Q rest (a.put o.dst v') w'):wpList P ops Q (o::rest) a w:=by
 obtain⟨ao,cap,rfl,hc,hm,hn,hcells⟩:=hr.ex
 match ao,hn,hcells,hx,hr with
 | none,hn,_,hx,_=>
  obtain⟨rfl,rfl⟩:=hn rfl
  refine wpList_append_own_none hgd s x t ho base e i sz ht hi v n xs hs hown hx ?_
  exact h v w (by simpa [flatX] using hown) (World.grownBy.refl _ _)
 | some ad,_,hcells,hx,hr=>
  refine wpList_append_own w hgd s x t ho base e i z sz bytes ht hi hz hsize hby hzs hsz v n xs hs hown ad l.length cap (flatX f l) hx (by rw[flatX_length hf]) ?_ (flatX_one h1 l) h63 hlen hbase (fun v' w' h1 h2 _=>h v' w' h1 h2)
  intro j u hj
  have hl:l≠ []:=by
   intro q
   subst q
   simp [flatX] at hj
  obtain⟨hs',_⟩:=hcells ad rfl hl
  obtain⟨b,off,spot⟩:=ad
  simp only at hs'
  subst hs'
  exact hr.news hf hsz j u hj
end
end Go.Proofs.YtlnbmblbeaodcaaGreat

/- What package line answers, as plain functions over lists of numbers. No program is named here but in the contracts' forms. -/
set_option linter.unusedVariables false
set_option maxRecDepth 8000
set_option linter.unusedSimpArgs false
namespace Go.Proofs.YtlnbmblbeaodcaaGreat
open Lib (hid)
open Go.RowKit
namespace Cm

def hasL (l:List Int) (c:Int):Bool:=l.any fun y=>decide (y=c)
def isN (c:Int) (y:Int):Bool:=decide (y=c)
theorem hasL_idx (l:List Int) (c:Int):hasL l c=decide (0<=idxI (isN c) l):=(idxI_any (isN c) l).symm
def aheadL (l:List Int) (c:Int):Int × Bool:=if idxI (isN c) l<0 then (0,false) else (idxI (isN c) l,true)
theorem aheadL_has (l:List Int) (c:Int):(aheadL l c).2=hasL l c:=by
 rw[hasL_idx]
 unfold aheadL
 split
 ·exact(decide_eq_false (by omega)).symm
 ·exact(decide_eq_true (by omega)).symm
def lineGo (pre:List Int):List Int->Bool
 | []=>true
 | c::l=>clientF c && !hasL pre c && lineGo (pre++ [c]) l
def rightL (l:List Int):Bool:=decide (l.length<=3) && lineGo [] l
def withoutL (l gone:List Int):List Int:=l.filter fun x=> !hasL gone x
/-! ### Right lines, as a relation -/
structure Rl (l:List Int):Prop where
 ok: ∀c∈l,clientF c=true
 apart:l.Pairwise fun a b=>a≠b
theorem hasL_iff (l:List Int) (c:Int):hasL l c=true ↔ c∈l:=by
 unfold hasL
 rw[List.any_eq_true]
 constructor
 ·rintro ⟨x,hx,h⟩
  rw[decide_eq_true_eq] at h
  rw[<-h];exact hx
 ·intro h
  exact⟨c,h,by simp⟩
theorem hasL_not (l:List Int) (c:Int):hasL l c=false ↔ c ∉ l:=by
 rw[<-hasL_iff]
 simp
theorem lineGo_iff (l:List Int): ∀pre,Rl pre->(lineGo pre l=true ↔ Rl (pre++l)):=by
 induction l with
 | nil=>intro pre h;simp [lineGo,h]
 | cons c l ih=>
  intro pre h
  have e:pre++c::l=(pre++ [c])++l:=by simp
  have hs:Rl (pre++ [c]) ↔ clientF c=true/\c ∉ pre:=by
   constructor
   ·intro q
    refine⟨q.ok c (by simp),fun hm=>?_⟩
    exact(List.pairwise_append.1 q.apart).2.2 c hm c (by simp) rfl
   ·rintro ⟨q1,q2⟩
    refine⟨fun x hx=>?_,List.pairwise_append.2 ⟨h.apart,List.pairwise_singleton _ _,fun a ha b hb=>?_⟩⟩
    ·rcases List.mem_append.1 hx with g | g
     ·exact h.ok x g
     ·rw[List.mem_singleton] at g;rw[g];exact q1
    ·rw[List.mem_singleton] at hb;subst hb
     intro e2;exact q2 (e2 ▸ ha)
  unfold lineGo
  rw[Bool.and_eq_true,Bool.and_eq_true,e]
  constructor
  ·rintro ⟨⟨h1,h2⟩,h3⟩
   have h4:Rl (pre++ [c]):=hs.2 ⟨h1,(hasL_not _ _).1 (by simpa using h2)⟩
   exact(ih _ h4).1 h3
  ·intro q
   have h4:Rl (pre++ [c]):=⟨fun x hx=>q.ok x (List.mem_append_left _ hx),(List.pairwise_append.1 q.apart).1⟩
   obtain⟨h1,h2⟩:=hs.1 h4
   exact⟨⟨h1,by rw[(hasL_not _ _).2 h2];rfl⟩,(ih _ h4).2 q⟩
theorem rightL_iff (l:List Int):rightL l=true ↔ l.length<=3/\Rl l:=by
 unfold rightL
 rw[Bool.and_eq_true,decide_eq_true_eq,lineGo_iff l [] ⟨(fun c hc=>by cases hc),List.Pairwise.nil⟩,List.nil_append]
theorem lineGo_drop (l:List Int) (j:Nat) (h:j<l.length):lineGo (l.take j) (l.drop j)=(clientF l[j] && !hasL (l.take j) l[j] && lineGo (l.take (j+1)) (l.drop (j+1))):=by
 rw[List.drop_eq_getElem_cons h]
 have:l.take (j+1)=l.take j++ [l[j]]:=List.take_succ_eq_append_getElem h
 rw[this]
 rfl
theorem withoutL_succ (l gone:List Int) (j:Nat) (h:j<l.length):withoutL (l.take (j+1)) gone=withoutL (l.take j) gone++if hasL gone l[j] then [] else [l[j]]:=by
 unfold withoutL
 rw[List.take_succ_eq_append_getElem h,List.filter_append]
 congr 1
 cases q:hasL gone l[j]<;>simp [q]
theorem without_right (l gone:List Int) (h:rightL l=true):rightL (withoutL l gone)=true:=by
 obtain⟨h3,hr⟩:=(rightL_iff l).1 h
 refine(rightL_iff _).2 ⟨?_,fun x hx=>hr.ok x (List.mem_filter.1 hx).1,hr.apart.filter _⟩
 have:=List.length_filter_le (fun x=> !hasL gone x) l
 unfold withoutL
 omega
theorem tail_right (l:List Int) (h:rightL l=true):rightL (l.drop 1)=true:=by
 obtain⟨h3,hr⟩:=(rightL_iff l).1 h
 exact(rightL_iff _).2 ⟨by rw[List.length_drop];omega,fun x hx=>hr.ok x (List.mem_of_mem_drop hx),hr.apart.sublist (List.drop_sublist 1 l)⟩
theorem nil_right:rightL []=true:=by decide
end Cm
end Go.Proofs.YtlnbmblbeaodcaaGreat
