/- Texts laid together by program. -/
import Derived.Test.YtlnbmblbeaodcaaGreatQS19
/- Contracts: package reply's isNumber, mayHold, May, Token. -/
set_option linter.unusedVariables false
set_option maxRecDepth 8000
set_option linter.unusedSimpArgs false
namespace Go.Proofs.YtlnbmblbeaodcaaGreat
open Lib (hid)
open Go.RowKit
namespace Cm

theorem repNum_any (v:Int) (w:World):Calls Tryz.prog 153 #[.int .i64 v] w (Says (highF v 1) w):=by
  unfold highF
  by_cases h1:1<=v<;>by_cases h2:v<=2305843009213693952<;>
    (go_enter Tryz.func153,Tryz.ntmps153
     go_wp2
     go_ret
     exact⟨by simp [h1,h2]<;>omega,rfl⟩)
set_option maxHeartbeats 4000000 in
theorem mayHold_any (v:Value) (l:List GrantV) (w:World) (h:RdH w v l):
  Calls Tryz.prog 195 #[v] w (SaysB (decide (l.length<=4) && heldOk none l) w):=by
 have hm:=h.len
 obtain⟨a,cap,rfl, -⟩:=h.ex
 by_cases c6:l.length<=4
 case neg=>
  rw[decide_eq_false c6]
  clear h
  have d5:decide (4<(l.length:Int))=true:=by simp;omega
  go_enter Tryz.func195,Tryz.ntmps195
  go_wp2
  go_ret
  exact⟨by simp,Below.refl _ _⟩
 have d5:decide (4<(l.length:Int))=false:=by simp;omega
 rw[decide_eq_true c6]
 have HA:=hid (fun i hi=>h.at i hi)
 have HD:=hid (heldOk_drop l)
 have HP:=hid (prevN_succ l)
 clear h
 obtain⟨L,hL⟩: ∃L,l.length=L:=⟨_,rfl⟩
 rw[hL] at hm c6 d5 ⊢
 go_enter Tryz.func195,Tryz.ntmps195
 go_wp2
 go_loopw [10] (fun i wr=> ∃j:Nat,j<=L/\i= .int .i64 j/\Below w.heap.size w wr/\Hid (heldOk none l=heldOk (prevN l j) (l.drop j))) (fun i _=>L - (intOf i).toNat)
 case atStart=>exact⟨0,by omega,rfl,Below.refl _ _,hid rfl⟩
 case round=>
  obtain⟨j,hj,rfl,hb,ha⟩:=hrel
  have HB:=hid hb
  clear hb
  by_cases hlt:j<L
  ·have hd:=HD.out j (by omega)
   have hp:=HP.out j (by omega)
   obtain⟨b,o,rfl,q1,q2⟩:=HA.out j (by omega) _ HB.out
   generalize hg:l[j]=g at q1 q2 hd
   have HG:=hid hg
   clear hg
   have CN:=hid (fun w=>Name_any g.name w)
   have CT:=hid (fun w=>repNum_any g.token w)
   have HB1:=hid (stepAlloc HB.out (.cells #[.string (bstr g.name),.int .i64 g.token] 141))
   unfold grantOk at hd
   by_cases n1:nameF g.name=true
   case neg=>
    have n1:nameF g.name=false:=by simpa using n1
    rw[n1,Bool.false_and,Bool.false_and,Bool.false_and] at hd
    have H:=hid hd
    have H1:=hid n1
    clear hd n1
    go_wp2_with (go_at_call 150;refine(CN.out _).mono ?_;rw[H1.out];rintro e w1 ⟨rfl,rfl⟩)
    go_ret
    exact⟨by rw[ha.out,H.out];rfl,HB1.out⟩
   by_cases n2:highF g.token 1=true
   case neg=>
    have n2:highF g.token 1=false:=by simpa using n2
    rw[n2,Bool.and_false,Bool.false_and,Bool.false_and] at hd
    have H:=hid hd
    have H1:=hid n1
    have H2:=hid n2
    clear hd n1 n2
    go_wp2_with (first
     | (go_at_call 150;refine(CN.out _).mono ?_;rw[H1.out];rintro e w1 ⟨rfl,rfl⟩)
     | (go_at_call 153;refine(CT.out _).mono ?_;rw[H2.out];rintro e w1 ⟨rfl,rfl⟩))
    go_ret
    exact⟨by rw[ha.out,H.out];rfl,HB1.out⟩
   rw[n1,n2,Bool.true_and,Bool.true_and] at hd
   have H1:=hid n1
   have H2:=hid n2
   clear n1 n2
   rcases Nat.eq_zero_or_pos j with hj0 | hj0
   ·have HJ:=hid hj0
    have d0:decide (0<j)=false:=by simp;omega
    rw[hj0,prevN_zero,<-hj0] at hd
    dsimp only at hd
    rw[Bool.true_and] at hd
    have H:=hid hd
    clear hd hp hj0
    go_upto_region 8 with (first
     | (go_at_call 150;refine(CN.out _).mono ?_;rw[H1.out];rintro e w1 ⟨rfl,rfl⟩)
     | (go_at_call 153;refine(CT.out _).mono ?_;rw[H2.out];rintro e w1 ⟨rfl,rfl⟩))
    go_quiet (fail)
    go_wp2
    go_roundw
    case rel=>exact⟨j+1,by omega,by go_num,below_drewN HB1.out nq,hid (by rw[ha.out];have e:=H.out;rw[<-prevN_zero l,<-HJ.out] at e;exact e)⟩
    case measure=>simp [intOf];omega
   ·obtain⟨q,hq⟩: ∃q,j=q+1:=⟨j - 1,by omega⟩
    have d0:decide (0<j)=true:=by simp;omega
    have hpn:=HP.out q (by omega)
    obtain⟨b',o',hbo,p1, -⟩:=HA.out q (by omega) _ HB1.out
    cases hbo
    rw[<-hq] at hpn
    rw[hpn] at hd
    dsimp only at hd
    generalize l[q]=pv at p1 hd hpn
    have e1:IntKind.i64.wrap ((j:Int) - 1)=(q:Int):=by rw[IntKind.wrap_i64];omega
    have e2:(0:Int)<=(q:Int):=by omega
    have e3:(q:Int)<(L:Int):=by omega
    have hl1:=str_less g.name pv.name
    have hl2:=str_eq g.name pv.name
    rcases less_tri pv.name g.name with ⟨t1,t2,t3⟩ | ⟨t1,t2,t3⟩ | ⟨t3,t1⟩
    ·rw[t2] at hl1
     rw[decide_eq_false (fun h=>t3 h.symm)] at hl2
     rw[t1,Bool.true_and] at hd
     have H:=hid hd
     have HPN:=hid hpn
     clear hd hp t1 t2 t3 hq hpn
     go_upto_region 8 with (first
      | (go_at_call 150;refine(CN.out _).mono ?_;rw[H1.out];rintro e w1 ⟨rfl,rfl⟩)
      | (go_at_call 153;refine(CT.out _).mono ?_;rw[H2.out];rintro e w1 ⟨rfl,rfl⟩))
     go_quiet (fail)
     go_wp2
     go_roundw
     case rel=>exact⟨j+1,by omega,by go_num,below_drewN HB1.out nq,hid (by rw[ha.out,HPN.out,H.out])⟩
     case measure=>simp [intOf];omega
    ·rw[t2] at hl1
     rw[t1,Bool.false_and] at hd
     have H:=hid hd
     have HPN:=hid hpn
     clear hd hp t1 t2 t3 hq hpn hl2
     go_upto_region 8 with (first
      | (go_at_call 150;refine(CN.out _).mono ?_;rw[H1.out];rintro e w1 ⟨rfl,rfl⟩)
      | (go_at_call 153;refine(CT.out _).mono ?_;rw[H2.out];rintro e w1 ⟨rfl,rfl⟩))
     go_quiet (fail)
     go_wp2
     go_ret
     exact⟨by rw[ha.out,HPN.out,H.out];rfl,below_drewN HB1.out nq⟩
    ·have t2:Op.bytesLess g.name pv.name=false:=by rw[<-t3] at t1 ⊢;exact t1
     rw[t2] at hl1
     rw[decide_eq_true t3.symm] at hl2
     rw[t1,Bool.false_and] at hd
     have H:=hid hd
     have HPN:=hid hpn
     clear hd hp t1 t2 t3 hq hpn
     go_upto_region 8 with (first
      | (go_at_call 150;refine(CN.out _).mono ?_;rw[H1.out];rintro e w1 ⟨rfl,rfl⟩)
      | (go_at_call 153;refine(CT.out _).mono ?_;rw[H2.out];rintro e w1 ⟨rfl,rfl⟩))
     go_quiet (fail)
     go_wp2
     go_ret
     exact⟨by rw[ha.out,HPN.out,H.out];rfl,below_drewN HB1.out nq⟩
  ·obtain rfl:j=L:=by omega
   go_wp2
   go_ret
   have ha:=ha.out
   rw[<-hL,List.drop_length] at ha
   exact⟨by rw[ha];rfl,HB.out⟩
theorem mayP_told (k s d:Int) (l:List GrantV):mayP ⟨k,s,d,l⟩=(decide (0<=k) && (decide (k<=12) && (decide (0<=s) && (decide (s<=2305843009213693952) && (decide (0<=d) && (decide (d<=3) && ((decide (l.length<=4) && heldOk none l) && (!decide (s=0) || decide (l.length=0))))))))):=by
 unfold mayP highF
 dsimp only
 have e:decide (0<l.length)= !decide (l.length=0):=by cases l<;>simp
 rw[e]
 generalize decide (0<=k)=b1
 generalize decide (k<=12)=b2
 generalize decide (0<=s)=b3
 generalize decide (s<=2305843009213693952)=b4
 generalize decide (0<=d)=b5
 generalize decide (d<=3)=b6
 generalize decide (l.length<=4)=b7
 generalize heldOk none l=b8
 generalize decide (s=0)=b9
 generalize decide (l.length=0)=b10
 revert b1 b2 b3 b4 b5 b6 b7 b8 b9 b10
 decide
set_option maxHeartbeats 4000000 in
theorem RepMay_any (r:ReplyV) (v:Value) (w:World) (h:RdH w v r.held):
  Calls Tryz.prog 154 #[repVal r v] w (SaysB (mayP r) w):=by
 obtain⟨k,s,d,l⟩:=r
 unfold repVal
 dsimp only at h ⊢
 rw[mayP_told]
 have hm:=h.len
 have C:Hid (∀w',Below w.heap.size w w'->Calls Tryz.prog 195 #[v] w' (SaysB (decide (l.length<=4) && heldOk none l) w')):=fun w' hb=>mayHold_any v l w' (h.later hb)
 obtain⟨a,cap,rfl, -⟩:=h.ex
 clear h
 generalize (decide (l.length<=4) && heldOk none l)=M at*
 generalize l.length=L at*
 by_cases c1:0<=k
 case neg=>
  have d1:decide (0<=k)=false:=decide_eq_false c1
  rw[d1]
  go_enter Tryz.func154,Tryz.ntmps154
  go_wp2
  go_ret
  exact⟨by simp,newAlloc _ _⟩
 have d1:decide (0<=k)=true:=decide_eq_true c1
 rw[d1,Bool.true_and]
 by_cases c2:k<=12
 case neg=>
  have d2:decide (k<=12)=false:=decide_eq_false c2
  rw[d2]
  go_enter Tryz.func154,Tryz.ntmps154
  go_wp2
  go_ret
  exact⟨by simp,newAlloc _ _⟩
 have d2:decide (k<=12)=true:=decide_eq_true c2
 rw[d2,Bool.true_and]
 by_cases c3:0<=s
 case neg=>
  have d3:decide (0<=s)=false:=decide_eq_false c3
  rw[d3]
  go_enter Tryz.func154,Tryz.ntmps154
  go_wp2
  go_ret
  exact⟨by simp,newAlloc _ _⟩
 have d3:decide (0<=s)=true:=decide_eq_true c3
 rw[d3,Bool.true_and]
 by_cases c4:s<=2305843009213693952
 case neg=>
  have d4:decide (s<=2305843009213693952)=false:=decide_eq_false c4
  rw[d4]
  go_enter Tryz.func154,Tryz.ntmps154
  go_wp2
  go_ret
  exact⟨by simp,newAlloc _ _⟩
 have d4:decide (s<=2305843009213693952)=true:=decide_eq_true c4
 rw[d4,Bool.true_and]
 by_cases c5:0<=d
 case neg=>
  have d5:decide (0<=d)=false:=decide_eq_false c5
  rw[d5]
  go_enter Tryz.func154,Tryz.ntmps154
  go_wp2
  go_ret
  exact⟨by simp,newAlloc _ _⟩
 have d5:decide (0<=d)=true:=decide_eq_true c5
 rw[d5,Bool.true_and]
 by_cases c6:d<=3
 case neg=>
  have d6:decide (d<=3)=false:=decide_eq_false c6
  rw[d6]
  go_enter Tryz.func154,Tryz.ntmps154
  go_wp2
  go_ret
  exact⟨by simp,newAlloc _ _⟩
 have d6:decide (d<=3)=true:=decide_eq_true c6
 rw[d6,Bool.true_and]
 cases M
 case false=>
  go_enter Tryz.func154,Tryz.ntmps154
  go_wp2_with (go_at_call 195;refine(C.out _ (newAlloc _ _)).mono ?_;rintro e w1 ⟨rfl,hb1⟩;obtain⟨x0,x1,x2,x3⟩:=box4 hb1)
  go_ret
  exact⟨by simp,step (newAlloc _ _) hb1⟩
 rw[Bool.true_and]
 by_cases c7:s=0
 ·subst c7
  by_cases c8:L=0
  ·subst c8
   go_enter Tryz.func154,Tryz.ntmps154
   go_wp2_with (go_at_call 195;refine(C.out _ (newAlloc _ _)).mono ?_;rintro e w1 ⟨rfl,hb1⟩;obtain⟨x0,x1,x2,x3⟩:=box4 hb1)
   go_ret
   exact⟨by simp,step (newAlloc _ _) hb1⟩
  ·have d8:((L:Int)==0)=false:=by simp;omega
   have d8':decide (L=0)=false:=decide_eq_false c8
   rw[d8']
   go_enter Tryz.func154,Tryz.ntmps154
   go_wp2_with (go_at_call 195;refine(C.out _ (newAlloc _ _)).mono ?_;rintro e w1 ⟨rfl,hb1⟩;obtain⟨x0,x1,x2,x3⟩:=box4 hb1)
   go_ret
   exact⟨by simp,step (newAlloc _ _) hb1⟩
 ·have d7:(s != 0)=true:=by simpa using c7
  have d7':decide (s=0)=false:=decide_eq_false c7
  rw[d7']
  go_enter Tryz.func154,Tryz.ntmps154
  go_wp2_with (go_at_call 195;refine(C.out _ (newAlloc _ _)).mono ?_;rintro e w1 ⟨rfl,hb1⟩;obtain⟨x0,x1,x2,x3⟩:=box4 hb1)
  go_ret
  exact⟨by simp,step (newAlloc _ _) hb1⟩
end Cm
end Go.Proofs.YtlnbmblbeaodcaaGreat

/- Contracts: package reply's putHeld, Put, PutAnswer, MayAnswer. -/
set_option linter.unusedVariables false
set_option maxRecDepth 8000
set_option linter.unusedSimpArgs false
namespace Go.Proofs.YtlnbmblbeaodcaaGreat
open Lib (hid)
open Go.RowKit
namespace Cm

theorem Concat_four (w:World) (b:Nat) (u v x y:Value) (us vs xs ys:List UInt8) (hu:Rd w u us) (hv:Rd w v vs) (hx:Rd w x xs) (hy:Rd w y ys) (h0:w.cell? ⟨b,0,none⟩=some u) (h1:w.cell? ⟨b,1,none⟩=some v) (h2:w.cell? ⟨b,2,none⟩=some x) (h3:w.cell? ⟨b,3,none⟩=some y)
  (hp:0<us.length) (hl:us.length+vs.length+xs.length+ys.length<=1000000):
  Calls Tryz.prog 208 #[.slice (some ⟨b,0,none⟩) 4 4] w (MadeOne (us++(vs++(xs++ys))) w):=by
 have e:flat [(u,us),(v,vs),(x,xs),(y,ys)]=us++(vs++(xs++ys)):=by simp [flat]
 have:=Concat_any b [(u,us),(v,vs),(x,xs),(y,ys)] w (fun j h=>by
  match j,h with
  | 0,_=>exact⟨h0,hu⟩
  | 1,_=>exact⟨h1,hv⟩
  | 2,_=>exact⟨h2,hx⟩
  | 3,_=>exact⟨h3,hy⟩) (by simp) (by rw[e];simp;omega) (by rw[e];simp;omega)
 rw[e] at this
 exact this
def OneS (bs:List UInt8) (w:World) (e:Ending) (w':World):Prop:=
 ∃a l c,e= .returned (.slice a l c)/\Rd w' (.slice a l c) bs/\Below w.heap.size w w'
theorem MadeOne.s {bs:List UInt8} {w:World} {e:Ending} {w':World} (h:MadeOne bs w e w'):OneS bs w e w':=by
 obtain⟨v,he,ho,hb⟩:=h
 have hr:=Rd.own ho
 obtain⟨a,l,c,rfl,_⟩:=hr.ex
 exact⟨a,l,c,he,hr,hb⟩
theorem PutByte_own (k:Int) (w:World) (h0:0<=k) (h1:k<=255):Calls Tryz.prog 178 #[.int .i64 k] w (Made ([UInt8.ofNat k.toNat],0) w):=by
 refine(PutByte_any k w).mono fun e w' h=>?_
 unfold putByteOf at h
 rw[if_neg (by omega)] at h
 exact h
theorem box2 {w w':World} {x y:Value} {t:TypeId} (h:Below (w.alloc (.cells #[x,y] t)).heap.size (w.alloc (.cells #[x,y] t)) w'):
  w'.cell? ⟨w.heap.size,0,none⟩=some x/\w'.cell? ⟨w.heap.size,1,none⟩=some y:=by
 have hl:w.heap.size<(w.alloc (.cells #[x,y] t)).heap.size :=by simp
 refine⟨?_,?_⟩
 ·rw[h.cell (p:=⟨w.heap.size,0,none⟩) hl];simp [go_sem]
 ·rw[h.cell (p:=⟨w.heap.size,1,none⟩) hl];simp [go_sem]
def MadeG (r:List UInt8 × Int) (w:World) (e:Ending) (w':World):Prop:=
 ∃g l c,e= .returned (.tuple #[.slice (some ⟨g,0,none⟩) l c,.int .i64 r.2])/\w.heap.size<=g/\g<w'.heap.size/\Rd w' (.slice (some ⟨g,0,none⟩) l c) r.1/\Below w.heap.size w w'
theorem Made.g {r:List UInt8 × Int} {w:World} {e:Ending} {w':World} (h:Made r w e w') (hp:0<r.1.length):MadeG r w e w':=by
 obtain⟨v,he,ho,hb⟩:=h
 have hr:=Rd.own ho
 rcases ho.2 with ⟨rfl,hn⟩ | ⟨g,cap,cur,rfl,h1,h2, -⟩
 ·omega
 ·exact⟨g,_,cap,he,h1,get_lt h2,hr,hb⟩
theorem PutNum_new (k:Int) (w:World) (h0:0<=k) (h1:k<=2305843009213693952):Calls Tryz.prog 143 #[.int .i64 k] w (MadeG (be8 k.toNat,0) w):=by
 refine(PutNum_any k w).mono fun e w' h=>?_
 unfold putNumOf at h
 rw[if_neg (by omega)] at h
 exact Made.g h (by simp [be8_length])
set_option maxHeartbeats 4000000 in
theorem putHeld_any (v:Value) (l:List GrantV) (w:World) (h:RdH w v l) (h4:l.length<=4) (hall: ∀g∈l,g.name.length<=12/\1<=g.token/\g.token<=2305843009213693952):
  Calls Tryz.prog 225 #[v] w (MadeOne (UInt8.ofNat l.length::bytesH l) w):=by
 obtain⟨a,cap,rfl, -⟩:=h.ex
 obtain⟨i0,hi,hz0,hz1,hz2⟩:=info_parts info8
 have HA:=hid (fun i hi=>h.at i hi)
 have HT:=hid (bytesH_take l)
 have HALL:=hid hall
 have HLE:=hid (fun j=>bytesH_le (l.take j) (fun g hg=>hall g (List.mem_of_mem_take hg)))
 clear h hall
 obtain⟨L,hL⟩: ∃L,l.length=L:=⟨_,rfl⟩
 have HL:=hid hL
 rw[hL] at h4 ⊢
 have C1:=hid (fun w=>PutByte_own (L:Int) w (by omega) (by omega))
 rw[Int.toNat_natCast] at C1
 generalize hZ:([UInt8.ofNat L]:List UInt8)=Z at C1
 have hZ1:Z.length=1:=by rw[<-hZ];rfl
 have hZE:UInt8.ofNat L::bytesH l=Z++bytesH l:=by rw[<-hZ];rfl
 rw[hZE]
 have HZ1:=hid hZ1
 clear hZ hZ1 hZE
 go_enter Tryz.func225,Tryz.ntmps225
 go_wp2_with (go_at_call 178;refine(C1.out _).mono ?_;rintro e w1 ⟨v1,rfl,hown1,hb1⟩)
 have HO1:Hid (w1.ownsRow w.heap.size 5 1 v1 (Z++bytesH (l.take 0)).length (cellsOf (Z++bytesH (l.take 0)))):=hid (by rw[List.take_zero,bytesH_nil,List.append_nil];exact hown1)
 have HB1:=hid hb1
 clear hown1 hb1
 go_loopw [3,19] (fun s i wr=> ∃j:Nat,j<=L/\i= .int .i64 j/\Hid (wr.ownsRow w.heap.size 5 1 s (Z++bytesH (l.take j)).length (cellsOf (Z++bytesH (l.take j))))/\Hid (Below w.heap.size w wr)) (fun _ i _=>L - (intOf i).toNat)
 case atStart=>exact⟨0,by omega,rfl,HO1,HB1⟩
 case round=>
  obtain⟨j,hj,rfl,HO,HB⟩:=hrel
  by_cases hlt:j<L
  ·have hjl:j<l.length:=by omega
   obtain⟨b,o,rfl,q1,q2⟩:=HA.out j hjl _ HB.out
   have hT:=HT.out j hjl
   have hle:=HLE.out j
   rw[List.length_take] at hle
   obtain⟨hg1,hg2,hg3⟩:=HALL.out l[j] (List.getElem_mem _)
   generalize l[j]=g at q1 q2 hT hg1 hg2 hg3
   obtain⟨gn,gt⟩:=g
   dsimp only at q1 q2 hg1 hg2 hg3
   have C2:=hid (fun w=>PutText_in gn w hg1)
   have C3:=hid (fun w=>PutNum_new gt w (by omega) hg3)
   have hT':Z++bytesH (l.take (j+1))=Z++bytesH (l.take j)++(UInt8.ofNat gn.length::gn)++be8 gt.toNat:=by rw[hT];simp [bytesG]
   have hRl:(Z++bytesH (l.take j)).length <=85:=by rw[List.length_append,HZ1.out];omega
   generalize Z++bytesH (l.take j)=R at HO hT' hRl
   have HT':=hid hT'
   have HZ:=HB.out.size
   have hBA:=stepAlloc HB.out (.cells #[.string (bstr gn),.int .i64 gt] 141)
   have HBA:=hid hBA
   have HOA:=hid (Rw.own_below HO.out (newAlloc wr (.cells #[.string (bstr gn),.int .i64 gt] 141)))
   generalize hN:R.length=N at HO hRl HOA
   have HN:=hid hN
   have hnl:(UInt8.ofNat gn.length::gn).length <=13:=by simp;omega
   generalize hG:UInt8.ofNat gn.length::gn=G at C2 HT' hnl
   clear hT hT' hle hN hBA hG HA HT HALL HLE
   go_wp2_with (first
    | (go_at_call 206;refine(C2.out _).mono ?_;rintro e w2 ⟨a2,l2,d2,rfl,hr2,hb2⟩;obtain⟨c0,c1⟩:=box2 hb2;have HR2:=hid hr2;have HB2:=hid hb2;clear hr2 hb2)
    | (go_at_call 143;refine(C3.out _).mono ?_;rintro e w3 ⟨g3,l3,d3,rfl,hg3a,hg3b,hr3,hb3⟩;have HR3:=hid hr3;have HB3:=hid hb3;have HG3:=hid hg3b;have HNE:=hid (Rw.own_ne (Rw.own_below HOA.out HB2.out) hg3a);have HO3:=hid (Rw.own_below (Rw.own_below HOA.out HB2.out) hb3);clear hg3a hg3b;have HBW3:=hid (step (step HBA.out HB2.out) hb3);have HZ3:=HBW3.out.size;clear hr3 hb3)
    | (at_builtin;refine wpList_append_rd rfl _ _ 47 rfl w.heap.size 5 i0 Tryz.underlying47 hi hz0 hz1 hz2 _ N (cellsOf R) rfl HO3.out _ G rfl (HR2.out.later HB3.out) (by omega) HZ3 ?_;intro v4 w4 hown4 hgrow4;have HB4:=hid (HBW3.out.grown hgrow4 HZ3 (fun k hk=>(HO3.out.lt k hk).1));have HR4:=hid (Rw.rd_other HR3.out HG3.out hgrow4 HNE.out);have HO4:=hid hown4;have HZ4:=HB4.out.size;clear hown4 hgrow4)
    | (at_builtin;refine wpList_append_rd rfl _ _ 47 rfl w.heap.size 5 i0 Tryz.underlying47 hi hz0 hz1 hz2 _ _ _ rfl HO4.out _ (be8 gt.toNat) rfl HR4.out (by simp [be8_length];omega) HZ4 ?_;intro v5 w5 hown5 hgrow5))
   go_roundw
   case rel=>
    refine⟨j+1,by omega,by go_num,hid ?_,hid (HB4.out.grown hgrow5 HZ4 (fun k hk=>(HO4.out.lt k hk).1))⟩
    have e:(Z++bytesH (l.take (j+1))).length =N+G.length+(be8 gt.toNat).length :=by rw[HT'.out];simp only[List.length_append];rw[HN.out]
    rw[e,HT'.out,cellsOf_append,cellsOf_append]
    exact hown5
   case measure=>simp [intOf];omega
  ·obtain rfl:j=L:=by omega
   have ho:=HO.out
   rw[<-HL.out,List.take_length] at ho
   have HO:=hid ho
   clear ho
   go_wp2
   go_ret
   exact⟨_,rfl,HO.out,HB.out⟩
set_option maxHeartbeats 2000000 in
theorem RepPut_any (r:ReplyV) (v:Value) (w:World) (h:RdH w v r.held):
  Calls Tryz.prog 207 #[repVal r v] w (Made (putP r) w):=by
 have C0:Hid (∀w',Below w.heap.size w w'->Calls Tryz.prog 154 #[repVal r v] w' (SaysB (mayP r) w')):=hid fun w' hb=>RepMay_any r v w' (h.later hb)
 unfold putP
 cases hm:mayP r
 ·have HM:=hid hm
  clear hm h
  obtain⟨k,s,d,l⟩:=r
  unfold repVal at C0 ⊢
  dsimp only at C0 ⊢
  go_enter Tryz.func207,Tryz.ntmps207
  go_wp2_with (go_at_call 154;refine(C0.out _ (newAlloc _ _)).mono ?_;rw[HM.out];rintro e w1 ⟨rfl,hb1⟩)
  go_ret2
  exact⟨_,rfl,World.ownsRow_nil _ _ _ _,step (newAlloc _ _) hb1⟩
 ·obtain⟨hk,hs,hd,hl4,hall⟩:=mayP_bounds r hm
  have HM:=hid hm
  clear hm
  have C4:Hid (∀w',Below w.heap.size w w'->Calls Tryz.prog 225 #[v] w' (OneS (UInt8.ofNat r.held.length::bytesH r.held) w')):=hid fun w' hb=>(putHeld_any v r.held w' (h.later hb) hl4 hall).mono fun _ _ q=>MadeOne.s q
  have hle:=bytesH_le r.held hall
  have hbl:bytesP r= [UInt8.ofNat r.code.toNat]++(be8 r.session.toNat++([UInt8.ofNat r.ahead.toNat]++(UInt8.ofNat r.held.length::bytesH r.held))):=rfl
  have hcl:(UInt8.ofNat r.held.length::bytesH r.held).length <=85:=by simp;omega
  have HBL:=hid hbl
  clear hbl h hall hle hl4
  obtain⟨k,s,d,l⟩:=r
  unfold repVal at C0 ⊢
  dsimp only at C0 C4 hk hs hd HBL hcl ⊢
  generalize UInt8.ofNat l.length::bytesH l=cb at*
  have C1:=hid (fun w=>PutByte_in k w (by omega) (by omega))
  have C2:=hid (fun w=>PutNum_in s w (by omega) (by omega))
  have C3:=hid (fun w=>PutByte_in d w (by omega) (by omega))
  go_enter Tryz.func207,Tryz.ntmps207
  go_wp2_with (go_at_call 154;refine(C0.out _ (newAlloc _ _)).mono ?_;rw[HM.out];rintro e w1 ⟨rfl,hb1⟩;obtain⟨c0,c1,c2,c3⟩:=box4 hb1)
  refine(C1.out _).mono ?_
  rintro e w2 ⟨a2,l2,d2,rfl,hr2,hb2⟩
  obtain⟨c0,c1,c2,c3⟩:=box4 (step hb1 hb2)
  go_wp2_with (go_at_call 143;refine(C2.out _).mono ?_;rintro e w3 ⟨a3,l3,d3,rfl,hr3,hb3⟩;have B3:=step (step (step (newAlloc w _) hb1) hb2) hb3;obtain⟨c0,c1,c2,c3⟩:=box4 (step (step hb1 hb2) hb3))
  refine(C3.out _).mono ?_
  rintro e w4 ⟨a4,l4,d4,rfl,hr4,hb4⟩
  have B4:=step B3 hb4
  obtain⟨c0,c1,c2,c3⟩:=box4 (step (step (step hb1 hb2) hb3) hb4)
  go_wp2_with (go_at_call 225;refine(C4.out _ B4).mono ?_;rintro e w5 ⟨a5,l5,d5,rfl,hr5,hb5⟩)
  have hb:=step B4 hb5
  refine((Concat_four _ w5.heap.size _ _ _ _ _ _ _ _ (hr2.later (stepAlloc (step (step hb3 hb4) hb5) _)) (hr3.later (stepAlloc (step hb4 hb5) _)) (hr4.later (stepAlloc hb5 _)) (hr5.later (newAlloc _ _)) (by simp [go_sem]) (by simp [go_sem]) (by simp [go_sem]) (by simp [go_sem]) (by simp) (by simp [be8_length];omega)).mono fun e w' h=>MadeOne.made h (w0:=w) (Nat.le_trans hb.size (by simp))).mono ?_
  rintro e w6 ⟨v6,rfl,ho,hb6⟩
  go_wp2
  go_ret2
  rw[HBL.out]
  exact⟨_,rfl,ho,step (stepAlloc hb _) hb6⟩
theorem RepPut_in (r:ReplyV) (v:Value) (hm:mayP r=true) (w:World) (h:RdH w v r.held):Calls Tryz.prog 207 #[repVal r v] w (MadeS (bytesP r,0) w):=by
 refine(RepPut_any r v w h).mono fun e w' q=>?_
 unfold putP at q
 rw[if_pos hm] at q
 exact Made.s q
theorem RepMayAnswer_any (r:AnsV) (v:Value) (w:World) (h:RdH w v r.rep.held):Calls Tryz.prog 92 #[ansVal r v] w (SaysB (mayA r) w):=by
 obtain⟨c,q,m⟩:=r
 have C1:=hid (fun w=>repNum_any q w)
 have C2:Hid (∀w',Below w.heap.size w w'->Calls Tryz.prog 154 #[repVal m v] w' (SaysB (mayP m) w')):=fun w' hb=>RepMay_any m v w' (h.later hb)
 clear h
 unfold ansVal mayA
 unfold repVal at C2
 obtain⟨k,s,d,l⟩:=m
 dsimp only at C2 ⊢
 by_cases h0:0<=c
 ·have d0:decide (0<=c)=true:=decide_eq_true h0
  by_cases h1:c<8
  ·have d1:decide (c<8)=true:=decide_eq_true h1
   cases hh:highF q 1
   all_goals
    have H:=hid hh
    clear hh
    go_enter Tryz.func92,Tryz.ntmps92
    go_wp2_with (first
     | (go_at_call 153;refine(C1.out _).mono ?_;rw[H.out];rintro e w' ⟨rfl,rfl⟩)
     | (go_at_call 154;refine(C2.out _ (newAlloc _ _)).mono ?_;rintro e w' ⟨rfl,hb⟩))
    go_ret
    first
     | exact⟨by simp [h0,h1],newAlloc _ _⟩
     | exact⟨by simp [h0,h1],step (newAlloc _ _) hb⟩
  ·have d1:decide (c<8)=false:=decide_eq_false h1
   go_enter Tryz.func92,Tryz.ntmps92
   go_wp2
   go_ret
   exact⟨by simp [h0,h1],newAlloc _ _⟩
 ·have d0:decide (0<=c)=false:=decide_eq_false h0
  go_enter Tryz.func92,Tryz.ntmps92
  go_wp2
  go_ret
  exact⟨by simp [h0],newAlloc _ _⟩
set_option maxHeartbeats 2000000 in
theorem RepPutAnswer_any (r:AnsV) (v:Value) (w:World) (h:RdH w v r.rep.held):
  Calls Tryz.prog 180 #[ansVal r v] w (Made (putA r) w):=by
 have C0:Hid (∀w',Below w.heap.size w w'->Calls Tryz.prog 92 #[ansVal r v] w' (SaysB (mayA r) w')):=hid fun w' hb=>RepMayAnswer_any r v w' (h.later hb)
 unfold putA
 cases hm:mayA r
 ·have HM:=hid hm
  clear hm h
  obtain⟨c,q,k,s,d,l⟩:=r
  unfold ansVal at C0 ⊢
  dsimp only at C0 ⊢
  go_enter Tryz.func180,Tryz.ntmps180
  go_wp2_with (go_at_call 92;refine(C0.out _ (newAlloc _ _)).mono ?_;rw[HM.out];rintro e w1 ⟨rfl,hb1⟩)
  go_ret2
  exact⟨_,rfl,World.ownsRow_nil _ _ _ _,step (newAlloc _ _) hb1⟩
 ·obtain⟨hk,hs,hp⟩:=mayA_bounds r hm
  have C3:Hid (∀w',Below w.heap.size w w'->Calls Tryz.prog 207 #[repVal r.rep v] w' (MadeS (bytesP r.rep,0) w')):=hid fun w' hb=>RepPut_in r.rep v hp w' (h.later hb)
  have hcb:=bytesP_le r.rep hp
  have HM:=hid hm
  have hbl:bytesA r= [UInt8.ofNat r.client.toNat]++(be8 r.seq.toNat++bytesP r.rep):=rfl
  have HBL:=hid hbl
  clear hbl hm h hp
  obtain⟨c,q,m⟩:=r
  unfold ansVal at C0 ⊢
  unfold repVal at C3
  dsimp only at C0 C3 hk hs hcb HM HBL ⊢
  generalize bytesP m=cb at hcb C3 HBL
  obtain⟨k,s,d,l⟩:=m
  dsimp only at C0 C3 ⊢
  have C1:=hid (fun w=>PutByte_in c w (by omega) (by omega))
  have C2:=hid (fun w=>PutNum_in q w (by omega) (by omega))
  go_enter Tryz.func180,Tryz.ntmps180
  go_wp2_with (first
   | (go_at_call 92;refine(C0.out _ (newAlloc _ _)).mono ?_;rw[HM.out];rintro e w1 ⟨rfl,hb1⟩;obtain⟨c0,c1,c2,c3,c4,c5⟩:=box6 hb1)
   | (go_at_call 178;refine(C1.out _).mono ?_;rintro e w2 ⟨a2,l2,d2,rfl,hr2,hb2⟩;obtain⟨c0,c1,c2,c3,c4,c5⟩:=box6 (step hb1 hb2))
   | (go_at_call 143;refine(C2.out _).mono ?_;rintro e w3 ⟨a3,l3,d3,rfl,hr3,hb3⟩;have B3:=step (step (step (newAlloc w _) hb1) hb2) hb3;obtain⟨c0,c1,c2,c3,c4,c5⟩:=box6 (step (step hb1 hb2) hb3))
   | (go_at_call 207;refine(C3.out _ B3).mono ?_;rintro e w4 ⟨a4,l4,d4,rfl,hr4,hb4⟩))
  have hb:=step B3 hb4
  refine((Concat_three _ w4.heap.size _ _ _ _ _ _ (hr2.later (stepAlloc (step hb3 hb4) _)) (hr3.later (stepAlloc hb4 _)) (hr4.later (newAlloc _ _)) (by simp [go_sem]) (by simp [go_sem]) (by simp [go_sem]) (by simp) (by simp [be8_length];omega)).mono fun e w' h=>MadeOne.made h (w0:=w) (Nat.le_trans hb.size (by simp))).mono ?_
  rintro e w5 ⟨v5,rfl,ho,hb5⟩
  go_wp2
  go_ret2
  rw[HBL.out]
  exact⟨_,rfl,ho,step (stepAlloc hb _) hb5⟩
end Cm
end Go.Proofs.YtlnbmblbeaodcaaGreat
