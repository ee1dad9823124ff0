/- Texts laid together by program. -/
import Derived.Test.YtclcgkpfcogcdaaGreatQ13
import Derived.Deep.RegionHeld3
import Derived.Deep.DrawnRows
import Derived.Lib.AppendZeros
import Derived.Maps.AppendAt
/- Contracts: slices.Grow, slices.Concat, slices.Clone over sessions. -/
set_option linter.unusedVariables false
set_option maxRecDepth 8000
set_option linter.unusedSimpArgs false
namespace Go.Proofs.YtclcgkpfcogcdaaGreat
open Lib (hid)
open Go.RowKit
namespace Cm

theorem ownsS_new (w:World) (cs:Array Value) (cap:Nat) (hc:cs.size=cap*3) (hm:cap<=maxLen):
  (w.alloc (.cells cs 46)).drew.ownsRow w.heap.size 46 3 (.slice (some ⟨w.heap.size,0,none⟩) 0 cap) 0 []:=by
 refine⟨rfl,.inr ⟨w.heap.size,cap,cs,rfl,Nat.le_refl _,?_,Nat.zero_le _,hm,by omega,by simp⟩⟩
 show(w.heap.push (.cells cs 46))[w.heap.size]?= _
 simp
def MadeL (l:List SesV) (w:World) (e:Ending) (w':World):Prop:=
 ∃v,e= .returned v/\w'.ownsRow w.heap.size 46 3 v l.length (flatX cellsS l)/\Below w.heap.size w w'
theorem GrowS_none (w:World):
  Calls Tryz.prog 218 #[.slice none 0 0,.int .i64 0] w (MadeL [] w):=by
 go_enter Tryz.func218,Tryz.ntmps218
 go_wp2
 go_ret
 exact⟨_,rfl,World.ownsRow_nil _ _ _ _,Below.refl _ _⟩
theorem GrowS_some (n:Nat) (w:World) (h0:0<n) (h:n<=1000000):
  Calls Tryz.prog 218 #[.slice none 0 0,.int .i64 (n:Int)] w (MadeL [] w):=by
 obtain⟨i0,hi,hz0,hz1,hz2⟩:=info_parts infoS
 have hr:=fun ty=>Lib.run_append_nil_zeros (P:=Tryz.prog) w 22 3 ty 46 i0 (.agg #[.int .i64 0,.int .i64 0,.int .i64 0]) .i64 .i64 Tryz.underlying22 Tryz.underlying3 hi hz0 n h0 (by rw[hz1];omega) (by omega) (by rw[hz2];omega)
 have hge:=grownCap_ge w n 0 46
 have hle:=grownCap_le_maxLen w n 0 46 (by unfold maxLen;omega)
 generalize grownCap w n 0 46=cap at hr hge hle
 have hmx:=hle
 unfold maxLen at hmx
 have HR:=hid hr
 clear hr
 go_enter Tryz.func218,Tryz.ntmps218
 go_wp2_with (at_builtin;refine Lib.wpList_append_run _ rfl _ _ _ _ rfl _ _ rfl rfl _ _ (HR.out _) ?_)
 go_ret
 exact⟨_,rfl,ownsS_new w _ cap (by simp [Builtin.zeroCells,Value.cells];omega) hle,((Below.refl _ _).alloc (Nat.le_refl _) _).drew⟩
theorem GrowS_any (n:Nat) (w:World) (h:n<=1000000):
  Calls Tryz.prog 218 #[.slice none 0 0,.int .i64 (n:Int)] w (MadeL [] w):=by
 rcases Nat.eq_zero_or_pos n with rfl | h0
 ·exact GrowS_none w
 ·exact GrowS_some n w h0 h
def flatP (l:List (Value × List SesV)):List SesV:=l.flatMap (·.2)
theorem flatP_take_succ (l:List (Value × List SesV)) (j:Nat) (h:j<l.length):flatP (l.take (j+1))=flatP (l.take j)++(l[j]).2:=by
 unfold flatP
 rw[List.take_succ_eq_append_getElem h,List.flatMap_append]
 simp
theorem flatP_take_le (l:List (Value × List SesV)) (j:Nat):(flatP (l.take j)).length <=(flatP l).length :=by
 conv=>rhs;rw[<-List.take_append_drop j l]
 unfold flatP
 rw[List.flatMap_append,List.length_append]
 omega
set_option maxHeartbeats 1000000 in
theorem ConcatS_any (b:Nat) (l:List (Value × List SesV)) (w:World) (hc: ∀j (h:j<l.length),w.cell? ⟨b,j,none⟩=some (l[j]).1/\RdS w (l[j]).1 (l[j]).2) (hk:l.length<=1000) (h1:(flatP l).length <=1000000):
  Calls Tryz.prog 199 #[.slice (some ⟨b,0,none⟩) l.length l.length] w (MadeL (flatP l) w):=by
 obtain⟨i0,hi,hz0,hz1,hz2⟩:=info_parts infoS
 have HC:=hid hc
 have HS:=hid (flatP_take_succ l)
 have HL:=hid (flatP_take_le l)
 clear hc
 go_enter Tryz.func199,Tryz.ntmps199
 go_wp2
 go_loop [3,11] (fun z i=> ∃j:Nat,j<=l.length/\i= .int .i64 j/\z= .int .i64 ((flatP (l.take j)).length :Int)) (fun _ i=>l.length - (intOf i).toNat)
 case atStart=>exact⟨0,by omega,rfl,rfl⟩
 case round=>
  obtain⟨j,hj,rfl,rfl⟩:=hrel
  by_cases hlt:j<l.length
  ·obtain⟨hcell,hrd⟩:=HC.out j hlt
   have hsz:(flatP (l.take (j+1))).length =(flatP (l.take j)).length +(l[j]).2.length :=by rw[HS.out j hlt,List.length_append]
   have hle:=HL.out (j+1)
   generalize l[j]=x at hcell hrd hsz
   obtain⟨v,bs⟩:=x
   dsimp only at hcell hsz hrd
   have hm:=hrd.len
   obtain⟨a,cap,rfl⟩:=hrd.form
   clear hrd
   generalize (flatP (l.take j)).length =A at hsz ⊢
   generalize hB:(flatP (l.take (j+1))).length =B at hsz hle ⊢
   generalize bs.length=Z at hsz hm hcell
   have HB:=hid hB
   clear hB
   go_wp2
   go_round
   case rel=>exact⟨j+1,by omega,by go_num,by rw[HB.out,hsz];go_num⟩
   case measure=>simp [intOf];omega
  ·obtain rfl:j=l.length:=by omega
   rw[List.take_length]
   have G:=hid (fun w=>GrowS_any (flatP l).length w h1)
   go_wp2_with (go_at_call 218;refine(G.out _).mono ?_;rintro e w1 ⟨v1,rfl,hown,hb⟩)
   go_loopw [6,27] (fun v i wr=> ∃j:Nat,j<=l.length/\i= .int .i64 j/\wr.ownsRow w.heap.size 46 3 v (flatP (l.take j)).length (flatX cellsS (flatP (l.take j)))/\Below w.heap.size w wr) (fun _ i _=>l.length - (intOf i).toNat)
   case atStart=>exact⟨0,by omega,rfl,hown,hb⟩
   case round=>
    obtain⟨j,hj,rfl,ho,hbw⟩:=hrel
    by_cases hlt:j<l.length
    ·obtain⟨hcell0,hrd0⟩:=HC.out j hlt
     have hcell:=hbw.cell (p:=⟨b,j,none⟩) (lt_of_cell hcell0)
     rw[hcell0] at hcell
     have hrd:=hrd0.later hbw
     have hsz:flatP (l.take (j+1))=flatP (l.take j)++(l[j]).2:=HS.out j hlt
     have hle:=HL.out (j+1)
     have hbs:=hbw.size
     rw[hsz] at hle
     generalize l[j]=x at hcell hrd hsz hle
     clear hcell0 hrd0
     obtain⟨v,bs⟩:=x
     dsimp only at hcell hrd hsz hle
     rw[List.length_append] at hle
     have HZ:=hid hsz
     clear hsz
     generalize flatP (l.take j)=A at ho hle HZ
     have HO:=hid ho
     have HR:=hid hrd
     have HB:=hid hbw
     clear ho hrd hbw
     go_wp2_with (at_builtin;refine wpList_append_rdx cellsS_length (by omega) cellsS_one rfl _ _ 22 rfl w.heap.size 46 i0 _ 24 Tryz.underlying22 hi hz0 hz1 hz2 rfl _ _ _ rfl HO.out _ bs rfl HR.out (by unfold maxLen;omega) (by omega) hbs ?_;intro v1 w2 hown2 hgrow2)
     go_roundw
     case rel=>exact⟨j+1,by omega,by go_num,by rw[HZ.out,List.length_append,flatX_append];exact hown2,HB.out.grown hgrow2 hbs (fun k hk=>(Rw.own_lt HO.out k hk).1)⟩
     case measure=>simp [intOf];omega
    ·obtain rfl:j=l.length:=by omega
     rw[List.take_length] at ho
     go_wp2
     go_ret
     exact⟨_,rfl,ho,hbw⟩
theorem ConcatS_three (w:World) (b:Nat) (u v x:Value) (us vs xs:List SesV) (hu:RdS w u us) (hv:RdS w v vs) (hx:RdS w x xs) (h0:w.cell? ⟨b,0,none⟩=some u) (h1:w.cell? ⟨b,1,none⟩=some v) (h2:w.cell? ⟨b,2,none⟩=some x)
  (hl:us.length+vs.length+xs.length<=1000000):
  Calls Tryz.prog 199 #[.slice (some ⟨b,0,none⟩) 3 3] w (MadeL (us++(vs++xs)) w):=by
 have e:flatP [(u,us),(v,vs),(x,xs)]=us++(vs++xs):=by simp [flatP]
 have:=ConcatS_any b [(u,us),(v,vs),(x,xs)] w (fun j h=>by
  match j,h with
  | 0,_=>exact⟨h0,hu⟩
  | 1,_=>exact⟨h1,hv⟩
  | 2,_=>exact⟨h2,hx⟩) (by simp) (by rw[e];simp;omega)
 rw[e] at this
 exact this
theorem CloneS_any (v:Value) (l:List SesV) (w:World) (h:RdS w v l) (h5:l.length<=1000000):
  Calls Tryz.prog 106 #[v] w (MadeL l w):=by
 obtain⟨i0,hi,hz0,hz1,hz2⟩:=info_parts infoS
 have heq: ∀w a n c,(binOp .eql 22 (.slice a n c) (.slice none 0 0)).run Tryz.prog w= .ok (.bool a.isNone) w:=fun w a n c=>Lib.run_eql_slice_nil w 22 46 a n c 0 0 Tryz.underlying22
 have HR:=hid h
 obtain⟨a,cap,rfl⟩:=h.form
 cases a with
 | none=>
  have hl:l= []:=by
   obtain⟨a',cap',hv,_,_,h3,_⟩:=h.ex
   cases hv
   exact(h3 rfl).1
  subst hl
  clear h
  go_enter Tryz.func106,Tryz.ntmps106
  go_wp2
  go_ret
  exact⟨_,rfl,World.ownsRow_nil _ _ _ _,Below.refl _ _⟩
 | some ad=>
  clear h
  have HR2:=hid (fun o=>HR.out.later (newAlloc w o))
  clear HR
  go_enter Tryz.func106,Tryz.ntmps106
  go_wp2_with (at_builtin;refine wpList_append_rdx cellsS_length (by omega) cellsS_one rfl _ _ 22 rfl w.heap.size 46 i0 _ 24 Tryz.underlying22 hi hz0 hz1 hz2 rfl _ 0 [] rfl (own_new w _ 3 _ _ rfl (Nat.le_refl _)) _ l rfl (HR2.out _) (by unfold maxLen;omega) (by omega) (newAlloc w (.cells #[] 46)).size ?_;intro v1 w2 hown2 hgrow2)
  go_ret
  refine⟨_,rfl,by simpa using hown2,(newAlloc w (.cells #[] 46)).grown hgrow2 (newAlloc w (.cells #[] 46)).size (fun k hk=>?_)⟩
  cases hk
  exact Nat.le_refl _
end Cm
end Go.Proofs.YtclcgkpfcogcdaaGreat

/- Contracts: the document's GetReply. -/
set_option linter.unusedVariables false
set_option maxRecDepth 8000
set_option linter.unusedSimpArgs false
namespace Go.Proofs.YtclcgkpfcogcdaaGreat
open Lib (hid)
open Go.RowKit
namespace Cm

def gCells:List GrantV->List Value
 | []=> []
 | g::l=>.string (bstr g.name):: .int .i64 g.token::gCells l
theorem gCells_get: ∀(l:List GrantV) (i:Nat) (h:i<l.length),(gCells l)[i*2]?=some (.string (bstr l[i].name))/\(gCells l)[i*2+1]?=some (.int .i64 l[i].token)
 | g::l,0,_=>⟨rfl,rfl⟩
 | g::l,i+1,h=>by
  have:=gCells_get l i (by simpa using h)
  rw[show(i+1)*2=i*2+1+1 by omega,show i*2+1+1+1=(i*2+1)+1+1 by omega]
  exact this
theorem RdH.own {w:World} {base:Nat} {e:TypeId} {v:Value} {l:List GrantV} (h:w.ownsRow base e 2 v l.length (gCells l)):RdH w v l:=by
 rcases h.2 with ⟨rfl,hn⟩ | ⟨g,cap,cur,rfl,hb,hg,hn,hc,hs,ht⟩
 ·have:l= []:=List.length_eq_zero_iff.1 hn
  subst this
  exact RdH.nil w
 ·refine⟨some ⟨g,0,none⟩,cap,rfl,hn,hc,(fun q=>by cases q),fun x hx hp=>?_⟩
  cases hx
  refine⟨rfl,fun i hi=>?_⟩
  obtain⟨h1,h2⟩:=gCells_get l i hi
  have a1:=h.cellAt (i*2) (by omega)
  have a2:=h.cellAt (i*2+1) (by omega)
  rw[h1] at a1
  rw[h2] at a2
  simp only[Nat.zero_add]
  exact⟨a1,a2⟩
theorem set4 {w w1:World} (h:Below w.heap.size w w1) (x y z u:Value):Below w.heap.size w ((((w1.setCell ⟨w.heap.size,0,none⟩ x).setCell ⟨w.heap.size,1,none⟩ y).setCell ⟨w.heap.size,2,none⟩ z).setCell ⟨w.heap.size,3,none⟩ u):=
 (((h.setCell (Nat.le_refl _) _).setCell (Nat.le_refl _) _).setCell (Nat.le_refl _) _).setCell (Nat.le_refl _) _
end Cm
end Go.Proofs.YtclcgkpfcogcdaaGreat

/- Contracts: the document's GetAnswer. -/
set_option linter.unusedVariables false
set_option maxRecDepth 8000
set_option linter.unusedSimpArgs false
namespace Go.Proofs.YtclcgkpfcogcdaaGreat
open Lib (hid)
open Go.RowKit
namespace Cm

theorem set6 {w w1:World} (h:Below w.heap.size w w1) (x y z u v s:Value):Below w.heap.size w ((((((w1.setCell ⟨w.heap.size,0,none⟩ x).setCell ⟨w.heap.size,1,none⟩ y).setCell ⟨w.heap.size,2,none⟩ z).setCell ⟨w.heap.size,3,none⟩ u).setCell ⟨w.heap.size,4,none⟩ v).setCell ⟨w.heap.size,5,none⟩ s):=
 (((((h.setCell (Nat.le_refl _) _).setCell (Nat.le_refl _) _).setCell (Nat.le_refl _) _).setCell (Nat.le_refl _) _).setCell (Nat.le_refl _) _).setCell (Nat.le_refl _) _
end Cm
end Go.Proofs.YtclcgkpfcogcdaaGreat

/- Contracts: package reply's isNumber, mayHold, May, Token. -/
set_option linter.unusedVariables false
set_option maxRecDepth 8000
set_option linter.unusedSimpArgs false
namespace Go.Proofs.YtclcgkpfcogcdaaGreat
open Lib (hid)
open Go.RowKit
namespace Cm

theorem repNum_any (v:Int) (w:World):Calls Tryz.prog 156 #[.int .i64 v] w (Says (highF v 1) w):=by
  unfold highF
  by_cases h1:1<=v<;>by_cases h2:v<=2305843009213693952<;>
    (go_enter Tryz.func156,Tryz.ntmps156
     go_wp2
     go_ret
     exact⟨by simp [h1,h2]<;>omega,rfl⟩)
set_option maxHeartbeats 4000000 in
theorem mayHold_any (v:Value) (l:List GrantV) (w:World) (h:RdH w v l):
  Calls Tryz.prog 197 #[v] w (SaysB (decide (l.length<=4) && heldOk none l) w):=by
 have hm:=h.len
 obtain⟨a,cap,rfl, -⟩:=h.ex
 by_cases c6:l.length<=4
 case neg=>
  rw[decide_eq_false c6]
  clear h
  have d5:decide (4<(l.length:Int))=true:=by simp;omega
  go_enter Tryz.func197,Tryz.ntmps197
  go_wp2
  go_ret
  exact⟨by simp,Below.refl _ _⟩
 have d5:decide (4<(l.length:Int))=false:=by simp;omega
 rw[decide_eq_true c6]
 have HA:=hid (fun i hi=>h.at i hi)
 have HD:=hid (heldOk_drop l)
 have HP:=hid (prevN_succ l)
 clear h
 obtain⟨L,hL⟩: ∃L,l.length=L:=⟨_,rfl⟩
 rw[hL] at hm c6 d5 ⊢
 go_enter Tryz.func197,Tryz.ntmps197
 go_wp2
 go_loopw [10] (fun i wr=> ∃j:Nat,j<=L/\i= .int .i64 j/\Below w.heap.size w wr/\Hid (heldOk none l=heldOk (prevN l j) (l.drop j))) (fun i _=>L - (intOf i).toNat)
 case atStart=>exact⟨0,by omega,rfl,Below.refl _ _,hid rfl⟩
 case round=>
  obtain⟨j,hj,rfl,hb,ha⟩:=hrel
  have HB:=hid hb
  clear hb
  by_cases hlt:j<L
  ·have hd:=HD.out j (by omega)
   have hp:=HP.out j (by omega)
   obtain⟨b,o,rfl,q1,q2⟩:=HA.out j (by omega) _ HB.out
   generalize hg:l[j]=g at q1 q2 hd
   have HG:=hid hg
   clear hg
   have CN:=hid (fun w=>Name_any g.name w)
   have CT:=hid (fun w=>repNum_any g.token w)
   have HB1:=hid (stepAlloc HB.out (.cells #[.string (bstr g.name),.int .i64 g.token] 57))
   unfold grantOk at hd
   by_cases n1:nameF g.name=true
   case neg=>
    have n1:nameF g.name=false:=by simpa using n1
    rw[n1,Bool.false_and,Bool.false_and,Bool.false_and] at hd
    have H:=hid hd
    have H1:=hid n1
    clear hd n1
    go_wp2_with (go_at_call 153;refine(CN.out _).mono ?_;rw[H1.out];rintro e w1 ⟨rfl,rfl⟩)
    go_ret
    exact⟨by rw[ha.out,H.out];rfl,HB1.out⟩
   by_cases n2:highF g.token 1=true
   case neg=>
    have n2:highF g.token 1=false:=by simpa using n2
    rw[n2,Bool.and_false,Bool.false_and,Bool.false_and] at hd
    have H:=hid hd
    have H1:=hid n1
    have H2:=hid n2
    clear hd n1 n2
    go_wp2_with (first
     | (go_at_call 153;refine(CN.out _).mono ?_;rw[H1.out];rintro e w1 ⟨rfl,rfl⟩)
     | (go_at_call 156;refine(CT.out _).mono ?_;rw[H2.out];rintro e w1 ⟨rfl,rfl⟩))
    go_ret
    exact⟨by rw[ha.out,H.out];rfl,HB1.out⟩
   rw[n1,n2,Bool.true_and,Bool.true_and] at hd
   have H1:=hid n1
   have H2:=hid n2
   clear n1 n2
   rcases Nat.eq_zero_or_pos j with hj0 | hj0
   ·have HJ:=hid hj0
    have d0:decide (0<j)=false:=by simp;omega
    rw[hj0,prevN_zero,<-hj0] at hd
    dsimp only at hd
    rw[Bool.true_and] at hd
    have H:=hid hd
    clear hd hp hj0
    go_upto_region 8 with (first
     | (go_at_call 153;refine(CN.out _).mono ?_;rw[H1.out];rintro e w1 ⟨rfl,rfl⟩)
     | (go_at_call 156;refine(CT.out _).mono ?_;rw[H2.out];rintro e w1 ⟨rfl,rfl⟩))
    go_quiet (fail)
    go_wp2
    go_roundw
    case rel=>exact⟨j+1,by omega,by go_num,below_drewN HB1.out nq,hid (by rw[ha.out];have e:=H.out;rw[<-prevN_zero l,<-HJ.out] at e;exact e)⟩
    case measure=>simp [intOf];omega
   ·obtain⟨q,hq⟩: ∃q,j=q+1:=⟨j - 1,by omega⟩
    have d0:decide (0<j)=true:=by simp;omega
    have hpn:=HP.out q (by omega)
    obtain⟨b',o',hbo,p1, -⟩:=HA.out q (by omega) _ HB1.out
    cases hbo
    rw[<-hq] at hpn
    rw[hpn] at hd
    dsimp only at hd
    generalize l[q]=pv at p1 hd hpn
    have e1:IntKind.i64.wrap ((j:Int) - 1)=(q:Int):=by rw[IntKind.wrap_i64];omega
    have e2:(0:Int)<=(q:Int):=by omega
    have e3:(q:Int)<(L:Int):=by omega
    have hl1:=str_less g.name pv.name
    have hl2:=str_eq g.name pv.name
    rcases less_tri pv.name g.name with ⟨t1,t2,t3⟩ | ⟨t1,t2,t3⟩ | ⟨t3,t1⟩
    ·rw[t2] at hl1
     rw[decide_eq_false (fun h=>t3 h.symm)] at hl2
     rw[t1,Bool.true_and] at hd
     have H:=hid hd
     have HPN:=hid hpn
     clear hd hp t1 t2 t3 hq hpn
     go_upto_region 8 with (first
      | (go_at_call 153;refine(CN.out _).mono ?_;rw[H1.out];rintro e w1 ⟨rfl,rfl⟩)
      | (go_at_call 156;refine(CT.out _).mono ?_;rw[H2.out];rintro e w1 ⟨rfl,rfl⟩))
     go_quiet (fail)
     go_wp2
     go_roundw
     case rel=>exact⟨j+1,by omega,by go_num,below_drewN HB1.out nq,hid (by rw[ha.out,HPN.out,H.out])⟩
     case measure=>simp [intOf];omega
    ·rw[t2] at hl1
     rw[t1,Bool.false_and] at hd
     have H:=hid hd
     have HPN:=hid hpn
     clear hd hp t1 t2 t3 hq hpn hl2
     go_upto_region 8 with (first
      | (go_at_call 153;refine(CN.out _).mono ?_;rw[H1.out];rintro e w1 ⟨rfl,rfl⟩)
      | (go_at_call 156;refine(CT.out _).mono ?_;rw[H2.out];rintro e w1 ⟨rfl,rfl⟩))
     go_quiet (fail)
     go_wp2
     go_ret
     exact⟨by rw[ha.out,HPN.out,H.out];rfl,below_drewN HB1.out nq⟩
    ·have t2:Op.bytesLess g.name pv.name=false:=by rw[<-t3] at t1 ⊢;exact t1
     rw[t2] at hl1
     rw[decide_eq_true t3.symm] at hl2
     rw[t1,Bool.false_and] at hd
     have H:=hid hd
     have HPN:=hid hpn
     clear hd hp t1 t2 t3 hq hpn
     go_upto_region 8 with (first
      | (go_at_call 153;refine(CN.out _).mono ?_;rw[H1.out];rintro e w1 ⟨rfl,rfl⟩)
      | (go_at_call 156;refine(CT.out _).mono ?_;rw[H2.out];rintro e w1 ⟨rfl,rfl⟩))
     go_quiet (fail)
     go_wp2
     go_ret
     exact⟨by rw[ha.out,HPN.out,H.out];rfl,below_drewN HB1.out nq⟩
  ·obtain rfl:j=L:=by omega
   go_wp2
   go_ret
   have ha:=ha.out
   rw[<-hL,List.drop_length] at ha
   exact⟨by rw[ha];rfl,HB.out⟩
theorem mayP_told (k s d:Int) (l:List GrantV):mayP ⟨k,s,d,l⟩=(decide (0<=k) && (decide (k<=12) && (decide (0<=s) && (decide (s<=2305843009213693952) && (decide (0<=d) && (decide (d<=3) && ((decide (l.length<=4) && heldOk none l) && (!decide (s=0) || decide (l.length=0))))))))):=by
 unfold mayP highF
 dsimp only
 have e:decide (0<l.length)= !decide (l.length=0):=by cases l<;>simp
 rw[e]
 generalize decide (0<=k)=b1
 generalize decide (k<=12)=b2
 generalize decide (0<=s)=b3
 generalize decide (s<=2305843009213693952)=b4
 generalize decide (0<=d)=b5
 generalize decide (d<=3)=b6
 generalize decide (l.length<=4)=b7
 generalize heldOk none l=b8
 generalize decide (s=0)=b9
 generalize decide (l.length=0)=b10
 revert b1 b2 b3 b4 b5 b6 b7 b8 b9 b10
 decide
set_option maxHeartbeats 4000000 in
theorem RepMay_any (r:ReplyV) (v:Value) (w:World) (h:RdH w v r.held):
  Calls Tryz.prog 157 #[repVal r v] w (SaysB (mayP r) w):=by
 obtain⟨k,s,d,l⟩:=r
 unfold repVal
 dsimp only at h ⊢
 rw[mayP_told]
 have hm:=h.len
 have C:Hid (∀w',Below w.heap.size w w'->Calls Tryz.prog 197 #[v] w' (SaysB (decide (l.length<=4) && heldOk none l) w')):=fun w' hb=>mayHold_any v l w' (h.later hb)
 obtain⟨a,cap,rfl, -⟩:=h.ex
 clear h
 generalize (decide (l.length<=4) && heldOk none l)=M at*
 generalize l.length=L at*
 by_cases c1:0<=k
 case neg=>
  have d1:decide (0<=k)=false:=decide_eq_false c1
  rw[d1]
  go_enter Tryz.func157,Tryz.ntmps157
  go_wp2
  go_ret
  exact⟨by simp,newAlloc _ _⟩
 have d1:decide (0<=k)=true:=decide_eq_true c1
 rw[d1,Bool.true_and]
 by_cases c2:k<=12
 case neg=>
  have d2:decide (k<=12)=false:=decide_eq_false c2
  rw[d2]
  go_enter Tryz.func157,Tryz.ntmps157
  go_wp2
  go_ret
  exact⟨by simp,newAlloc _ _⟩
 have d2:decide (k<=12)=true:=decide_eq_true c2
 rw[d2,Bool.true_and]
 by_cases c3:0<=s
 case neg=>
  have d3:decide (0<=s)=false:=decide_eq_false c3
  rw[d3]
  go_enter Tryz.func157,Tryz.ntmps157
  go_wp2
  go_ret
  exact⟨by simp,newAlloc _ _⟩
 have d3:decide (0<=s)=true:=decide_eq_true c3
 rw[d3,Bool.true_and]
 by_cases c4:s<=2305843009213693952
 case neg=>
  have d4:decide (s<=2305843009213693952)=false:=decide_eq_false c4
  rw[d4]
  go_enter Tryz.func157,Tryz.ntmps157
  go_wp2
  go_ret
  exact⟨by simp,newAlloc _ _⟩
 have d4:decide (s<=2305843009213693952)=true:=decide_eq_true c4
 rw[d4,Bool.true_and]
 by_cases c5:0<=d
 case neg=>
  have d5:decide (0<=d)=false:=decide_eq_false c5
  rw[d5]
  go_enter Tryz.func157,Tryz.ntmps157
  go_wp2
  go_ret
  exact⟨by simp,newAlloc _ _⟩
 have d5:decide (0<=d)=true:=decide_eq_true c5
 rw[d5,Bool.true_and]
 by_cases c6:d<=3
 case neg=>
  have d6:decide (d<=3)=false:=decide_eq_false c6
  rw[d6]
  go_enter Tryz.func157,Tryz.ntmps157
  go_wp2
  go_ret
  exact⟨by simp,newAlloc _ _⟩
 have d6:decide (d<=3)=true:=decide_eq_true c6
 rw[d6,Bool.true_and]
 cases M
 case false=>
  go_enter Tryz.func157,Tryz.ntmps157
  go_wp2_with (go_at_call 197;refine(C.out _ (newAlloc _ _)).mono ?_;rintro e w1 ⟨rfl,hb1⟩;obtain⟨x0,x1,x2,x3⟩:=box4 hb1)
  go_ret
  exact⟨by simp,step (newAlloc _ _) hb1⟩
 rw[Bool.true_and]
 by_cases c7:s=0
 ·subst c7
  by_cases c8:L=0
  ·subst c8
   go_enter Tryz.func157,Tryz.ntmps157
   go_wp2_with (go_at_call 197;refine(C.out _ (newAlloc _ _)).mono ?_;rintro e w1 ⟨rfl,hb1⟩;obtain⟨x0,x1,x2,x3⟩:=box4 hb1)
   go_ret
   exact⟨by simp,step (newAlloc _ _) hb1⟩
  ·have d8:((L:Int)==0)=false:=by simp;omega
   have d8':decide (L=0)=false:=decide_eq_false c8
   rw[d8']
   go_enter Tryz.func157,Tryz.ntmps157
   go_wp2_with (go_at_call 197;refine(C.out _ (newAlloc _ _)).mono ?_;rintro e w1 ⟨rfl,hb1⟩;obtain⟨x0,x1,x2,x3⟩:=box4 hb1)
   go_ret
   exact⟨by simp,step (newAlloc _ _) hb1⟩
 ·have d7:(s != 0)=true:=by simpa using c7
  have d7':decide (s=0)=false:=decide_eq_false c7
  rw[d7']
  go_enter Tryz.func157,Tryz.ntmps157
  go_wp2_with (go_at_call 197;refine(C.out _ (newAlloc _ _)).mono ?_;rintro e w1 ⟨rfl,hb1⟩;obtain⟨x0,x1,x2,x3⟩:=box4 hb1)
  go_ret
  exact⟨by simp,step (newAlloc _ _) hb1⟩
end Cm
end Go.Proofs.YtclcgkpfcogcdaaGreat

/- Contracts: package reply's putHeld, Put, PutAnswer, MayAnswer. -/
set_option linter.unusedVariables false
set_option maxRecDepth 8000
set_option linter.unusedSimpArgs false
namespace Go.Proofs.YtclcgkpfcogcdaaGreat
open Lib (hid)
open Go.RowKit
namespace Cm

theorem RepMayAnswer_any (r:AnsV) (v:Value) (w:World) (h:RdH w v r.rep.held):Calls Tryz.prog 96 #[ansVal r v] w (SaysB (mayA r) w):=by
 obtain⟨c,q,m⟩:=r
 have C1:=hid (fun w=>repNum_any q w)
 have C2:Hid (∀w',Below w.heap.size w w'->Calls Tryz.prog 157 #[repVal m v] w' (SaysB (mayP m) w')):=fun w' hb=>RepMay_any m v w' (h.later hb)
 clear h
 unfold ansVal mayA
 unfold repVal at C2
 obtain⟨k,s,d,l⟩:=m
 dsimp only at C2 ⊢
 by_cases h0:0<=c
 ·have d0:decide (0<=c)=true:=decide_eq_true h0
  by_cases h1:c<8
  ·have d1:decide (c<8)=true:=decide_eq_true h1
   cases hh:highF q 1
   all_goals
    have H:=hid hh
    clear hh
    go_enter Tryz.func96,Tryz.ntmps96
    go_wp2_with (first
     | (go_at_call 156;refine(C1.out _).mono ?_;rw[H.out];rintro e w' ⟨rfl,rfl⟩)
     | (go_at_call 157;refine(C2.out _ (newAlloc _ _)).mono ?_;rintro e w' ⟨rfl,hb⟩))
    go_ret
    first
     | exact⟨by simp [h0,h1],newAlloc _ _⟩
     | exact⟨by simp [h0,h1],step (newAlloc _ _) hb⟩
  ·have d1:decide (c<8)=false:=decide_eq_false h1
   go_enter Tryz.func96,Tryz.ntmps96
   go_wp2
   go_ret
   exact⟨by simp [h0,h1],newAlloc _ _⟩
 ·have d0:decide (0<=c)=false:=decide_eq_false h0
  go_enter Tryz.func96,Tryz.ntmps96
  go_wp2
  go_ret
  exact⟨by simp [h0],newAlloc _ _⟩
end Cm
end Go.Proofs.YtclcgkpfcogcdaaGreat

/- Contracts: package reply's getGrant, getHeld, Get. -/
set_option linter.unusedVariables false
set_option maxRecDepth 8000
set_option linter.unusedSimpArgs false
namespace Go.Proofs.YtclcgkpfcogcdaaGreat
open Lib (hid)
open Go.RowKit
namespace Cm

theorem set2 {w w1:World} (h:Below w.heap.size w w1) (x y:Value):Below w.heap.size w ((w1.setCell ⟨w.heap.size,0,none⟩ x).setCell ⟨w.heap.size,1,none⟩ y):=
 (h.setCell (Nat.le_refl _) _).setCell (Nat.le_refl _) _
end Cm
end Go.Proofs.YtclcgkpfcogcdaaGreat
