/- Texts laid together by program. -/
import Derived.Test.YtlnbmblbeaodcaaGreatQS6
import Derived.Lib.AppendZeros
/- Contracts of package cmd, and of the document's answers for it: letters, numbers, names, commands that may be. -/
set_option linter.unusedVariables false
set_option maxRecDepth 8000
set_option linter.unusedSimpArgs false
namespace Go.Proofs.YtlnbmblbeaodcaaGreat
open Lib (hid)
open Go.RowKit
namespace Cm

def Says (r:Bool) (w:World) (e:Ending) (w':World):Prop:=e= .returned (.bool r)/\w=w'
def SaysB (r:Bool) (w:World) (e:Ending) (w':World):Prop:=e= .returned (.bool r)/\Below w.heap.size w w'
theorem Says.b {r:Bool} {w:World} {e:Ending} {w':World} (h:Says r w e w'):SaysB r w e w':=by
 obtain⟨h1,rfl⟩:=h
 exact⟨h1,Below.refl _ _⟩
theorem inName_any (c:UInt8) (w:World):Calls Tryz.prog 193 #[.int .u8 (c.toNat:Int)] w (Says (nameB c) w):=by
  have hc:=UInt8.toNat_lt c
  unfold nameB
  generalize c.toNat=n at hc ⊢
  by_cases h1:97<=n<;>by_cases h2:n<=122<;>by_cases h3:48<=n<;>by_cases h4:n<=57<;>by_cases h5:n=45<;>first
    | (exfalso;omega)
    | (go_enter Tryz.func193,Tryz.ntmps193
       go_wp2
       go_ret
       exact⟨by simp [h1,h2,h3,h4,h5]<;>omega,rfl⟩)
theorem high_any (v least:Int) (w:World):Calls Tryz.prog 121 #[.int .i64 v,.int .i64 least] w (Says (highF v least) w):=by
  unfold highF
  by_cases h1:least<=v<;>by_cases h2:v<=2305843009213693952<;>
    (go_enter Tryz.func121,Tryz.ntmps121
     go_wp2
     go_ret
     exact⟨by simp [h1,h2]<;>omega,rfl⟩)
theorem all_take_succ (s:List UInt8) (k:Nat) (h:k<s.length):(s.take (k+1)).all nameB=((s.take k).all nameB && nameB (s.getD k 0)):=by
 rw[List.take_succ_eq_append_getElem h,List.all_append]
 simp [List.getD,List.getElem?_eq_getElem h]
theorem all_false_of (s:List UInt8) (k:Nat) (h:k<s.length) (hb:nameB (s.getD k 0)=false):s.all nameB=false:=by
 rw[List.all_eq_false]
 have e:s.getD k 0=s[k]:=by simp [List.getD,List.getElem?_eq_getElem h]
 exact⟨s[k],List.getElem_mem h,by rw[<-e,hb];simp⟩
theorem bstr_get (s:List UInt8) (k:Nat) (h:k<s.length) (h':k<(bstr s).size):(bstr s)[k]'h'=s.getD k 0:=by
 simp only[List.getD,List.getElem?_eq_getElem h,Option.getD_some]
 rfl
theorem Name_any (s:List UInt8) (w:World):Calls Tryz.prog 150 #[.string (bstr s)] w (Says (nameF s) w):=by
 have hs:=bstr_size s
 unfold nameF
 by_cases h1:s.length<1
 ·rw[decide_eq_false (by omega)]
  go_enter Tryz.func150,Tryz.ntmps150
  go_wp2
  go_ret
  exact⟨rfl,rfl⟩
 by_cases h2:12<s.length
 ·rw[decide_eq_false (show ¬s.length<=12 by omega)]
  go_enter Tryz.func150,Tryz.ntmps150
  go_wp2
  go_ret
  exact⟨by simp,rfl⟩
 rw[decide_eq_true (show 1<=s.length by omega),decide_eq_true (show s.length<=12 by omega)]
 go_enter Tryz.func150,Tryz.ntmps150
 go_wp2
 go_loop [14] (fun i=> ∃j:Nat,j<=s.length/\i= .int .i64 j/\(s.take j).all nameB=true) (fun i=>s.length - (intOf i).toNat)
 case atStart=>exact⟨0,by omega,rfl,rfl⟩
 case round=>
  obtain⟨j,hj,rfl,ha⟩:=hrel
  by_cases hlt:j<s.length
  ·have hget:=bstr_get s j hlt
   have HA:=hid (all_take_succ s j hlt)
   have HF:=hid (all_false_of s j hlt)
   generalize s.getD j 0=c at hget HA HF
   cases hn:nameB c
   ·have HN:=hid hn
    clear hn
    go_wp2_with (go_at_call 193;refine(inName_any c _).mono ?_;rw[HN.out];rintro e w' ⟨rfl,rfl⟩)
    go_ret
    exact⟨by rw[HF.out HN.out];rfl,rfl⟩
   ·have HN:=hid hn
    clear hn
    go_wp2_with (go_at_call 193;refine(inName_any c _).mono ?_;rw[HN.out];rintro e w' ⟨rfl,rfl⟩)
    go_round
    case rel=>exact⟨j+1,by omega,by go_num,by rw[HA.out,HN.out,ha];rfl⟩
    case measure=>simp [intOf];omega
  ·obtain rfl:j=s.length:=by omega
   go_wp2
   go_ret
   rw[List.take_length] at ha
   exact⟨by rw[ha];rfl,rfl⟩
theorem letter (c:UInt8):(decide (97<=(c.toNat:Int))=true/\decide ((c.toNat:Int)<=122)=true/\nameB c=true)\/
  (decide (97<=(c.toNat:Int))=false/\decide (48<=(c.toNat:Int))=true/\decide ((c.toNat:Int)<=57)=true/\nameB c=true)\/
  (decide (97<=(c.toNat:Int))=false/\decide (48<=(c.toNat:Int))=false/\((c.toNat:Int)==45)=true/\nameB c=true)\/
  (decide (97<=(c.toNat:Int))=false/\decide (48<=(c.toNat:Int))=false/\((c.toNat:Int)==45)=false/\nameB c=false)\/
  (decide (97<=(c.toNat:Int))=false/\decide (48<=(c.toNat:Int))=true/\decide ((c.toNat:Int)<=57)=false/\((c.toNat:Int)==45)=false/\nameB c=false)\/
  (decide (97<=(c.toNat:Int))=true/\decide ((c.toNat:Int)<=122)=false/\decide (48<=(c.toNat:Int))=true/\decide ((c.toNat:Int)<=57)=false/\((c.toNat:Int)==45)=false/\nameB c=false):=by
 have hc:=UInt8.toNat_lt c
 unfold nameB
 generalize c.toNat=n at hc ⊢
 simp only[decide_eq_true_eq,decide_eq_false_iff_not,beq_iff_eq,beq_eq_false_iff_ne,Bool.or_eq_true,Bool.and_eq_true,Bool.or_eq_false_iff,Bool.and_eq_false_imp]
 omega
theorem RefName_any (s:List UInt8) (w:World):Calls Tryz.prog 99 #[.string (bstr s)] w (Says (nameF s) w):=by
  have hs:=bstr_size s
  unfold nameF
  by_cases h1:s.length<1
  · rw[decide_eq_false (by omega)]
    go_enter Tryz.func99,Tryz.ntmps99
    go_wp2
    go_ret
    exact⟨rfl,rfl⟩
  by_cases h2:12<s.length
  · rw[decide_eq_false (show ¬s.length<=12 by omega)]
    go_enter Tryz.func99,Tryz.ntmps99
    go_wp2
    go_ret
    exact⟨by simp,rfl⟩
  rw[decide_eq_true (show 1<=s.length by omega),decide_eq_true (show s.length<=12 by omega)]
  go_enter Tryz.func99,Tryz.ntmps99
  go_wp2
  go_loop [3] (fun i=> ∃j:Nat,j<=s.length/\i= .int .i64 j/\(s.take j).all nameB=true) (fun i=>s.length - (intOf i).toNat)
  case atStart=>exact⟨0,by omega,rfl,rfl⟩
  case round=>
    obtain⟨j,hj,rfl,ha⟩:=hrel
    by_cases hlt:j<s.length
    · have hget:=bstr_get s j hlt
      have HA:=hid (all_take_succ s j hlt)
      have HF:=hid (all_false_of s j hlt)
      have HL:=letter (s.getD j 0)
      generalize s.getD j 0=c at hget HA HF HL
      have yes:nameB c=true->(s.take (j+1)).all nameB=true:=fun hn=>by rw[HA.out,hn,ha];rfl
      have YES:=hid yes
      clear yes HA
      rcases HL with ⟨q1,q2,hn⟩ | ⟨q1,q2,q3,hn⟩ | ⟨q1,q2,q3,hn⟩ | ⟨q1,q2,q3,hn⟩ | ⟨q1,q2,q3,q4,hn⟩ | ⟨q1,q2,q3,q4,q5,hn⟩
      all_goals
        have HN:=hid hn
        clear hn
        go_wp2
        first
          | (go_ret
             exact⟨by rw[HF.out HN.out];rfl,rfl⟩)
          | (go_round
             case rel=>exact⟨j+1,by omega,by go_num,YES.out HN.out⟩
             case measure=>simp [intOf];omega)
    · obtain rfl:j=s.length:=by omega
      go_wp2
      go_ret
      rw[List.take_length] at ha
      exact⟨by rw[ha];rfl,rfl⟩
end Cm
end Go.Proofs.YtlnbmblbeaodcaaGreat

/- Contracts: which commands and requests may be. -/
set_option linter.unusedVariables false
set_option maxRecDepth 8000
set_option linter.unusedSimpArgs false
namespace Go.Proofs.YtlnbmblbeaodcaaGreat
open Lib (hid)
open Go.RowKit
namespace Cm

def cmdVal (c:CmdV):Value:=.agg #[.int .i64 c.kind,.int .i64 c.session,.string (bstr c.name)]
def reqVal (r:ReqV):Value:=.agg #[.int .i64 r.client,.int .i64 r.seq,.int .i64 r.cmd.kind,.int .i64 r.cmd.session,.string (bstr r.cmd.name)]
theorem bstr_empty (n:List UInt8):(bstr n).toList.isEmpty =decide (n= []):=by
 rw[ByteArray.toList_eq,bstr_toList]
 cases n<;>rfl
theorem RefMay_any (c:CmdV) (w:World):Calls Tryz.prog 122 #[cmdVal c] w (SaysB (mayF c) w):=by
 obtain⟨k,s,n⟩:=c
 unfold cmdVal mayF
 dsimp only
 have C1:=hid (fun w=>high_any s 1 w)
 have C2:=hid (fun w=>RefName_any n w)
 have E:=hid (bstr_empty n)
 by_cases h1:k=1
 ·subst h1
  rw[if_pos rfl]
  by_cases hs:s=0
  ·subst hs
   go_enter Tryz.func122,Tryz.ntmps122
   go_wp2
   go_ret
   exact⟨by rw[E.out];rfl,newAlloc _ _⟩
  ·have d:(s==0)=false:=by simpa using hs
   go_enter Tryz.func122,Tryz.ntmps122
   go_wp2
   go_ret
   exact⟨by simp [hs],newAlloc _ _⟩
 rw[if_neg h1]
 by_cases h2:k=2\/k=6
 ·rw[if_pos h2]
  clear h1
  rcases h2 with rfl | rfl
  all_goals
   cases hh:highF s 1
   all_goals
    have H:=hid hh
    clear hh
    go_enter Tryz.func122,Tryz.ntmps122
    go_wp2_with (go_at_call 121;refine(C1.out _).mono ?_;rw[H.out];rintro e w' ⟨rfl,rfl⟩)
    go_ret
    exact⟨by first | rfl | (rw[E.out];rfl),newAlloc _ _⟩
 rw[if_neg h2]
 by_cases h3:k=3\/k=4\/k=5
 ·rw[if_pos h3]
  clear h1 h2
  rcases h3 with rfl | rfl | rfl
  all_goals
   cases hh:highF s 1
   all_goals
    have H:=hid hh
    clear hh
    go_enter Tryz.func122,Tryz.ntmps122
    go_wp2_with (first
     | (go_at_call 121;refine(C1.out _).mono ?_;rw[H.out];rintro e w' ⟨rfl,rfl⟩)
     | (go_at_call 99;refine(C2.out _).mono ?_;rintro e w' ⟨rfl,rfl⟩))
    go_ret
    exact⟨by simp,newAlloc _ _⟩
 rw[if_neg h3]
 have d1:(k==1)=false:=by simp;omega
 have d2:(k==2)=false:=by simp;omega
 have d3:(k==3)=false:=by simp;omega
 have d4:(k==4)=false:=by simp;omega
 have d5:(k==5)=false:=by simp;omega
 have d6:(k==6)=false:=by simp;omega
 clear h1 h2 h3
 go_enter Tryz.func122,Tryz.ntmps122
 go_wp2
 go_ret
 exact⟨rfl,newAlloc _ _⟩
theorem RefMayReq_any (r:ReqV) (w:World):Calls Tryz.prog 56 #[reqVal r] w (SaysB (mayR r) w):=by
 obtain⟨c,q,m⟩:=r
 have C1:=hid (fun w=>high_any q 1 w)
 have C2:=hid (fun w=>RefMay_any m w)
 unfold reqVal mayR
 unfold cmdVal at C2
 obtain⟨k,s,n⟩:=m
 dsimp only at C2 ⊢
 by_cases h0:0<=c
 ·have d0:decide (0<=c)=true:=decide_eq_true h0
  by_cases h1:c<8
  ·have d1:decide (c<8)=true:=decide_eq_true h1
   cases hh:highF q 1
   all_goals
    have H:=hid hh
    clear hh
    go_enter Tryz.func56,Tryz.ntmps56
    go_wp2_with (first
     | (go_at_call 121;refine(C1.out _).mono ?_;rw[H.out];rintro e w' ⟨rfl,rfl⟩)
     | (go_at_call 122;refine(C2.out _).mono ?_;rintro e w' ⟨rfl,hb⟩))
    go_ret
    first
     | exact⟨by simp [h0,h1],newAlloc _ _⟩
     | exact⟨by simp [h0,h1],step (newAlloc _ _) hb⟩
  ·have d1:decide (c<8)=false:=decide_eq_false h1
   go_enter Tryz.func56,Tryz.ntmps56
   go_wp2
   go_ret
   exact⟨by simp [h0,h1],newAlloc _ _⟩
 ·have d0:decide (0<=c)=false:=decide_eq_false h0
  go_enter Tryz.func56,Tryz.ntmps56
  go_wp2
  go_ret
  exact⟨by simp [h0],newAlloc _ _⟩
end Cm
end Go.Proofs.YtlnbmblbeaodcaaGreat

/- Contracts: slices.Grow and slices.Concat over bytes. -/
set_option linter.unusedVariables false
set_option maxRecDepth 8000
set_option linter.unusedSimpArgs false
namespace Go.Proofs.YtlnbmblbeaodcaaGreat
open Lib (hid)
open Go.RowKit

theorem owns_new (w:World) (cs:Array Value) (cap:Nat) (hc:cs.size=cap) (hm:cap<=maxLen):
  (w.alloc (.cells cs 5)).drew.ownsRow w.heap.size 5 1 (.slice (some ⟨w.heap.size,0,none⟩) 0 cap) 0 []:=by
 refine⟨rfl,.inr ⟨w.heap.size,cap,cs,rfl,Nat.le_refl _,?_,Nat.zero_le _,hm,by omega,by simp⟩⟩
 show(w.heap.push (.cells cs 5))[w.heap.size]?= _
 simp
theorem Grow_nil (n:Nat) (w:World) (h0:0<n) (h:n<=1000000):
  Calls Tryz.prog 226 #[.slice none 0 0,.int .i64 (n:Int)] w fun e w'=> ∃cap,e= .returned (.slice (some ⟨w.heap.size,0,none⟩) 0 cap)/\
   w'.ownsRow w.heap.size 5 1 (.slice (some ⟨w.heap.size,0,none⟩) 0 cap) 0 []/\Below w.heap.size w w':=by
 obtain⟨i0,hi,hz0,hz1,hz2⟩:=info_parts info8
 have hr:=fun ty=>Lib.run_append_nil_zeros (P:=Tryz.prog) w 47 3 ty 5 i0 (.int .u8 0) .i64 .i64 Tryz.underlying47 Tryz.underlying3 hi hz0 n h0 (by rw[hz1];omega) (by omega) (by rw[hz2];omega)
 have hge:=grownCap_ge w n 0 5
 have hle:=grownCap_le_maxLen w n 0 5 (by unfold maxLen;omega)
 generalize grownCap w n 0 5=cap at hr hge hle
 have hmx:=hle
 unfold maxLen at hmx
 have HR:=hid hr
 clear hr
 go_enter Tryz.func226,Tryz.ntmps226
 go_wp2_with (at_builtin;refine Lib.wpList_append_run _ rfl _ _ _ _ rfl _ _ rfl rfl _ _ (HR.out _) ?_)
 go_ret
 exact⟨cap,rfl,owns_new w _ cap (by simp [Builtin.zeroCells];omega) hle,((Below.refl _ _).alloc (Nat.le_refl _) _).drew⟩
def flat (l:List (Value × List UInt8)):List UInt8:=l.flatMap (·.2)
theorem flat_take_succ (l:List (Value × List UInt8)) (j:Nat) (h:j<l.length):flat (l.take (j+1))=flat (l.take j)++(l[j]).2:=by
 unfold flat
 rw[List.take_succ_eq_append_getElem h,List.flatMap_append]
 simp
theorem flat_take_le (l:List (Value × List UInt8)) (j:Nat):(flat (l.take j)).length <=(flat l).length :=by
 conv=>rhs;rw[<-List.take_append_drop j l]
 unfold flat
 rw[List.flatMap_append,List.length_append]
 omega
def MadeOne (bs:List UInt8) (w:World) (e:Ending) (w':World):Prop:=
 ∃v,e= .returned v/\w'.ownsRow w.heap.size 5 1 v bs.length (cellsOf bs)/\Below w.heap.size w w'
theorem Concat_any (b:Nat) (l:List (Value × List UInt8)) (w:World) (hc: ∀j (h:j<l.length),w.cell? ⟨b,j,none⟩=some (l[j]).1/\Rd w (l[j]).1 (l[j]).2) (hk:l.length<=1000) (h0:0<(flat l).length) (h1:(flat l).length <=1000000):
  Calls Tryz.prog 208 #[.slice (some ⟨b,0,none⟩) l.length l.length] w (MadeOne (flat l) w):=by
 obtain⟨i0,hi,hz0,hz1,hz2⟩:=info_parts info8
 have HC:=hid hc
 have HS:=hid (flat_take_succ l)
 have HL:=hid (flat_take_le l)
 clear hc
 go_enter Tryz.func208,Tryz.ntmps208
 go_wp2
 go_loop [3,11] (fun z i=> ∃j:Nat,j<=l.length/\i= .int .i64 j/\z= .int .i64 ((flat (l.take j)).length :Int)) (fun _ i=>l.length - (intOf i).toNat)
 case atStart=>exact⟨0,by omega,rfl,rfl⟩
 case round=>
  obtain⟨j,hj,rfl,rfl⟩:=hrel
  by_cases hlt:j<l.length
  ·obtain⟨hcell,hrd⟩:=HC.out j hlt
   have hsz:(flat (l.take (j+1))).length =(flat (l.take j)).length +(l[j]).2.length :=by rw[HS.out j hlt,List.length_append]
   have hle:=HL.out (j+1)
   generalize l[j]=x at hcell hrd hsz
   obtain⟨v,bs⟩:=x
   obtain⟨a,len,cap,rfl,hl,hcp,hm,hn,hx⟩:=hrd.ex
   clear hn hx hrd
   dsimp only at hcell hsz hl
   subst hl
   unfold maxLen at hm
   generalize (flat (l.take j)).length =A at hsz ⊢
   generalize hB:(flat (l.take (j+1))).length =B at hsz hle ⊢
   have HB:=hid hB
   clear hB
   go_wp2
   go_round
   case rel=>exact⟨j+1,by omega,by go_num,by rw[HB.out,hsz];go_num⟩
   case measure=>simp [intOf];omega
  ·obtain rfl:j=l.length:=by omega
   rw[List.take_length]
   have G:Hid (∀w,Calls Tryz.prog 226 #[.slice none 0 0,.int .i64 ((flat l).length :Int)] w fun e w'=> ∃cap,e= .returned (.slice (some ⟨w.heap.size,0,none⟩) 0 cap)/\
    w'.ownsRow w.heap.size 5 1 (.slice (some ⟨w.heap.size,0,none⟩) 0 cap) 0 []/\Below w.heap.size w w'):=fun w=>Grow_nil _ w h0 h1
   go_wp2_with (go_at_call 226;refine(G.out _).mono ?_;rintro e w1 ⟨cap,rfl,hown,hb⟩)
   go_loopw [6,27] (fun v i wr=> ∃j:Nat,j<=l.length/\i= .int .i64 j/\wr.ownsRow w.heap.size 5 1 v (flat (l.take j)).length (cellsOf (flat (l.take j)))/\Below w.heap.size w wr) (fun _ i _=>l.length - (intOf i).toNat)
   case atStart=>exact⟨0,by omega,rfl,hown,hb⟩
   case round=>
    obtain⟨j,hj,rfl,ho,hbw⟩:=hrel
    by_cases hlt:j<l.length
    ·obtain⟨hcell0,hrd0⟩:=HC.out j hlt
     have hcell:=hbw.cell (p:=⟨b,j,none⟩) (lt_of_cell hcell0)
     rw[hcell0] at hcell
     have hrd:=hrd0.later hbw
     have hsz:flat (l.take (j+1))=flat (l.take j)++(l[j]).2:=HS.out j hlt
     have hle:=HL.out (j+1)
     have hbs:=hbw.size
     rw[hsz] at hle
     generalize l[j]=x at hcell hrd hsz hle
     clear hcell0 hrd0
     obtain⟨v,bs⟩:=x
     dsimp only at hcell hrd hsz hle
     rw[List.length_append] at hle
     have HZ:=hid hsz
     clear hsz
     generalize flat (l.take j)=A at ho hle HZ
     have HO:=hid ho
     have HR:=hid hrd
     have HB:=hid hbw
     clear ho hrd hbw
     go_wp2_with (at_builtin;refine wpList_append_rd rfl _ _ 47 rfl w.heap.size 5 i0 Tryz.underlying47 hi hz0 hz1 hz2 _ _ _ rfl HO.out _ bs rfl HR.out (by omega) hbs ?_;intro v1 w2 hown2 hgrow2)
     go_roundw
     case rel=>exact⟨j+1,by omega,by go_num,by rw[HZ.out,List.length_append,cellsOf_append];exact hown2,HB.out.grown hgrow2 hbs (fun k hk=>(HO.out.lt k hk).1)⟩
     case measure=>simp [intOf];omega
    ·obtain rfl:j=l.length:=by omega
     rw[List.take_length] at ho
     go_wp2
     go_ret
     exact⟨_,rfl,ho,hbw⟩
theorem Concat_three (w:World) (b:Nat) (u v x:Value) (us vs xs:List UInt8) (hu:Rd w u us) (hv:Rd w v vs) (hx:Rd w x xs) (h0:w.cell? ⟨b,0,none⟩=some u) (h1:w.cell? ⟨b,1,none⟩=some v) (h2:w.cell? ⟨b,2,none⟩=some x)
  (hp:0<us.length) (hl:us.length+vs.length+xs.length<=1000000):
  Calls Tryz.prog 208 #[.slice (some ⟨b,0,none⟩) 3 3] w (MadeOne (us++(vs++xs)) w):=by
 have e:flat [(u,us),(v,vs),(x,xs)]=us++(vs++xs):=by simp [flat]
 have:=Concat_any b [(u,us),(v,vs),(x,xs)] w (fun j h=>by
  match j,h with
  | 0,_=>exact⟨h0,hu⟩
  | 1,_=>exact⟨h1,hv⟩
  | 2,_=>exact⟨h2,hx⟩) (by simp) (by rw[e];simp;omega) (by rw[e];simp;omega)
 rw[e] at this
 exact this
end Go.Proofs.YtlnbmblbeaodcaaGreat

/- Contracts: package cmd's Put, Get of commands. -/
set_option linter.unusedVariables false
set_option maxRecDepth 8000
set_option linter.unusedSimpArgs false
namespace Go.Proofs.YtlnbmblbeaodcaaGreat
open Lib (hid)
open Go.RowKit
namespace Cm

theorem box3 {w w':World} {x y z:Value} {t:TypeId} (h:Below (w.alloc (.cells #[x,y,z] t)).heap.size (w.alloc (.cells #[x,y,z] t)) w'):
  w'.cell? ⟨w.heap.size,0,none⟩=some x/\w'.cell? ⟨w.heap.size,1,none⟩=some y/\w'.cell? ⟨w.heap.size,2,none⟩=some z:=by
 have hl:w.heap.size<(w.alloc (.cells #[x,y,z] t)).heap.size :=by simp
 refine⟨?_,?_,?_⟩
 ·rw[h.cell (p:=⟨w.heap.size,0,none⟩) hl];simp [go_sem]
 ·rw[h.cell (p:=⟨w.heap.size,1,none⟩) hl];simp [go_sem]
 ·rw[h.cell (p:=⟨w.heap.size,2,none⟩) hl];simp [go_sem]
theorem box5 {w w':World} {x y z u v:Value} {t:TypeId} (h:Below (w.alloc (.cells #[x,y,z,u,v] t)).heap.size (w.alloc (.cells #[x,y,z,u,v] t)) w'):
  w'.cell? ⟨w.heap.size,0,none⟩=some x/\w'.cell? ⟨w.heap.size,1,none⟩=some y/\w'.cell? ⟨w.heap.size,2,none⟩=some z/\w'.cell? ⟨w.heap.size,3,none⟩=some u/\w'.cell? ⟨w.heap.size,4,none⟩=some v:=by
 have hl:w.heap.size<(w.alloc (.cells #[x,y,z,u,v] t)).heap.size :=by simp
 refine⟨?_,?_,?_,?_,?_⟩
 ·rw[h.cell (p:=⟨w.heap.size,0,none⟩) hl];simp [go_sem]
 ·rw[h.cell (p:=⟨w.heap.size,1,none⟩) hl];simp [go_sem]
 ·rw[h.cell (p:=⟨w.heap.size,2,none⟩) hl];simp [go_sem]
 ·rw[h.cell (p:=⟨w.heap.size,3,none⟩) hl];simp [go_sem]
 ·rw[h.cell (p:=⟨w.heap.size,4,none⟩) hl];simp [go_sem]
def MadeS (r:List UInt8 × Int) (w:World) (e:Ending) (w':World):Prop:=
 ∃a l c,e= .returned (.tuple #[.slice a l c,.int .i64 r.2])/\Rd w' (.slice a l c) r.1/\Below w.heap.size w w'
theorem Made.s {r:List UInt8 × Int} {w:World} {e:Ending} {w':World} (h:Made r w e w'):MadeS r w e w':=by
 obtain⟨v,he,ho,hb⟩:=h
 have hr:=Rd.own ho
 obtain⟨a,l,c,rfl,_⟩:=hr.ex
 exact⟨a,l,c,he,hr,hb⟩
theorem PutByte_in (k:Int) (w:World) (h0:0<=k) (h1:k<=255):Calls Tryz.prog 178 #[.int .i64 k] w (MadeS ([UInt8.ofNat k.toNat],0) w):=by
 refine(PutByte_any k w).mono fun e w' h=>?_
 unfold putByteOf at h
 rw[if_neg (by omega)] at h
 exact Made.s h
theorem PutNum_in (k:Int) (w:World) (h0:0<=k) (h1:k<=2305843009213693952):Calls Tryz.prog 143 #[.int .i64 k] w (MadeS (be8 k.toNat,0) w):=by
 refine(PutNum_any k w).mono fun e w' h=>?_
 unfold putNumOf at h
 rw[if_neg (by omega)] at h
 exact Made.s h
theorem PutText_in (s:List UInt8) (w:World) (h1:s.length<=12):Calls Tryz.prog 206 #[.string (bstr s)] w (MadeS (UInt8.ofNat s.length::s,0) w):=by
 refine(PutText_any (bstr s) w).mono fun e w' h=>?_
 unfold putTextOf at h
 rw[bstr_size,if_neg (by omega),bstr_toList] at h
 exact Made.s h
theorem MadeOne.made {bs:List UInt8} {w0 w w':World} {e:Ending} (h:MadeOne bs w e w') (hb:w0.heap.size<=w.heap.size): ∃v,e= .returned v/\w'.ownsRow w0.heap.size 5 1 v bs.length (cellsOf bs)/\Below w.heap.size w w':=by
 obtain⟨v,he,ho,hbb⟩:=h
 exact⟨v,he,own_mono ho hb,hbb⟩
theorem Rd.len_le {w:World} {v:Value} {bs:List UInt8} (h:Rd w v bs):bs.length<=maxLen:=by
 obtain⟨a,l,c,_,h1,h2,h3,_⟩:=h.ex
 omega
theorem byteOf_le (bs:List UInt8) (t:Int):(byteOf bs t).2.1<=bs.length:=by
 unfold byteOf
 split
 ·simp
 ·simp only;omega
theorem numOf_le (bs:List UInt8) (t:Int):(numOf bs t).2.1<=bs.length:=by
 unfold numOf
 split
 ·simp
 ·split
  ·simp only;omega
  ·simp
theorem textOf_le (bs:List UInt8) (t m:Int):(textOf bs t m).2.1<=bs.length:=by
 unfold textOf
 split
 ·simp
 ·split
  ·simp
  ·split
   ·simp
   ·simp only;omega
theorem free3 {w w':World} {x y z:Value} {t:TypeId} (h:Below (w.alloc (.cells #[x,y,z] t)).heap.size (w.alloc (.cells #[x,y,z] t)) w'):
  ∀k,w'.frozen? ⟨w.heap.size,k,none⟩=false:=by
 intro k
 have hl:w.heap.size<(w.alloc (.cells #[x,y,z] t)).heap.size :=by simp
 rw[h.frozen (p:=⟨w.heap.size,k,none⟩) hl]
 simp [go_sem]
theorem set3 {w w1:World} (h:Below w.heap.size w w1) (x y z:Value):Below w.heap.size w (((w1.setCell ⟨w.heap.size,0,none⟩ x).setCell ⟨w.heap.size,1,none⟩ y).setCell ⟨w.heap.size,2,none⟩ z):=
 ((h.setCell (Nat.le_refl _) _).setCell (Nat.le_refl _) _).setCell (Nat.le_refl _) _
end Cm
end Go.Proofs.YtlnbmblbeaodcaaGreat
