/- Texts laid together by program. -/
import Derived.Test.YtlnbmblbeaodcaaGreatQS11
import Derived.Lib.AppendZeros
import Derived.Lib.QuietBelow
/- Contracts: slices.Grow, slices.Concat, slices.Clone over numbers. -/
set_option linter.unusedVariables false
set_option maxRecDepth 8000
set_option linter.unusedSimpArgs false
namespace Go.Proofs.YtlnbmblbeaodcaaGreat
open Lib (hid)
open Go.RowKit
namespace Cm

theorem ownsI_new (w:World) (cs:Array Value) (cap:Nat) (hc:cs.size=cap) (hm:cap<=maxLen):
  (w.alloc (.cells cs 3)).drew.ownsRow w.heap.size 3 1 (.slice (some ⟨w.heap.size,0,none⟩) 0 cap) 0 []:=by
 refine⟨rfl,.inr ⟨w.heap.size,cap,cs,rfl,Nat.le_refl _,?_,Nat.zero_le _,hm,by omega,by simp⟩⟩
 show(w.heap.push (.cells cs 3))[w.heap.size]?= _
 simp
def MadeI (l:List Int) (w:World) (e:Ending) (w':World):Prop:=
 ∃v,e= .returned v/\w'.ownsRow w.heap.size 3 1 v l.length (flatX cellsI l)/\Below w.heap.size w w'
theorem GrowI_none (w:World):
  Calls Tryz.prog 157 #[.slice none 0 0,.int .i64 0] w (MadeI [] w):=by
 go_enter Tryz.func157,Tryz.ntmps157
 go_wp2
 go_ret
 exact⟨_,rfl,World.ownsRow_nil _ _ _ _,Below.refl _ _⟩
theorem GrowI_some (n:Nat) (w:World) (h0:0<n) (h:n<=1000000):
  Calls Tryz.prog 157 #[.slice none 0 0,.int .i64 (n:Int)] w (MadeI [] w):=by
 obtain⟨i0,hi,hz0,hz1,hz2⟩:=info_parts infoN
 have hr:=fun ty=>Lib.run_append_nil_zeros (P:=Tryz.prog) w 69 3 ty 3 i0 (.int .i64 0) .i64 .i64 Tryz.underlying69 Tryz.underlying3 hi hz0 n h0 (by rw[hz1];omega) (by omega) (by rw[hz2];omega)
 have hge:=grownCap_ge w n 0 3
 have hle:=grownCap_le_maxLen w n 0 3 (by unfold maxLen;omega)
 generalize grownCap w n 0 3=cap at hr hge hle
 have hmx:=hle
 unfold maxLen at hmx
 have HR:=hid hr
 clear hr
 go_enter Tryz.func157,Tryz.ntmps157
 go_wp2_with (at_builtin;refine Lib.wpList_append_run _ rfl _ _ _ _ rfl _ _ rfl rfl _ _ (HR.out _) ?_)
 go_ret
 exact⟨_,rfl,ownsI_new w _ cap (by simp [Builtin.zeroCells,Value.cells];omega) hle,((Below.refl _ _).alloc (Nat.le_refl _) _).drew⟩
theorem GrowI_any (n:Nat) (w:World) (h:n<=1000000):
  Calls Tryz.prog 157 #[.slice none 0 0,.int .i64 (n:Int)] w (MadeI [] w):=by
 rcases Nat.eq_zero_or_pos n with rfl | h0
 ·exact GrowI_none w
 ·exact GrowI_some n w h0 h
def flatQ (l:List (Value × List Int)):List Int:=l.flatMap (·.2)
theorem flatQ_take_succ (l:List (Value × List Int)) (j:Nat) (h:j<l.length):flatQ (l.take (j+1))=flatQ (l.take j)++(l[j]).2:=by
 unfold flatQ
 rw[List.take_succ_eq_append_getElem h,List.flatMap_append]
 simp
theorem flatQ_take_le (l:List (Value × List Int)) (j:Nat):(flatQ (l.take j)).length <=(flatQ l).length :=by
 conv=>rhs;rw[<-List.take_append_drop j l]
 unfold flatQ
 rw[List.flatMap_append,List.length_append]
 omega
set_option maxHeartbeats 1000000 in
theorem ConcatI_any (b:Nat) (l:List (Value × List Int)) (w:World) (hc: ∀j (h:j<l.length),w.cell? ⟨b,j,none⟩=some (l[j]).1/\RdI w (l[j]).1 (l[j]).2) (hk:l.length<=1000) (h1:(flatQ l).length <=1000000):
  Calls Tryz.prog 97 #[.slice (some ⟨b,0,none⟩) l.length l.length] w (MadeI (flatQ l) w):=by
 obtain⟨i0,hi,hz0,hz1,hz2⟩:=info_parts infoN
 have HC:=hid hc
 have HS:=hid (flatQ_take_succ l)
 have HL:=hid (flatQ_take_le l)
 clear hc
 go_enter Tryz.func97,Tryz.ntmps97
 go_wp2
 go_loop [3,11] (fun z i=> ∃j:Nat,j<=l.length/\i= .int .i64 j/\z= .int .i64 ((flatQ (l.take j)).length :Int)) (fun _ i=>l.length - (intOf i).toNat)
 case atStart=>exact⟨0,by omega,rfl,rfl⟩
 case round=>
  obtain⟨j,hj,rfl,rfl⟩:=hrel
  by_cases hlt:j<l.length
  ·obtain⟨hcell,hrd⟩:=HC.out j hlt
   have hsz:(flatQ (l.take (j+1))).length =(flatQ (l.take j)).length +(l[j]).2.length :=by rw[HS.out j hlt,List.length_append]
   have hle:=HL.out (j+1)
   generalize l[j]=x at hcell hrd hsz
   obtain⟨v,bs⟩:=x
   dsimp only at hcell hsz hrd
   have hm:=hrd.len
   obtain⟨a,cap,rfl⟩:=hrd.form
   clear hrd
   generalize (flatQ (l.take j)).length =A at hsz ⊢
   generalize hB:(flatQ (l.take (j+1))).length =B at hsz hle ⊢
   generalize bs.length=Z at hsz hm hcell
   have HB:=hid hB
   clear hB
   go_wp2
   go_round
   case rel=>exact⟨j+1,by omega,by go_num,by rw[HB.out,hsz];go_num⟩
   case measure=>simp [intOf];omega
  ·obtain rfl:j=l.length:=by omega
   rw[List.take_length]
   have G:=hid (fun w=>GrowI_any (flatQ l).length w h1)
   go_wp2_with (go_at_call 157;refine(G.out _).mono ?_;rintro e w1 ⟨v1,rfl,hown,hb⟩)
   go_loopw [6,27] (fun v i wr=> ∃j:Nat,j<=l.length/\i= .int .i64 j/\wr.ownsRow w.heap.size 3 1 v (flatQ (l.take j)).length (flatX cellsI (flatQ (l.take j)))/\Below w.heap.size w wr) (fun _ i _=>l.length - (intOf i).toNat)
   case atStart=>exact⟨0,by omega,rfl,hown,hb⟩
   case round=>
    obtain⟨j,hj,rfl,ho,hbw⟩:=hrel
    by_cases hlt:j<l.length
    ·obtain⟨hcell0,hrd0⟩:=HC.out j hlt
     have hcell:=hbw.cell (p:=⟨b,j,none⟩) (lt_of_cell hcell0)
     rw[hcell0] at hcell
     have hrd:=hrd0.later hbw
     have hsz:flatQ (l.take (j+1))=flatQ (l.take j)++(l[j]).2:=HS.out j hlt
     have hle:=HL.out (j+1)
     have hbs:=hbw.size
     rw[hsz] at hle
     generalize l[j]=x at hcell hrd hsz hle
     clear hcell0 hrd0
     obtain⟨v,bs⟩:=x
     dsimp only at hcell hrd hsz hle
     rw[List.length_append] at hle
     have HZ:=hid hsz
     clear hsz
     generalize flatQ (l.take j)=A at ho hle HZ
     have HO:=hid ho
     have HR:=hid hrd
     have HB:=hid hbw
     clear ho hrd hbw
     go_wp2_with (at_builtin;refine wpList_append_rdx cellsI_length (by omega) cellsI_one rfl _ _ 69 rfl w.heap.size 3 i0 _ 8 Tryz.underlying69 hi hz0 hz1 hz2 rfl _ _ _ rfl HO.out _ bs rfl HR.out (by unfold maxLen;omega) (by omega) hbs ?_;intro v1 w2 hown2 hgrow2)
     go_roundw
     case rel=>exact⟨j+1,by omega,by go_num,by rw[HZ.out,List.length_append,flatX_append];exact hown2,HB.out.grown hgrow2 hbs (fun k hk=>(Rw.own_lt HO.out k hk).1)⟩
     case measure=>simp [intOf];omega
    ·obtain rfl:j=l.length:=by omega
     rw[List.take_length] at ho
     go_wp2
     go_ret
     exact⟨_,rfl,ho,hbw⟩
theorem ConcatI_two (w:World) (b:Nat) (u v:Value) (us vs:List Int) (hu:RdI w u us) (hv:RdI w v vs) (h0:w.cell? ⟨b,0,none⟩=some u) (h1:w.cell? ⟨b,1,none⟩=some v)
  (hl:us.length+vs.length<=1000000):
  Calls Tryz.prog 97 #[.slice (some ⟨b,0,none⟩) 2 2] w (MadeI (us++vs) w):=by
 have e:flatQ [(u,us),(v,vs)]=us++vs:=by simp [flatQ]
 have:=ConcatI_any b [(u,us),(v,vs)] w (fun j h=>by
  match j,h with
  | 0,_=>exact⟨h0,hu⟩
  | 1,_=>exact⟨h1,hv⟩) (by simp) (by rw[e];simp;omega)
 rw[e] at this
 exact this
end Cm
end Go.Proofs.YtlnbmblbeaodcaaGreat

/- Contracts: padlockref6's Ahead, RightLine, Join, Without; slices.Index, Contains of numbers. -/
set_option linter.unusedVariables false
set_option maxRecDepth 8000
set_option linter.unusedSimpArgs false
namespace Go.Proofs.YtlnbmblbeaodcaaGreat
open Lib (hid)
open Go.RowKit
namespace Cm

theorem In_has (v:Value) (l:List Int) (x:Int) (w:World) (h:RdI w v l):Calls Tryz.prog 101 #[v,.int .i64 x] w (Says (hasL l x) w):=In_any v l x w h
def Stands (r:Int × Bool) (w:World) (e:Ending) (w':World):Prop:=e= .returned (.tuple #[.int .i64 r.1,.bool r.2])/\w'=w
theorem Ahead_any (v:Value) (l:List Int) (c:Int) (w:World) (h:RdI w v l):Calls Tryz.prog 171 #[v,.int .i64 c] w (Stands (aheadL l c) w):=by
 have hm:=h.len
 obtain⟨a,cap,rfl⟩:=h.form
 have HA:=hid (fun i hi=>rdi_at h i hi)
 have HH:=hid (idxI_hit (isN c) l)
 have HM:=hid (idxI_miss (isN c) l)
 clear h
 obtain⟨L,hL⟩: ∃L,l.length=L:=⟨_,rfl⟩
 have HLL:=hid hL
 rw[hL] at hm ⊢
 clear hL
 go_enter Tryz.func171,Tryz.ntmps171
 go_wp2
 go_loop [6] (fun i=> ∃k:Nat,k<=L/\i= .int .i64 k/\Hid (∀j (hj:j<k) (hl:j<l.length),isN c l[j]=false)) (fun i=>L - (intOf i).toNat)
 case atStart=>exact⟨0,by omega,rfl,hid (fun j hj=>absurd hj (Nat.not_lt_zero _))⟩
 case round=>
  obtain⟨k,hk,rfl,HJ⟩:=hrel
  by_cases hlt:k<L
  ·have hkl:k<l.length:=by rw[HLL.out];exact hlt
   obtain⟨b,o,rfl,hc⟩:=HA.out k hkl
   have q1:=hc w (Below.refl _ _)
   have HI:Hid (isN c l[k]=true->idxI (isN c) l=k):=hid (fun q=>HH.out k hkl q (fun j hj=>HJ.out j hj (by omega)))
   have HN:Hid (isN c l[k]=false-> ∀j (hj:j<k+1) (hl:j<l.length),isN c l[j]=false):=hid (fun q j hj hl=>by
    by_cases e:j=k
    ·subst e;exact q
    ·exact HJ.out j (by omega) hl)
   clear HA HH HM hc
   generalize l[k]=g at q1 HI HN
   by_cases hq:g=c
   ·have d:(g==c)=true:=by simpa using hq
    have H:=hid (HI.out (by unfold isN;exact decide_eq_true hq))
    clear hq HI HN
    go_wp2
    go_ret2
    refine⟨?_,rfl⟩
    unfold aheadL
    rw[H.out,if_neg (by omega)]
    rfl
   ·have d:(g==c)=false:=by simpa using hq
    have H:=hid (HN.out (by unfold isN;exact decide_eq_false hq))
    clear hq HI HN
    go_wp2
    go_round
    case rel=>exact⟨k+1,by omega,by go_num,H⟩
    case measure=>simp [intOf];omega
  ·obtain rfl:k=L:=by omega
   have H:=hid (HM.out (fun j hj=>HJ.out j (by rw[<-HLL.out];exact hj) hj))
   clear HM HH
   go_wp2
   go_ret2
   refine⟨?_,rfl⟩
   unfold aheadL
   rw[H.out,if_pos (by omega)]
   rfl
end Cm
end Go.Proofs.YtlnbmblbeaodcaaGreat

/- Contracts: padlockref6's Without, RightLine; padlocklaw7's Line. -/
set_option linter.unusedVariables false
set_option maxRecDepth 8000
set_option linter.unusedSimpArgs false
namespace Go.Proofs.YtlnbmblbeaodcaaGreat
open Lib (hid)
open Go.RowKit
namespace Cm

set_option maxHeartbeats 2000000 in
theorem Without_any (v u:Value) (l g:List Int) (w:World) (h:RdI w v l) (h2:RdI w u g) (h5:l.length<=1000):Calls Tryz.prog 173 #[v,u] w (GetsN (withoutL l g) w):=by
 have hm:=h.len
 obtain⟨a,cap,rfl⟩:=h.form
 have HA:=hid (fun i hi=>rdi_at h i hi)
 have HF:=hid (withoutL_succ l g)
 have HG:=hid (fun x w' (hb:Below w.heap.size w w')=>In_has u g x w' (h2.later hb))
 obtain⟨a2,cap2,rfl⟩:=h2.form
 clear h h2
 obtain⟨i0,hi,hz0,hz1,hz2⟩:=info_parts infoN
 obtain⟨L,hL⟩: ∃L,l.length=L:=⟨_,rfl⟩
 have HLL:=hid hL
 rw[hL] at hm h5 ⊢
 clear hL
 generalize g.length=GL at*
 go_enter Tryz.func173,Tryz.ntmps173
 go_wp2
 go_loopw [5,6] (fun m i wr=> ∃(k:Nat) (M:List Int),k<=L/\i= .int .i64 k/\Hid (withoutL (l.take k) g=M)/\M.length<=k/\Hid (wr.ownsRow w.heap.size 3 1 m M.length (flatX cellsI M))/\Hid (Below w.heap.size w wr)) (fun _ i _=>L - (intOf i).toNat)
 case atStart=>exact⟨0,[],by omega,rfl,hid rfl,by simp,hid (World.ownsRow_nil _ _ _ _),hid (Below.refl _ _)⟩
 case round=>
  obtain⟨k,M,hk,rfl,HM,hMk,HO,HB⟩:=hrel
  by_cases hlt:k<L
  ·have hkl:k<l.length:=by rw[HLL.out];exact hlt
   obtain⟨b,o,rfl,hc⟩:=HA.out k hkl
   have q0:=hc _ HB.out
   have hp:=HF.out k hkl
   rw[HM.out] at hp
   clear hc HA HF
   generalize l[k]=x at q0 hp
   have HI:=hid (HG.out x wr HB.out)
   clear HG
   cases n1:hasL g x with
   | true=>
    have H:Hid (withoutL (l.take (k+1)) g=M):=hid (by rw[hp,n1];simp)
    rw[n1] at HI
    clear hp n1
    go_wp2_with fail
    refine HI.out.mono ?_
    rintro e w1 ⟨rfl,rfl⟩
    go_wp2
    go_roundw
    case rel=>exact⟨k+1,M,by omega,by go_num,H,by omega,HO,HB⟩
    case measure=>simp [intOf];omega
   | false=>
    have H:Hid (withoutL (l.take (k+1)) g=M++ [x]):=hid (by rw[hp,n1];simp)
    rw[n1] at HI
    clear hp n1
    go_wp2_with fail
    refine HI.out.mono ?_
    rintro e w1 ⟨rfl,rfl⟩
    go_wp2_with (at_builtin;(refine wpList_append_one cellsI_length (by omega) rfl (.tmp 20) (.tmp 25) 69 rfl 3 i0 _ 8 Tryz.underlying69 hi hz0 hz1 hz2 rfl #[.int .i64 x] x rfl (cellsI_one _) M w.heap.size w.heap.size w _ rfl rfl HO.out (by unfold maxLen;omega) (by omega) HB.out.size HB.out (Nat.le_refl _) ?_);intro v5 w5 ho5 hb5 _;have HO5:=hid ho5;have HB5:=hid hb5;clear ho5 hb5)
    go_roundw
    case rel=>exact⟨k+1,M++ [x],by omega,by go_num,H,by simp;omega,HO5,HB5⟩
    case measure=>simp [intOf];omega
  ·obtain rfl:k=L:=by omega
   have hM:=HM.out
   rw[<-HLL.out,List.take_length] at hM
   have H:=hid hM
   clear hM
   go_wp2
   go_ret
   rw[H.out]
   exact⟨_,rfl,HO.out,HB.out⟩
end Cm
end Go.Proofs.YtlnbmblbeaodcaaGreat

/- What package lock answers, as plain functions over lists of locks. No program is named here. -/
set_option linter.unusedVariables false
set_option maxRecDepth 8000
set_option linter.unusedSimpArgs false
namespace Go.Proofs.YtlnbmblbeaodcaaGreat
open Lib (hid)
open Go.RowKit
namespace Cm

structure LockV where
 name:List UInt8
 holder:Int
 token:Int
 line:List Int
deriving DecidableEq

def isNm (n:List UInt8) (k:LockV):Bool:=decide (k.name=n)
def zeroK:LockV:=⟨[],0,0,[]⟩
def getK (l:List LockV) (i:Int):LockV:=l.getD i.toNat zeroK
def oneK (k:LockV):Bool:=nameF k.name && (clientF k.holder && (highF k.token 1 && (rightL k.line && !hasL k.line k.holder)))
def lockOk (pre:List LockV) (k:LockV):Bool:=
 oneK k && ((match pre.getLast? with | none=>true | some p=>Op.bytesLess p.name k.name) && pre.all fun p=> !decide (p.token=k.token))
def rightGoK (pre:List LockV):List LockV->Bool
 | []=>true
 | k::l=>lockOk pre k && rightGoK (pre++ [k]) l
def rightK (l:List LockV):Bool:=decide (l.length<=4) && rightGoK [] l
def placeK (n:List UInt8):List LockV->Nat
 | []=>0
 | k::l=>if Op.bytesLess k.name n=true then placeK n l+1 else 0
def putK (x:LockV):List LockV->List LockV
 | []=> [x]
 | k::l=>if Op.bytesLess k.name x.name=true then k::putK x l else x::k::l
theorem placeK_le (n:List UInt8): ∀l,placeK n l<=l.length
 | []=>Nat.le_refl _
 | k::l=>by
  unfold placeK
  split
  ·have:=placeK_le n l
   rw[List.length_cons];omega
  ·exact Nat.zero_le _
theorem placeK_lt (n:List UInt8): ∀(l:List LockV) (i:Nat) (h:i<l.length),i<placeK n l->Op.bytesLess l[i].name n=true
 | k::l,0,_,hp=>by
  unfold placeK at hp
  split at hp
  ·assumption
  ·omega
 | k::l,i+1,h,hp=>by
  unfold placeK at hp
  split at hp
  ·exact placeK_lt n l i (by simpa using h) (by omega)
  ·omega
theorem placeK_at (n:List UInt8): ∀(l:List LockV) (h:placeK n l<l.length),Op.bytesLess l[placeK n l].name n=false
 | k::l,h=>by
  by_cases q:Op.bytesLess k.name n=true
  ·have e:placeK n (k::l)=placeK n l+1:=by rw[placeK,if_pos q]
   have h':placeK n l<l.length:=by rw[e] at h;simpa using h
   have:=placeK_at n l h'
   simp only[e,List.getElem_cons_succ]
   exact this
  ·have e:placeK n (k::l)=0:=by rw[placeK,if_neg q]
   simp only[e,List.getElem_cons_zero]
   simpa using q
theorem putK_place (x:LockV): ∀l,putK x l=l.take (placeK x.name l)++x::l.drop (placeK x.name l)
 | []=>rfl
 | k::l=>by
  by_cases q:Op.bytesLess k.name x.name=true
  ·have e:placeK x.name (k::l)=placeK x.name l+1:=by rw[placeK,if_pos q]
   rw[e,putK,if_pos q,putK_place x l]
   rfl
  ·have e:placeK x.name (k::l)=0:=by rw[placeK,if_neg q]
   rw[e,putK,if_neg q]
   rfl
def takeK (l:List LockV) (n:List UInt8) (c t:Int) (wait:Bool):List LockV × Int × Int:=
 if idxI (isNm n) l<0 then (if 4<=l.length then ([],0,5) else (putK ⟨n,c,t+1,[]⟩ l,0,0)) else
 if (getK l (idxI (isNm n) l)).holder =c then ([],0,7) else
 if wait=false then ([],0,8) else
 if (aheadL (getK l (idxI (isNm n) l)).line c).2=true then (l,(aheadL (getK l (idxI (isNm n) l)).line c).1,10) else
 if 3<=(getK l (idxI (isNm n) l)).line.length then ([],0,5) else
 (l.set (idxI (isNm n) l).toNat ⟨(getK l (idxI (isNm n) l)).name,(getK l (idxI (isNm n) l)).holder,(getK l (idxI (isNm n) l)).token,(getK l (idxI (isNm n) l)).line ++ [c]⟩,(getK l (idxI (isNm n) l)).line.length,10)
def passK (k:LockV) (t:Int):LockV:=⟨k.name,k.line.headD 0,t+1,k.line.drop 1⟩
def freeK (l:List LockV) (n:List UInt8) (c t:Int):List LockV × Int × Int:=
 if idxI (isNm n) l<0 then ([],0,6) else
 if (getK l (idxI (isNm n) l)).holder ≠c then
  (if (aheadL (getK l (idxI (isNm n) l)).line c).2=false then ([],0,6) else
   (l.set (idxI (isNm n) l).toNat ⟨(getK l (idxI (isNm n) l)).name,(getK l (idxI (isNm n) l)).holder,(getK l (idxI (isNm n) l)).token,withoutL (getK l (idxI (isNm n) l)).line [c]⟩,0,0)) else
 if (getK l (idxI (isNm n) l)).line = [] then (l.take (idxI (isNm n) l).toNat ++l.drop ((idxI (isNm n) l).toNat +1),0,0) else
 (l.set (idxI (isNm n) l).toNat (passK (getK l (idxI (isNm n) l)) t),1,0)
def leftK (gone:List Int) (k:LockV):LockV:=⟨k.name,k.holder,k.token,withoutL k.line gone⟩
def dropK (gone:List Int):List LockV->Int->List LockV × Int
 | [],_=>([],0)
 | k::l,t=>
  if hasL gone k.holder=false then (leftK gone k::(dropK gone l t).1,(dropK gone l t).2) else
  if (leftK gone k).line = [] then dropK gone l t else
  (passK (leftK gone k) t::(dropK gone l (t+1)).1,(dropK gone l (t+1)).2+1)
def heldK (l:List LockV) (c:Int):List GrantV:=(l.filter fun k=>decide (k.holder=c)).map fun k=>⟨k.name,k.token⟩
def sameK:List LockV->List LockV->Bool
 | [],[]=>true
 | k::l,h::m=>(decide (k.name=h.name) && (decide (k.holder=h.holder) && (decide (k.token=h.token) && decide (k.line=h.line)))) && sameK l m
 | _,_=>false
theorem sameK_iff: ∀(l m:List LockV),sameK l m=true ↔ l=m
 | [],[]=>by simp [sameK]
 | [],_::_=>by simp [sameK]
 | _::_,[]=>by simp [sameK]
 | ⟨a,b,c,d⟩::l,⟨a',b',c',d'⟩::m=>by
  unfold sameK
  simp [sameK_iff l m]
theorem sameK_len: ∀(l m:List LockV),l.length≠m.length->sameK l m=false
 | [],[],h=>absurd rfl h
 | [],_::_,_=>rfl
 | _::_,[],_=>rfl
 | g::l,h::m,q=>by
  have:=sameK_len l m (by simpa using q)
  unfold sameK
  rw[this,Bool.and_false]
theorem sameK_drop (l m:List LockV) (j:Nat) (h:j<l.length) (hm:j<m.length):
  sameK (l.drop j) (m.drop j)=((decide (l[j].name =m[j].name) && (decide (l[j].holder =m[j].holder) && (decide (l[j].token =m[j].token) && decide (l[j].line =m[j].line)))) && sameK (l.drop (j+1)) (m.drop (j+1))):=by
 rw[List.drop_eq_getElem_cons h,List.drop_eq_getElem_cons hm]
 rfl
theorem heldK_drop (l:List LockV) (c:Int) (j:Nat) (h:j<l.length):heldK (l.take (j+1)) c=heldK (l.take j) c++if l[j].holder =c then [⟨l[j].name,l[j].token⟩] else []:=by
 unfold heldK
 rw[List.take_succ_eq_append_getElem h,List.filter_append,List.map_append]
 congr 1
 by_cases q:l[j].holder =c<;>simp [q]
/-! ### Right lists, as a relation -/
structure Rk (l:List LockV):Prop where
 one: ∀k∈l,oneK k=true
 up:l.Pairwise fun a b=>Op.bytesLess a.name b.name=true
 tok:l.Pairwise fun a b=>a.token≠b.token
theorem Rk.nil:Rk []:=⟨(fun s h=>by cases h),List.Pairwise.nil,List.Pairwise.nil⟩
theorem less_tr: ∀a b c:List UInt8,Op.bytesLess a b=true->Op.bytesLess b c=true->Op.bytesLess a c=true:=by
 intro a
 induction a with
 | nil=>
  intro b c h1 h2
  cases c with
  | nil=>cases b<;>simp [Op.bytesLess] at h2
  | cons z c=>rfl
 | cons x a ih=>
  intro b c h1 h2
  cases b with
  | nil=>simp [Op.bytesLess] at h1
  | cons y b=>
   cases c with
   | nil=>simp [Op.bytesLess] at h2
   | cons z c=>
    simp only[Op.bytesLess,Bool.or_eq_true,Bool.and_eq_true,decide_eq_true_eq,beq_iff_eq] at h1 h2 ⊢
    rcases h1 with h1 | ⟨rfl,h1⟩
    ·rcases h2 with h2 | ⟨rfl,h2⟩
     ·exact .inl (show x.toNat<z.toNat from Nat.lt_trans (show x.toNat<y.toNat from h1) (show y.toNat<z.toNat from h2))
     ·exact .inl h1
    ·rcases h2 with h2 | ⟨rfl,h2⟩
     ·exact .inl h2
     ·exact .inr ⟨rfl,ih b c h1 h2⟩
theorem rk_snoc (pre:List LockV) (s:LockV):Rk (pre++ [s]) ↔ Rk pre/\oneK s=true/\(∀a∈pre,Op.bytesLess a.name s.name=true)/\ ∀a∈pre,a.token≠s.token:=by
 constructor
 ·intro h
  obtain⟨u1,_,u3⟩:=List.pairwise_append.1 h.up
  obtain⟨n1,_,n3⟩:=List.pairwise_append.1 h.tok
  exact⟨⟨fun x hx=>h.one x (List.mem_append_left _ hx),u1,n1⟩,h.one s (by simp),fun a ha=>u3 a ha s (by simp),fun a ha=>n3 a ha s (by simp)⟩
 ·rintro ⟨h,h1,h2,h3⟩
  refine⟨fun x hx=>?_,List.pairwise_append.2 ⟨h.up,List.pairwise_singleton _ _,fun a ha b hb=>?_⟩,List.pairwise_append.2 ⟨h.tok,List.pairwise_singleton _ _,fun a ha b hb=>?_⟩⟩
  ·rcases List.mem_append.1 hx with q | q
   ·exact h.one x q
   ·rw[List.mem_singleton] at q;subst q;exact h1
  ·rw[List.mem_singleton] at hb;subst hb;exact h2 a ha
  ·rw[List.mem_singleton] at hb;subst hb;exact h3 a ha
theorem lockOk_iff (pre:List LockV) (s:LockV) (h:Rk pre):lockOk pre s=true ↔ Rk (pre++ [s]):=by
 rw[rk_snoc]
 unfold lockOk
 have hall:(pre.all fun p=> !decide (p.token=s.token))=true ↔ ∀a∈pre,a.token≠s.token:=by simp [List.all_eq_true]
 have hlast:(match pre.getLast? with | none=>true | some p=>Op.bytesLess p.name s.name)=true ↔ ∀a∈pre,Op.bytesLess a.name s.name=true:=by
  rcases List.eq_nil_or_concat pre with rfl | ⟨q,p,rfl⟩
  ·simp
  ·rw[List.concat_eq_append] at h ⊢
   rw[List.getLast?_append]
   simp only[List.getLast?_singleton,Option.some_or]
   constructor
   ·intro hp a ha
    rcases List.mem_append.1 ha with g | g
    ·exact less_tr _ _ _ ((List.pairwise_append.1 h.up).2.2 a g p (by simp)) hp
    ·rw[List.mem_singleton] at g;subst g;exact hp
   ·intro hp
    exact hp p (by simp)
 rw[Bool.and_eq_true,Bool.and_eq_true,hall,hlast]
 constructor
 ·rintro ⟨h1,h2,h3⟩
  exact⟨h,h1,h2,h3⟩
 ·rintro ⟨_,h1,h2,h3⟩
  exact⟨h1,h2,h3⟩
theorem rightGoK_iff (l:List LockV): ∀pre,Rk pre->(rightGoK pre l=true ↔ Rk (pre++l)):=by
 induction l with
 | nil=>intro pre h;simp [rightGoK,h]
 | cons s l ih=>
  intro pre h
  have e:pre++s::l=(pre++ [s])++l:=by simp
  unfold rightGoK
  rw[Bool.and_eq_true,e]
  constructor
  ·rintro ⟨h1,h2⟩
   have h3:=(lockOk_iff pre s h).1 h1
   exact(ih _ h3).1 h2
  ·intro h1
   have h3:Rk (pre++ [s]):=⟨fun x hx=>h1.one x (List.mem_append_left _ hx),(List.pairwise_append.1 h1.up).1,(List.pairwise_append.1 h1.tok).1⟩
   exact⟨(lockOk_iff pre s h).2 h3,(ih _ h3).2 h1⟩
theorem rightK_iff (l:List LockV):rightK l=true ↔ l.length<=4/\Rk l:=by
 unfold rightK
 rw[Bool.and_eq_true,decide_eq_true_eq,rightGoK_iff l [] Rk.nil,List.nil_append]
end Cm
end Go.Proofs.YtlnbmblbeaodcaaGreat

/- What package auto answers, as plain functions of states. No program is named here. -/
set_option linter.unusedVariables false
set_option maxRecDepth 8000
set_option linter.unusedSimpArgs false
namespace Go.Proofs.YtlnbmblbeaodcaaGreat
open Lib (hid)
open Go.RowKit
namespace Cm

structure StV where
 time:Int
 num:Int
 token:Int
 ses:List SesV
 locks:List LockV
 memos:List AnsV
def zeroSt:StV:=⟨0,0,0,[],[],[]⟩
def closeE (l:List SesV) (c:Int):List SesV:=if (closeS l c).2=0 then (closeS l c).1 else l
def closeAll (l:List SesV) (G:List Int):List SesV:=G.foldl closeE l
def dropA (s:StV) (G:List Int):StV:=⟨s.time,s.num,s.token+(dropK G s.locks s.token).2,closeAll s.ses G,(dropK G s.locks s.token).1,s.memos⟩
def timeA (s:StV) (t:Int):Int:=if s.time<t/\t<=2305843009213693952 then t else s.time
def leaseA (d:Int):Int:=if d<1 then 1 else d
def advA (s:StV) (t d:Int):StV:=dropA ⟨timeA s t,s.num,s.token,s.ses,s.locks,s.memos⟩ (dueS s.ses (timeA s t) (leaseA d))
def toldA (s:StV) (c code ahead:Int):ReplyV:=⟨code,(findS s.ses c).1.num,ahead,heldK s.locks c⟩
def onlyA (code:Int):ReplyV:=⟨code,0,0,[]⟩
def openedA (s:StV) (c:Int):StV:=⟨s.time,s.num+1,s.token,(openS s.ses c (s.num+1) s.time).1,s.locks,s.memos⟩
def openA (s:StV) (c:Int):StV × ReplyV:=
 if (findS s.ses c).2=true then (s,toldA s c 7 0) else
 if (openS s.ses c (s.num+1) s.time).2=0 then (openedA s c,toldA (openedA s c) c 0 0) else (s,onlyA (openS s.ses c (s.num+1) s.time).2)
def renewedA (s:StV) (c:Int):StV:=⟨s.time,s.num,s.token,(renewS s.ses c s.time).1,s.locks,s.memos⟩
def takenA (s:StV) (n:List UInt8) (c:Int) (wt:Bool):StV:=
 ⟨s.time,s.num,if (takeK s.locks n c s.token wt).2.2=0 then s.token+1 else s.token,s.ses,if (takeK s.locks n c s.token wt).2.2=0\/(takeK s.locks n c s.token wt).2.2=10 then (takeK s.locks n c s.token wt).1 else s.locks,s.memos⟩
def freedA (s:StV) (n:List UInt8) (c:Int):StV:=
 ⟨s.time,s.num,if (freeK s.locks n c s.token).2.2=0 then s.token+(freeK s.locks n c s.token).2.1 else s.token,s.ses,if (freeK s.locks n c s.token).2.2=0 then (freeK s.locks n c s.token).1 else s.locks,s.memos⟩
def cmdA (s:StV) (c:Int) (m:CmdV):StV × ReplyV:=
 if m.kind=3\/m.kind=4 then (takenA s m.name c (decide (m.kind=3)),toldA (takenA s m.name c (decide (m.kind=3))) c (takeK s.locks m.name c s.token (decide (m.kind=3))).2.2 (takeK s.locks m.name c s.token (decide (m.kind=3))).2.1) else
 if m.kind=5 then (freedA s m.name c,toldA (freedA s m.name c) c (freeK s.locks m.name c s.token).2.2 0) else
 if m.kind=6 then (dropA s [c],onlyA 0) else (s,toldA s c 0 0)
def doesA (s:StV) (r:ReqV):StV × ReplyV:=
 if r.cmd.kind=1 then openA s r.client else
 if (findS s.ses r.client).2=false\/(findS s.ses r.client).1.num ≠r.cmd.session then (s,onlyA 9) else cmdA (renewedA s r.client) r.client r.cmd
def keptA (t:StV) (a:AnsV):StV:=⟨t.time,t.num,t.token,t.ses,t.locks,keepM t.memos a⟩
def applyA (s:StV) (r:ReqV):StV × ReplyV × Bool:=
 if mayR r=false then (s,onlyA 1,false) else
 if freshM s.memos r.client r.seq<0 then (s,onlyA 0,false) else
 if freshM s.memos r.client r.seq=0 then (s,(lastM s.memos r.client).1.rep,false) else
 (keptA (doesA s r).1 ⟨r.client,r.seq,(doesA s r).2⟩,(doesA s r).2,true)
def hasA (s:StV) (c:Int):Bool:=(findS s.ses c).2
def fitA (s:StV) (k:LockV):Bool:=hasA s k.holder && (decide (k.token<=s.token) && k.line.all (hasA s))
def rightA (s:StV):Bool:=(highF s.time 0 && (highF s.num 0 && (highF s.token 0 && (rightS s.ses && (rightK s.locks && rightM s.memos))))) && (s.ses.all (fun x=>decide (x.num<=s.num)) && s.locks.all (fitA s))
end Cm
end Go.Proofs.YtlnbmblbeaodcaaGreat
