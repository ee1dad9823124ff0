/- Texts laid together by program. -/
import Derived.Test.YthpknaieimlmnaaGreatQ18
import Derived.Shelf.Abstract
import Derived.Lib.AppendZeros
/- Contracts: slices.IndexFunc, slices.ContainsFunc over locks, whatever the test. -/
set_option linter.unusedVariables false
set_option maxRecDepth 8000
set_option linter.unusedSimpArgs false
namespace Go.Proofs.YthpknaieimlmnaaGreat
open Lib (hid)
open Go.RowKit Go.Shelf
namespace Cm

set_option maxHeartbeats 2000000 in
theorem IdxK_any (p:LockC->Bool) (g:Nat) (lb:Array Value) (eg: ∀args w,(callFunc g args).run Tryz.prog w= .ok (.enter g args) w) (v:Value) (l:List LockC) (w:World) (h:RdX 4 cellsK w v l)
  (hp: ∀(W:World) (x:LockC),Below w.heap.size w W->Calls Tryz.prog g (#[lockVal x]++lb) W (SaysB (p x) W)):
  Calls Tryz.prog 185 #[v,.func (.func g) #[] lb] w (SaysI (idxI p l) w):=by
 have hm:=h.len
 obtain⟨a,cap,rfl⟩:=h.form
 have HA:=hid (fun i hi=>rdk_at h i hi)
 have HP:=hid hp
 have HH:=hid (idxI_hit p l)
 have HM:=hid (idxI_miss p l)
 clear h hp
 obtain⟨L,hL⟩: ∃L,l.length=L:=⟨_,rfl⟩
 have HLL:=hid hL
 rw[hL] at hm ⊢
 clear hL
 go_enter Tryz.func185,Tryz.ntmps185
 go_wp2
 go_loopg [5,8] L (fun gg _ s8 wr=> ∃kk:Nat,kk<=L/\L - kk<=gg/\s8= .int .i64 kk/\Hid (Below w.heap.size w wr)/\Hid (∀j (hj:j<kk) (hl:j<l.length),p l[j]=false))
 case atStart=>exact⟨0,Nat.zero_le _,by omega,rfl,hid (Below.refl _ w),hid (fun j hj=>absurd hj (Nat.not_lt_zero _))⟩
 case round=>
  obtain⟨kk,hkk,hg,rfl,HB,HJ⟩:=hrel
  by_cases hlt:kk<L
  ·have hkl:kk<l.length:=by rw[HLL.out];exact hlt
   obtain⟨b,o,rfl,hc⟩:=HA.out kk hkl
   obtain⟨q0,q1,q2,q3⟩:=hc _ HB.out
   have hcall:=HP.out wr l[kk] HB.out
   have HI:Hid (p l[kk]=true->idxI p l=kk):=hid (fun q=>HH.out kk hkl q (fun j hj=>HJ.out j hj (by omega)))
   have HN:Hid (p l[kk]=false-> ∀j (hj:j<kk+1) (hl:j<l.length),p l[j]=false):=hid (fun q j hj hl=>by
    by_cases e:j=kk
    ·subst e;exact q
    ·exact HJ.out j (by omega) hl)
   clear hc HH HM HA HP
   generalize l[kk]=x at q0 q1 q2 q3 hcall HI HN
   obtain⟨xn,xh,xt,xl,xa,xc⟩:=x
   unfold LockC.lv at q3
   unfold lockVal LockC.lv at hcall
   dsimp only at q0 q1 q2 q3 hcall
   cases hq:p ⟨xn,xh,xt,xl,xa,xc⟩ with
   | true=>
    rw[hq] at hcall
    have HC:=hid hcall
    have HI:=hid (HI.out hq)
    clear hcall hq HN
    go_wp2_with (go_at_fn g;refine HC.out.mono ?_;rintro e w' ⟨rfl,hb'⟩)
    go_ret
    exact⟨by rw[HI.out];rfl,step HB.out hb'⟩
   | false=>
    rw[hq] at hcall
    have HC:=hid hcall
    have HN:=hid (HN.out hq)
    clear hcall hq HI
    go_wp2_with (go_at_fn g;refine HC.out.mono ?_;rintro e w' ⟨rfl,hb'⟩)
    go_roundg (L - (kk+1))
    case measure=>omega
    case rel=>exact⟨kk+1,by omega,by omega,by go_num,hid (step HB.out hb'),HN⟩
  ·obtain rfl:kk=L:=by omega
   have hmiss:=HM.out (fun j hj=>HJ.out j (by rw[<-HLL.out];exact hj) hj)
   have HMM:=hid hmiss
   clear hmiss HM HH HP
   go_wp2
   go_ret
   exact⟨by rw[HMM.out];rfl,HB.out⟩
theorem HasK_any (p:LockC->Bool) (g:Nat) (lb:Array Value) (eg: ∀args w,(callFunc g args).run Tryz.prog w= .ok (.enter g args) w) (v:Value) (l:List LockC) (w:World) (h:RdX 4 cellsK w v l)
  (hp: ∀(W:World) (x:LockC),Below w.heap.size w W->Calls Tryz.prog g (#[lockVal x]++lb) W (SaysB (p x) W)):
  Calls Tryz.prog 140 #[v,.func (.func g) #[] lb] w (SaysB (l.any p) w):=by
 rw[<-idxI_any]
 have HC:=hid (IdxK_any p g lb eg v l w h hp)
 clear hp h
 generalize idxI p l=r at HC ⊢
 go_enter Tryz.func140,Tryz.ntmps140
 go_wp2_with (go_at_call 185;refine HC.out.mono ?_;rintro e w' ⟨rfl,hb'⟩)
 go_ret
 exact⟨by simp,hb'⟩
/-! ### The closures, and who calls them -/
theorem indexK1_any (x:LockC) (w:World) (b:Nat) (n:List UInt8) (hb:w.cell? ⟨b,0,none⟩=some (.string (bstr n))):
  Calls Tryz.prog 225 #[lockVal x,.pointer (some ⟨b,0,none⟩)] w (SaysB (isNmC n x) w):=by
 obtain⟨xn,xh,xt,xl,xa,xc⟩:=x
 unfold lockVal LockC.lv isNmC isNm LockC.val
 dsimp only
 have HB:=hid (newAlloc w (.cells #[.string (bstr xn),.int .i64 xh,.int .i64 xt,.slice xa xl.length xc] 69))
 obtain⟨y0,y1,y2,y3⟩:=box4 (Below.refl _ (w.alloc (.cells #[.string (bstr xn),.int .i64 xh,.int .i64 xt,.slice xa xl.length xc] 69)))
 have z1:=(HB.out.cell (lt_of_cell hb)).trans hb
 clear hb
 have hE:=str_eq xn n
 generalize decide (xn=n)=r at hE ⊢
 generalize xl.length=N at*
 go_enter Tryz.func225,Tryz.ntmps225
 go_wp2
 go_ret
 exact⟨by simp [hE],HB.out⟩
theorem tokenK1_any (x:LockC) (w:World) (b:Nat) (t:Int) (hb:w.cell? ⟨b,0,none⟩=some (.int .i64 t)):
  Calls Tryz.prog 183 #[lockVal x,.pointer (some ⟨b,0,none⟩)] w (SaysB (decide (x.token=t)) w):=by
 obtain⟨xn,xh,xt,xl,xa,xc⟩:=x
 unfold lockVal LockC.lv
 dsimp only
 have HB:=hid (newAlloc w (.cells #[.string (bstr xn),.int .i64 xh,.int .i64 xt,.slice xa xl.length xc] 69))
 obtain⟨y0,y1,y2,y3⟩:=box4 (Below.refl _ (w.alloc (.cells #[.string (bstr xn),.int .i64 xh,.int .i64 xt,.slice xa xl.length xc] 69)))
 have z1:=(HB.out.cell (lt_of_cell hb)).trans hb
 clear hb
 generalize xl.length=N at*
 go_enter Tryz.func183,Tryz.ntmps183
 go_wp2
 go_ret
 exact⟨by simp<;>rfl,HB.out⟩
theorem str_gtr (a b:List UInt8):(!Op.bytesLess (bstr a).toList (bstr b).toList && !(bstr a).toList ==(bstr b).toList)=Op.bytesLess b a:=by
 rw[str_less,str_eq]
 rcases less_tri a b with ⟨q1,q2,q3⟩ | ⟨q1,q2,q3⟩ | ⟨q1,q2⟩
 ·simp [q1,q2,q3]
 ·simp [q1,q2,q3]
 ·subst q1;simp [q2]
theorem placeK1_any (x:LockC) (w:World) (b:Nat) (n:List UInt8) (hb:w.cell? ⟨b,0,none⟩=some (.string (bstr n))):
  Calls Tryz.prog 242 #[lockVal x,.pointer (some ⟨b,0,none⟩)] w (SaysB (Op.bytesLess n x.name) w):=by
 obtain⟨xn,xh,xt,xl,xa,xc⟩:=x
 unfold lockVal LockC.lv
 dsimp only
 have HB:=hid (newAlloc w (.cells #[.string (bstr xn),.int .i64 xh,.int .i64 xt,.slice xa xl.length xc] 69))
 obtain⟨y0,y1,y2,y3⟩:=box4 (Below.refl _ (w.alloc (.cells #[.string (bstr xn),.int .i64 xh,.int .i64 xt,.slice xa xl.length xc] 69)))
 have z1:=(HB.out.cell (lt_of_cell hb)).trans hb
 clear hb
 have hE:=str_gtr xn n
 generalize Op.bytesLess n xn=r at hE ⊢
 generalize xl.length=N at*
 go_enter Tryz.func242,Tryz.ntmps242
 go_wp2
 go_ret
 exact⟨by simp [hE],HB.out⟩
theorem enters_indexK: ∀args w,(callFunc 225 args).run Tryz.prog w= .ok (.enter 225 args) w:=enters_of Tryz.func225 (by kernel_rfl) rfl
theorem enters_tokenK: ∀args w,(callFunc 183 args).run Tryz.prog w= .ok (.enter 183 args) w:=enters_of Tryz.func183 (by kernel_rfl) rfl
theorem enters_placeK: ∀args w,(callFunc 242 args).run Tryz.prog w= .ok (.enter 242 args) w:=enters_of Tryz.func242 (by kernel_rfl) rfl
theorem indexOfK_any (v:Value) (l:List LockC) (n:List UInt8) (w:World) (h:RdX 4 cellsK w v l):Calls Tryz.prog 206 #[v,.string (bstr n)] w (SaysI (idxI (isNm n) (vals l)) w):=by
 rw[idx_vals]
 have hmf: ∀(fn:Fn) (first cap:Array Value) (w:World),(Instr.makeFunc fn first cap).run Tryz.prog w= .ok (.func fn first cap) w:=fun _ _ _ _=>rfl
 have HI:=hid (IdxK_any (isNmC n) 225 #[.pointer (some ⟨w.heap.size,0,none⟩)] enters_indexK v l (w.alloc (.cells #[.string (bstr n)] 9)) (h.later (newAlloc _ _))
  (fun W x hb=>indexK1_any x W w.heap.size n (box1k_at w _ _ W hb)))
 have HB:=hid (newAlloc w (.cells #[.string (bstr n)] 9))
 obtain⟨a,cap,rfl⟩:=h.form
 clear h
 generalize idxI (isNmC n) l=r at HI ⊢
 generalize l.length=L at*
 go_enter Tryz.func206,Tryz.ntmps206
 go_wp2_with (go_at_call 185;refine HI.out.mono ?_;rintro e w' ⟨rfl,hb'⟩)
 go_ret
 exact⟨rfl,step HB.out hb'⟩
theorem hasTokenK_any (v:Value) (l:List LockC) (t:Int) (w:World) (h:RdX 4 cellsK w v l):Calls Tryz.prog 136 #[v,.int .i64 t] w (SaysB (l.any fun x=>decide (x.token=t)) w):=by
 have hmf: ∀(fn:Fn) (first cap:Array Value) (w:World),(Instr.makeFunc fn first cap).run Tryz.prog w= .ok (.func fn first cap) w:=fun _ _ _ _=>rfl
 have HI:=hid (HasK_any (fun x=>decide (x.token=t)) 183 #[.pointer (some ⟨w.heap.size,0,none⟩)] enters_tokenK v l (w.alloc (.cells #[.int .i64 t] 3)) (h.later (newAlloc _ _))
  (fun W x hb=>tokenK1_any x W w.heap.size t (box1k_at w _ _ W hb)))
 have HB:=hid (newAlloc w (.cells #[.int .i64 t] 3))
 obtain⟨a,cap,rfl⟩:=h.form
 clear h
 generalize l.any (fun x:LockC=>decide (x.token=t))=r at HI ⊢
 generalize l.length=L at*
 go_enter Tryz.func136,Tryz.ntmps136
 go_wp2_with (go_at_call 140;refine HI.out.mono ?_;rintro e w' ⟨rfl,hb'⟩)
 go_ret
 exact⟨rfl,step HB.out hb'⟩
theorem place_find (n:List UInt8): ∀l:List LockV,(∀k∈l,k.name≠n)->l.findIdx (fun k=>Op.bytesLess n k.name)=placeK n l
 | [],_=>rfl
 | k::l,h=>by
  have ih:=place_find n l fun x hx=>h x (List.mem_cons_of_mem _ hx)
  have hk:=h k List.mem_cons_self
  rw[List.findIdx_cons,placeK,ih]
  rcases less_tri k.name n with ⟨q1,q2,_⟩ | ⟨q1,q2,_⟩ | ⟨q1,_⟩
  ·rw[q1,q2];rfl
  ·rw[q1,q2];rfl
  ·exact absurd q1 hk
theorem placeOfK_any (v:Value) (l:List LockC) (n:List UInt8) (w:World) (h:RdX 4 cellsK w v l) (hi:idxI (isNm n) (vals l)= -1):Calls Tryz.prog 228 #[v,.string (bstr n)] w (SaysI (placeK n (vals l):Int) w):=by
 have hmf: ∀(fn:Fn) (first cap:Array Value) (w:World),(Instr.makeFunc fn first cap).run Tryz.prog w= .ok (.func fn first cap) w:=fun _ _ _ _=>rfl
 have HI:=hid (IdxK_any (fun x=>Op.bytesLess n x.name) 242 #[.pointer (some ⟨w.heap.size,0,none⟩)] enters_placeK v l (w.alloc (.cells #[.string (bstr n)] 9)) (h.later (newAlloc _ _))
  (fun W x hb=>placeK1_any x W w.heap.size n (box1k_at w _ _ W hb)))
 have HB:=hid (newAlloc w (.cells #[.string (bstr n)] 9))
 have hpl:l.findIdx (fun x:LockC=>Op.bytesLess n x.name)=placeK n (vals l):=by
  rw[<-place_find n (vals l) (fun k hk=>by simpa [isNm] using idx_noneK _ _ hi k hk)]
  unfold vals
  rw[List.findIdx_map]
  rfl
 have hm:=h.len
 have hle:placeK n (vals l)<=l.length:=by have:=placeK_le n (vals l);rw[vals_length] at this;exact this
 obtain⟨a,cap,rfl⟩:=h.form
 clear h hi
 by_cases hq:placeK n (vals l)<l.length
 ·have e:idxI (fun x:LockC=>Op.bytesLess n x.name) l=(placeK n (vals l):Int):=by unfold idxI;rw[hpl];exact if_pos hq
  rw[e] at HI
  clear e hq hpl
  generalize placeK n (vals l)=r at HI hle ⊢
  generalize l.length=L at*
  go_enter Tryz.func228,Tryz.ntmps228
  go_wp2_with (go_at_call 185;refine HI.out.mono ?_;rintro e w' ⟨rfl,hb'⟩)
  go_ret
  exact⟨rfl,step HB.out hb'⟩
 ·have e:idxI (fun x:LockC=>Op.bytesLess n x.name) l= -1:=by unfold idxI;rw[hpl];exact if_neg hq
  have e2:placeK n (vals l)=l.length:=by omega
  rw[e] at HI
  rw[e2]
  clear e hq e2 hle hpl
  generalize l.length=L at*
  go_enter Tryz.func228,Tryz.ntmps228
  go_wp2_with (go_at_call 185;refine HI.out.mono ?_;rintro e w' ⟨rfl,hb'⟩)
  go_ret
  exact⟨rfl,step HB.out hb'⟩
end Cm
end Go.Proofs.YthpknaieimlmnaaGreat

/- Contracts: slices.Grow, slices.Concat over locks (made from XCatS by program). -/
set_option linter.unusedVariables false
set_option maxRecDepth 8000
set_option linter.unusedSimpArgs false
namespace Go.Proofs.YthpknaieimlmnaaGreat
open Lib (hid)
open Go.RowKit
namespace Cm

theorem ownsK_new (w:World) (cs:Array Value) (cap:Nat) (hc:cs.size=cap*4) (hm:cap<=maxLen):
  (w.alloc (.cells cs 69)).drew.ownsRow w.heap.size 69 4 (.slice (some ⟨w.heap.size,0,none⟩) 0 cap) 0 []:=by
 refine⟨rfl,.inr ⟨w.heap.size,cap,cs,rfl,Nat.le_refl _,?_,Nat.zero_le _,hm,by omega,by simp⟩⟩
 show(w.heap.push (.cells cs 69))[w.heap.size]?= _
 simp
def MadeQ (l:List LockC) (w:World) (e:Ending) (w':World):Prop:=
 ∃v,e= .returned v/\w'.ownsRow w.heap.size 69 4 v l.length (flatX cellsK l)/\Below w.heap.size w w'
theorem GrowK_none (w:World):
  Calls Tryz.prog 243 #[.slice none 0 0,.int .i64 0] w (MadeQ [] w):=by
 go_enter Tryz.func243,Tryz.ntmps243
 go_wp2
 go_ret
 exact⟨_,rfl,World.ownsRow_nil _ _ _ _,Below.refl _ _⟩
theorem GrowK_some (n:Nat) (w:World) (h0:0<n) (h:n<=1000000):
  Calls Tryz.prog 243 #[.slice none 0 0,.int .i64 (n:Int)] w (MadeQ [] w):=by
 obtain⟨i0,hi,hz0,hz1,hz2⟩:=info_parts infoK
 have hr:=fun ty=>Lib.run_append_nil_zeros (P:=Tryz.prog) w 25 3 ty 69 i0 (.agg #[.string ⟨#[]⟩,.int .i64 0,.int .i64 0,.slice none 0 0]) .i64 .i64 Tryz.underlying25 Tryz.underlying3 hi hz0 n h0 (by rw[hz1];omega) (by omega) (by rw[hz2];omega)
 have hge:=grownCap_ge w n 0 69
 have hle:=grownCap_le_maxLen w n 0 69 (by unfold maxLen;omega)
 generalize grownCap w n 0 69=cap at hr hge hle
 have hmx:=hle
 unfold maxLen at hmx
 have HR:=hid hr
 clear hr
 go_enter Tryz.func243,Tryz.ntmps243
 go_wp2_with (at_builtin;refine Lib.wpList_append_run _ rfl _ _ _ _ rfl _ _ rfl rfl _ _ (HR.out _) ?_)
 go_ret
 exact⟨_,rfl,ownsK_new w _ cap (by simp [Builtin.zeroCells,Value.cells];omega) hle,((Below.refl _ _).alloc (Nat.le_refl _) _).drew⟩
theorem GrowK_any (n:Nat) (w:World) (h:n<=1000000):
  Calls Tryz.prog 243 #[.slice none 0 0,.int .i64 (n:Int)] w (MadeQ [] w):=by
 rcases Nat.eq_zero_or_pos n with rfl | h0
 ·exact GrowK_none w
 ·exact GrowK_some n w h0 h
def flatR (l:List (Value × List LockC)):List LockC:=l.flatMap (·.2)
theorem flatR_take_succ (l:List (Value × List LockC)) (j:Nat) (h:j<l.length):flatR (l.take (j+1))=flatR (l.take j)++(l[j]).2:=by
 unfold flatR
 rw[List.take_succ_eq_append_getElem h,List.flatMap_append]
 simp
theorem flatR_take_le (l:List (Value × List LockC)) (j:Nat):(flatR (l.take j)).length <=(flatR l).length :=by
 conv=>rhs;rw[<-List.take_append_drop j l]
 unfold flatR
 rw[List.flatMap_append,List.length_append]
 omega
set_option maxHeartbeats 1000000 in
theorem ConcatK_any (b:Nat) (l:List (Value × List LockC)) (w:World) (hc: ∀j (h:j<l.length),w.cell? ⟨b,j,none⟩=some (l[j]).1/\RdX 4 cellsK w (l[j]).1 (l[j]).2) (hk:l.length<=1000) (h1:(flatR l).length <=1000000):
  Calls Tryz.prog 231 #[.slice (some ⟨b,0,none⟩) l.length l.length] w (MadeQ (flatR l) w):=by
 obtain⟨i0,hi,hz0,hz1,hz2⟩:=info_parts infoK
 have HC:=hid hc
 have HS:=hid (flatR_take_succ l)
 have HL:=hid (flatR_take_le l)
 clear hc
 go_enter Tryz.func231,Tryz.ntmps231
 go_wp2
 go_loop [3,11] (fun z i=> ∃j:Nat,j<=l.length/\i= .int .i64 j/\z= .int .i64 ((flatR (l.take j)).length :Int)) (fun _ i=>l.length - (intOf i).toNat)
 case atStart=>exact⟨0,by omega,rfl,rfl⟩
 case round=>
  obtain⟨j,hj,rfl,rfl⟩:=hrel
  by_cases hlt:j<l.length
  ·obtain⟨hcell,hrd⟩:=HC.out j hlt
   have hsz:(flatR (l.take (j+1))).length =(flatR (l.take j)).length +(l[j]).2.length :=by rw[HS.out j hlt,List.length_append]
   have hle:=HL.out (j+1)
   generalize l[j]=x at hcell hrd hsz
   obtain⟨v,bs⟩:=x
   dsimp only at hcell hsz hrd
   have hm:=hrd.len
   obtain⟨a,cap,rfl⟩:=hrd.form
   clear hrd
   generalize (flatR (l.take j)).length =A at hsz ⊢
   generalize hB:(flatR (l.take (j+1))).length =B at hsz hle ⊢
   generalize bs.length=Z at hsz hm hcell
   have HB:=hid hB
   clear hB
   go_wp2
   go_round
   case rel=>exact⟨j+1,by omega,by go_num,by rw[HB.out,hsz];go_num⟩
   case measure=>simp [intOf];omega
  ·obtain rfl:j=l.length:=by omega
   rw[List.take_length]
   have G:=hid (fun w=>GrowK_any (flatR l).length w h1)
   go_wp2_with (go_at_call 243;refine(G.out _).mono ?_;rintro e w1 ⟨v1,rfl,hown,hb⟩)
   go_loopw [6,27] (fun v i wr=> ∃j:Nat,j<=l.length/\i= .int .i64 j/\wr.ownsRow w.heap.size 69 4 v (flatR (l.take j)).length (flatX cellsK (flatR (l.take j)))/\Below w.heap.size w wr) (fun _ i _=>l.length - (intOf i).toNat)
   case atStart=>exact⟨0,by omega,rfl,hown,hb⟩
   case round=>
    obtain⟨j,hj,rfl,ho,hbw⟩:=hrel
    by_cases hlt:j<l.length
    ·obtain⟨hcell0,hrd0⟩:=HC.out j hlt
     have hcell:=hbw.cell (p:=⟨b,j,none⟩) (lt_of_cell hcell0)
     rw[hcell0] at hcell
     have hrd:=hrd0.later hbw
     have hsz:flatR (l.take (j+1))=flatR (l.take j)++(l[j]).2:=HS.out j hlt
     have hle:=HL.out (j+1)
     have hbs:=hbw.size
     rw[hsz] at hle
     generalize l[j]=x at hcell hrd hsz hle
     clear hcell0 hrd0
     obtain⟨v,bs⟩:=x
     dsimp only at hcell hrd hsz hle
     rw[List.length_append] at hle
     have HZ:=hid hsz
     clear hsz
     generalize flatR (l.take j)=A at ho hle HZ
     have HO:=hid ho
     have HR:=hid hrd
     have HB:=hid hbw
     clear ho hrd hbw
     go_wp2_with (at_builtin;refine wpList_append_rdx cellsK_length (by omega) cellsK_one rfl _ _ 25 rfl w.heap.size 69 i0 _ 56 Tryz.underlying25 hi hz0 hz1 hz2 rfl _ _ _ rfl HO.out _ bs rfl HR.out (by unfold maxLen;omega) (by omega) hbs ?_;intro v1 w2 hown2 hgrow2)
     go_roundw
     case rel=>exact⟨j+1,by omega,by go_num,by rw[HZ.out,List.length_append,flatX_append];exact hown2,HB.out.grown hgrow2 hbs (fun k hk=>(Rw.own_lt HO.out k hk).1)⟩
     case measure=>simp [intOf];omega
    ·obtain rfl:j=l.length:=by omega
     rw[List.take_length] at ho
     go_wp2
     go_ret
     exact⟨_,rfl,ho,hbw⟩
theorem ConcatK_three (w:World) (b:Nat) (u v x:Value) (us vs xs:List LockC) (hu:RdX 4 cellsK w u us) (hv:RdX 4 cellsK w v vs) (hx:RdX 4 cellsK w x xs) (h0:w.cell? ⟨b,0,none⟩=some u) (h1:w.cell? ⟨b,1,none⟩=some v) (h2:w.cell? ⟨b,2,none⟩=some x)
  (hl:us.length+vs.length+xs.length<=1000000):
  Calls Tryz.prog 231 #[.slice (some ⟨b,0,none⟩) 3 3] w (MadeQ (us++(vs++xs)) w):=by
 have e:flatR [(u,us),(v,vs),(x,xs)]=us++(vs++xs):=by simp [flatR]
 have:=ConcatK_any b [(u,us),(v,vs),(x,xs)] w (fun j h=>by
  match j,h with
  | 0,_=>exact⟨h0,hu⟩
  | 1,_=>exact⟨h1,hv⟩
  | 2,_=>exact⟨h2,hx⟩) (by simp) (by rw[e];simp;omega)
 rw[e] at this
 exact this
theorem CloneK_any (v:Value) (l:List LockC) (w:World) (h:RdX 4 cellsK w v l) (h5:l.length<=1000000):
  Calls Tryz.prog 102 #[v] w (MadeQ l w):=by
 obtain⟨i0,hi,hz0,hz1,hz2⟩:=info_parts infoK
 have heq: ∀w a n c,(binOp .eql 25 (.slice a n c) (.slice none 0 0)).run Tryz.prog w= .ok (.bool a.isNone) w:=fun w a n c=>Lib.run_eql_slice_nil w 25 69 a n c 0 0 Tryz.underlying25
 have HR:=hid h
 obtain⟨a,cap,rfl⟩:=h.form
 cases a with
 | none=>
  have hl:l= []:=by
   obtain⟨a',cap',hv,_,_,h3,_⟩:=h.ex
   cases hv
   exact(h3 rfl).1
  subst hl
  clear h
  go_enter Tryz.func102,Tryz.ntmps102
  go_wp2
  go_ret
  exact⟨_,rfl,World.ownsRow_nil _ _ _ _,Below.refl _ _⟩
 | some ad=>
  clear h
  have HR2:=hid (fun o=>HR.out.later (newAlloc w o))
  clear HR
  go_enter Tryz.func102,Tryz.ntmps102
  go_wp2_with (at_builtin;refine wpList_append_rdx cellsK_length (by omega) cellsK_one rfl _ _ 25 rfl w.heap.size 69 i0 _ 56 Tryz.underlying25 hi hz0 hz1 hz2 rfl _ 0 [] rfl (own_new w _ 4 _ _ rfl (Nat.le_refl _)) _ l rfl (HR2.out _) (by unfold maxLen;omega) (by omega) (newAlloc w (.cells #[] 69)).size ?_;intro v1 w2 hown2 hgrow2)
  go_ret
  refine⟨_,rfl,by simpa using hown2,(newAlloc w (.cells #[] 69)).grown hgrow2 (newAlloc w (.cells #[] 69)).size (fun k hk=>?_)⟩
  cases hk
  exact Nat.le_refl _
end Cm
end Go.Proofs.YthpknaieimlmnaaGreat
