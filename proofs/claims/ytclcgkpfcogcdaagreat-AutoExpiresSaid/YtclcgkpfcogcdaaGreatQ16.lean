/- Texts laid together by program. -/
import Derived.Test.YtclcgkpfcogcdaaGreatQ15
import Derived.Lib.QuietBelow
import Derived.Deep.RegionHeld3
import Derived.BigQuiet
import Derived.ProofKit
import Derived.OpenShut
import Derived.Deep.Strs
import Derived.Deep.Slices
import Derived.Deep.DrawnRows
import Derived.Lib.SmallJoins
import Derived.Shelf.Abstract
/- Contracts of the statements' own helpers of layer 4: awake, Named, Cmd, Req. -/
set_option linter.unusedVariables false
set_option maxRecDepth 8000
set_option linter.unusedSimpArgs false
namespace Go.Proofs.YtclcgkpfcogcdaaGreat
open Lib (hid)
open Go.RowKit
namespace Cm


def namedF:Nat->List UInt8
 | 0=> [97]
 | 1=> [98]
 | 2=> [99]
 | 3=> [100]
 | 4=> [107,101,121,45,49]
 | _=> [116,104,101,45,108,97,115,116,45,111,110,101]
theorem Named_any (n:Nat) (w:World) (h:n<256):Calls Tryz.prog 194 #[.int .u8 (n:Int)] w fun e w'=>e= .returned (.string (bstr (namedF (n % 6))))/\Below w.heap.size w w':=by
 have hm:n % 6<6:=Nat.mod_lt _ (by omega)
 have hc:((n:Int) % 6)=((n % 6:Nat):Int):=by simp
 generalize n % 6=r at hm hc ⊢
 match r,hm with
 | 0,_ | 1,_ | 2,_ | 3,_ | 4,_ | 5,_=>
  simp at hc
  go_enter Tryz.func194,Tryz.ntmps194
  go_wp2
  go_ret
  exact⟨rfl,newAlloc _ _⟩
theorem boxAB {w w':World} {A B:Array Value} {t u:TypeId} (h:Below ((w.alloc (.cells A t)).alloc (.cells B u)).heap.size ((w.alloc (.cells A t)).alloc (.cells B u)) w'):
  (∀k,w'.cell? ⟨w.heap.size,k,none⟩=A[k]?)/\(∀k,w'.cell? ⟨w.heap.size+1,k,none⟩=B[k]?)/\(∀k,w'.frozen? ⟨w.heap.size,k,none⟩=false)/\(∀k,w'.frozen? ⟨w.heap.size+1,k,none⟩=false):=by
 have h0:w.heap.size<((w.alloc (.cells A t)).alloc (.cells B u)).heap.size :=by simp;omega
 have h1:w.heap.size+1<((w.alloc (.cells A t)).alloc (.cells B u)).heap.size :=by simp
 refine⟨fun k=>?_,fun k=>?_,fun k=>?_,fun k=>?_⟩
 ·rw[h.cell (p:=⟨w.heap.size,k,none⟩) h0];simp [go_sem]
 ·rw[h.cell (p:=⟨w.heap.size+1,k,none⟩) h1];simp [go_sem]
 ·rw[h.frozen (p:=⟨w.heap.size,k,none⟩) h0];simp [go_sem]
 ·rw[h.frozen (p:=⟨w.heap.size+1,k,none⟩) h1];simp [go_sem]
def cmdOf (k s n:Nat):CmdV:=⟨1+((k % 6:Nat):Int),if k % 6=0 then 0 else 1+((s:Int) % 7),if k % 6=2\/k % 6=3\/k % 6=4 then namedF (n % 6) else []⟩
set_option maxHeartbeats 4000000 in
theorem Cmd_any (k s n:Nat) (w:World) (hk:k<256) (hs:s<256) (hn:n<256):Calls Tryz.prog 151 #[.int .u8 (k:Int),.int .u8 (s:Int),.int .u8 (n:Int)] w fun e w'=>e= .returned (cmdVal (cmdOf k s n))/\Below w.heap.size w w':=by
 have hm:k % 6<6:=Nat.mod_lt _ (by omega)
 have hc:((k:Int) % 6)=((k % 6:Nat):Int):=by simp
 have CN:=hid (fun w=>Named_any n w hn)
 unfold cmdOf cmdVal
 generalize k % 6=r at hm hc ⊢
 generalize namedF (n % 6)=nm at CN ⊢
 match r,hm with
 | 0,_ | 1,_ | 2,_ | 3,_ | 4,_ | 5,_=>
  simp at hc
  dsimp only
  go_enter Tryz.func151,Tryz.ntmps151
  go_wp2_with (go_at_call 194;refine(CN.out _).mono ?_;rintro e w1 ⟨rfl,hb1⟩;obtain⟨c0,c1,f0,f1⟩:=boxAB hb1)
  first
   | (refine bodyPost_ret (by simp [results,Tryz.results151,go_sem];rfl) rfl ⟨by simp [bstr],stepAlloc (newAlloc _ _) _⟩)
   | (refine bodyPost_ret (by simp [results,Tryz.results151,go_sem,c0,c1,f0,f1];rfl) rfl ⟨by simp,set3 ((step (stepAlloc (newAlloc _ _) _) hb1).setCell (by simp) _) _ _ _⟩)
def reqOf (c q k s n:Nat):ReqV:=⟨((c % 8:Nat):Int),1+(q:Int),cmdOf k s n⟩
theorem Req_any (c q k s n:Nat) (w:World) (hc:c<256) (hq:q<256) (hk:k<256) (hs:s<256) (hn:n<256):Calls Tryz.prog 91 #[.int .u8 (c:Int),.int .u8 (q:Int),.int .u8 (k:Int),.int .u8 (s:Int),.int .u8 (n:Int)] w fun e w'=>e= .returned (reqVal (reqOf c q k s n))/\Below w.heap.size w w':=by
 have CN:=hid (fun w=>Cmd_any k s n w hk hs hn)
 have hc8:((c:Int) % 8)=((c % 8:Nat):Int):=by simp
 unfold reqVal reqOf
 unfold cmdVal at CN
 generalize cmdOf k s n=x at CN ⊢
 obtain⟨ck,cs,cn⟩:=x
 dsimp only at CN ⊢
 generalize c % 8=r at hc8 ⊢
 go_enter Tryz.func91,Tryz.ntmps91
 go_wp2_with (go_at_call 151;refine(CN.out _).mono ?_;rintro e w1 ⟨rfl,hb1⟩;obtain⟨c0,c1,c2,c3,c4⟩:=box5 hb1;have f0:=free5 hb1)
 refine bodyPost_ret (by simp [results,Tryz.results91,go_sem,c0,c1,c2,c3,c4,f0]) rfl ⟨rfl,set5 (step (newAlloc _ _) hb1) _ _ _ _ _⟩
end Cm
end Go.Proofs.YtclcgkpfcogcdaaGreat

/- Arguments that are slices of sessions, of acts, opened. -/
set_option linter.unusedVariables false
set_option maxRecDepth 8000
set_option linter.unusedSimpArgs false
namespace Go.Proofs.YtclcgkpfcogcdaaGreat
open Lib (hid)
open Go.RowKit Go.ChangeShapes Go.WideShapes Go.Deep
namespace Cm

theorem list_ofX {α:Type} {P:Nat->α->Prop} : ∀n,(∀i,i<n-> ∃g,P i g)-> ∃l:List α,l.length=n/\ ∀i (h:i<l.length),P i l[i]
 | 0,_=>⟨[],rfl,fun i h=>absurd h (Nat.not_lt_zero _)⟩
 | n+1,h=>by
  obtain⟨l,hl,hp⟩:=list_ofX n (fun i hi=>h i (by omega))
  obtain⟨g,hg⟩:=h n (by omega)
  refine⟨l++ [g],by simp [hl],fun i hi=>?_⟩
  rw[List.length_append,List.length_singleton,hl] at hi
  by_cases q:i<n
  ·rw[List.getElem_append_left (by omega)]
   exact hp i (by omega)
  ·obtain rfl:i=n:=by omega
   rw[List.getElem_append_right (by omega)]
   simpa [hl] using hg
section
variable {H : Type} {enc : TypeId × Value → H} {W : World}

theorem slice_of {α:Type} {sz:Nat} {f:α->List Value} {t e:TypeId} (hu:Tryz.prog.underlying t=some (.slice e)) (hce:Tryz.prog.cellsOf e=sz) (hsz:0<sz) (hf: ∀x,(f x).length =sz)
  (hel: ∀fuel cs x,DataW.trod enc Tryz.prog W 0 (fun _=>true) true fuel e cs=some x-> ∃y:α,cs=f y)
  {fuel:Nat} {cs:List Value} {x:DataW H × List MemPlace} (h:DataW.trod enc Tryz.prog W 0 (fun _=>true) true fuel t cs=some x): ∃v l,cs= [v]/\RdX sz f W v l:=by
 rcases open_slice hu h with ⟨h0,_⟩ | ⟨ad,len,cap,m,n,D,Pl,h0,_,hl,hm,hmm,_,hi⟩
 ·exact⟨_,[],h0,RdX.nil W⟩
 ·have hm':m=cap:=by rw[hmm];rfl
  subst hm'
  clear hmm
  have key: ∀i,i<len-> ∃g:α,∀k u,(f g)[k]?=some u->W.cell? (ad.add (i*sz+k))=some u:=by
   intro i hil
   obtain⟨cs',hc,ht⟩:=hi i (by omega)
   rw[hce] at hc
   obtain⟨y,rfl⟩:=hel _ _ _ ht
   obtain⟨_,hcl,hat⟩:=World.cells?_some hc
   refine⟨y,fun k u hk=>?_⟩
   have hks:k<(f y).length :=(List.getElem?_eq_some_iff.1 hk).1
   have a0:=hat k (by rw[hf] at hks;exact hks)
   rw[Go.Deep.add_add] at a0
   rw[<-hk,<-a0]
  obtain⟨l,hll,hp⟩:=list_ofX len key
  refine⟨_,l,h0,some ad,m,by rw[hll],by omega,hm,(fun q=>by cases q),fun x hx hne=>?_⟩
  cases hx
  obtain⟨b,o,spot⟩:=ad
  have hpos:0<l.length:=List.length_pos_iff.2 hne
  have h0l:0<(f l[0]).length :=by rw[hf];exact hsz
  have hc:=hp 0 hpos 0 _ (List.getElem?_eq_getElem h0l)
  have hspot:spot=none:=by simpa [Addr.add] using World.cell?_spot hc
  subst hspot
  refine⟨rfl,fun i hil k u hu=>?_⟩
  have hadd: ∀j,(⟨b,o,none⟩:Addr).add j=⟨b,o+j,none⟩:=fun j=>by unfold Addr.add;split<;>simp_all
  have:=hp i hil k u hu
  rw[hadd] at this
  exact this
end
end Cm
end Go.Proofs.YtclcgkpfcogcdaaGreat

/- Arguments that are slices of numbers, of a line's acts, opened. A slice laid as it stands. -/
set_option linter.unusedVariables false
set_option maxRecDepth 8000
set_option linter.unusedSimpArgs false
namespace Go.Proofs.YtclcgkpfcogcdaaGreat
open Lib (hid)
open Go.RowKit Go.ChangeShapes Go.WideShapes Go.Deep
namespace Cm

theorem RdX.block {α:Type} {sz:Nat} {f:α->List Value} (hf: ∀x,(f x).length =sz) {w:World} {b:Nat} {cs:Array Value} {t:TypeId} {l:List α} (h:w.heap[b]?=some (.cells cs t)) (hcs:cs.toList=flatX f l) (hm:l.length<=maxLen):RdX sz f w (.slice (some ⟨b,0,none⟩) l.length l.length) l:=by
 refine⟨some ⟨b,0,none⟩,l.length,rfl,Nat.le_refl _,hm,(fun q=>by cases q),fun x hx hp=>?_⟩
 cases hx
 refine⟨rfl,fun i hi k u hu=>?_⟩
 have hk:k<sz:=by
  have:=(List.getElem?_eq_some_iff.1 hu).1
  rw[hf] at this
  exact this
 rw[<-flatX_get hf l i hi k hk,<-hcs] at hu
 simp only[Nat.zero_add]
 simpa [World.cell?,h] using hu
section
variable {H : Type} {enc : TypeId × Value → H} {W : World}

end
end Cm
end Go.Proofs.YtclcgkpfcogcdaaGreat

/- Arguments that are slices of locks, of acts on locks, opened. -/
set_option linter.unusedVariables false
set_option maxRecDepth 8000
set_option linter.unusedSimpArgs false
namespace Go.Proofs.YtclcgkpfcogcdaaGreat
open Lib (hid)
open Go.RowKit Go.ChangeShapes Go.WideShapes Go.Deep
namespace Cm

theorem RdX.map {α β:Type} {sz:Nat} {f:β->List Value} (g:α->β) {w:World} {v:Value} {l:List α} (h:RdX sz (fun x=>f (g x)) w v l):RdX sz f w v (l.map g):=by
 obtain⟨a,cap,hv,h1,h2,h3,h4⟩:=h.ex
 refine⟨a,cap,by rw[List.length_map];exact hv,by rw[List.length_map];exact h1,h2,fun q=>by obtain⟨q1,q2⟩:=h3 q;subst q1;exact⟨rfl,q2⟩,fun x hx hp=>?_⟩
 obtain⟨hs,hc⟩:=h4 x hx (fun q=>hp (by rw[q];rfl))
 refine⟨hs,fun i hi k u hu=>?_⟩
 rw[List.length_map] at hi
 rw[List.getElem_map] at hu
 exact hc i hi k u hu
section
variable {H : Type} {enc : TypeId × Value → H} {W : World}

end
end Cm
end Go.Proofs.YtclcgkpfcogcdaaGreat

/- Contracts: slices.IndexFunc, slices.ContainsFunc over locks, whatever the test. -/
set_option linter.unusedVariables false
set_option maxRecDepth 8000
set_option linter.unusedSimpArgs false
namespace Go.Proofs.YtclcgkpfcogcdaaGreat
open Lib (hid)
open Go.RowKit Go.Shelf
namespace Cm

set_option maxHeartbeats 2000000 in
theorem IdxK_any (p:LockC->Bool) (g:Nat) (lb:Array Value) (eg: ∀args w,(callFunc g args).run Tryz.prog w= .ok (.enter g args) w) (v:Value) (l:List LockC) (w:World) (h:RdX 4 cellsK w v l)
  (hp: ∀(W:World) (x:LockC),Below w.heap.size w W->Calls Tryz.prog g (#[lockVal x]++lb) W (SaysB (p x) W)):
  Calls Tryz.prog 159 #[v,.func (.func g) #[] lb] w (SaysI (idxI p l) w):=by
 have hm:=h.len
 obtain⟨a,cap,rfl⟩:=h.form
 have HA:=hid (fun i hi=>rdk_at h i hi)
 have HP:=hid hp
 have HH:=hid (idxI_hit p l)
 have HM:=hid (idxI_miss p l)
 clear h hp
 obtain⟨L,hL⟩: ∃L,l.length=L:=⟨_,rfl⟩
 have HLL:=hid hL
 rw[hL] at hm ⊢
 clear hL
 go_enter Tryz.func159,Tryz.ntmps159
 go_wp2
 go_loopg [5,8] L (fun gg _ s8 wr=> ∃kk:Nat,kk<=L/\L - kk<=gg/\s8= .int .i64 kk/\Hid (Below w.heap.size w wr)/\Hid (∀j (hj:j<kk) (hl:j<l.length),p l[j]=false))
 case atStart=>exact⟨0,Nat.zero_le _,by omega,rfl,hid (Below.refl _ w),hid (fun j hj=>absurd hj (Nat.not_lt_zero _))⟩
 case round=>
  obtain⟨kk,hkk,hg,rfl,HB,HJ⟩:=hrel
  by_cases hlt:kk<L
  ·have hkl:kk<l.length:=by rw[HLL.out];exact hlt
   obtain⟨b,o,rfl,hc⟩:=HA.out kk hkl
   obtain⟨q0,q1,q2,q3⟩:=hc _ HB.out
   have hcall:=HP.out wr l[kk] HB.out
   have HI:Hid (p l[kk]=true->idxI p l=kk):=hid (fun q=>HH.out kk hkl q (fun j hj=>HJ.out j hj (by omega)))
   have HN:Hid (p l[kk]=false-> ∀j (hj:j<kk+1) (hl:j<l.length),p l[j]=false):=hid (fun q j hj hl=>by
    by_cases e:j=kk
    ·subst e;exact q
    ·exact HJ.out j (by omega) hl)
   clear hc HH HM HA HP
   generalize l[kk]=x at q0 q1 q2 q3 hcall HI HN
   obtain⟨xn,xh,xt,xl,xa,xc⟩:=x
   unfold LockC.lv at q3
   unfold lockVal LockC.lv at hcall
   dsimp only at q0 q1 q2 q3 hcall
   cases hq:p ⟨xn,xh,xt,xl,xa,xc⟩ with
   | true=>
    rw[hq] at hcall
    have HC:=hid hcall
    have HI:=hid (HI.out hq)
    clear hcall hq HN
    go_wp2_with (go_at_fn g;refine HC.out.mono ?_;rintro e w' ⟨rfl,hb'⟩)
    go_ret
    exact⟨by rw[HI.out];rfl,step HB.out hb'⟩
   | false=>
    rw[hq] at hcall
    have HC:=hid hcall
    have HN:=hid (HN.out hq)
    clear hcall hq HI
    go_wp2_with (go_at_fn g;refine HC.out.mono ?_;rintro e w' ⟨rfl,hb'⟩)
    go_roundg (L - (kk+1))
    case measure=>omega
    case rel=>exact⟨kk+1,by omega,by omega,by go_num,hid (step HB.out hb'),HN⟩
  ·obtain rfl:kk=L:=by omega
   have hmiss:=HM.out (fun j hj=>HJ.out j (by rw[<-HLL.out];exact hj) hj)
   have HMM:=hid hmiss
   clear hmiss HM HH HP
   go_wp2
   go_ret
   exact⟨by rw[HMM.out];rfl,HB.out⟩
theorem HasK_any (p:LockC->Bool) (g:Nat) (lb:Array Value) (eg: ∀args w,(callFunc g args).run Tryz.prog w= .ok (.enter g args) w) (v:Value) (l:List LockC) (w:World) (h:RdX 4 cellsK w v l)
  (hp: ∀(W:World) (x:LockC),Below w.heap.size w W->Calls Tryz.prog g (#[lockVal x]++lb) W (SaysB (p x) W)):
  Calls Tryz.prog 100 #[v,.func (.func g) #[] lb] w (SaysB (l.any p) w):=by
 rw[<-idxI_any]
 have HC:=hid (IdxK_any p g lb eg v l w h hp)
 clear hp h
 generalize idxI p l=r at HC ⊢
 go_enter Tryz.func100,Tryz.ntmps100
 go_wp2_with (go_at_call 159;refine HC.out.mono ?_;rintro e w' ⟨rfl,hb'⟩)
 go_ret
 exact⟨by simp,hb'⟩
/-! ### The closures, and who calls them -/
theorem indexK1_any (x:LockC) (w:World) (b:Nat) (n:List UInt8) (hb:w.cell? ⟨b,0,none⟩=some (.string (bstr n))):
  Calls Tryz.prog 219 #[lockVal x,.pointer (some ⟨b,0,none⟩)] w (SaysB (isNmC n x) w):=by
 obtain⟨xn,xh,xt,xl,xa,xc⟩:=x
 unfold lockVal LockC.lv isNmC isNm LockC.val
 dsimp only
 have HB:=hid (newAlloc w (.cells #[.string (bstr xn),.int .i64 xh,.int .i64 xt,.slice xa xl.length xc] 60))
 obtain⟨y0,y1,y2,y3⟩:=box4 (Below.refl _ (w.alloc (.cells #[.string (bstr xn),.int .i64 xh,.int .i64 xt,.slice xa xl.length xc] 60)))
 have z1:=(HB.out.cell (lt_of_cell hb)).trans hb
 clear hb
 have hE:=str_eq xn n
 generalize decide (xn=n)=r at hE ⊢
 generalize xl.length=N at*
 go_enter Tryz.func219,Tryz.ntmps219
 go_wp2
 go_ret
 exact⟨by simp [hE],HB.out⟩
theorem tokenK1_any (x:LockC) (w:World) (b:Nat) (t:Int) (hb:w.cell? ⟨b,0,none⟩=some (.int .i64 t)):
  Calls Tryz.prog 155 #[lockVal x,.pointer (some ⟨b,0,none⟩)] w (SaysB (decide (x.token=t)) w):=by
 obtain⟨xn,xh,xt,xl,xa,xc⟩:=x
 unfold lockVal LockC.lv
 dsimp only
 have HB:=hid (newAlloc w (.cells #[.string (bstr xn),.int .i64 xh,.int .i64 xt,.slice xa xl.length xc] 60))
 obtain⟨y0,y1,y2,y3⟩:=box4 (Below.refl _ (w.alloc (.cells #[.string (bstr xn),.int .i64 xh,.int .i64 xt,.slice xa xl.length xc] 60)))
 have z1:=(HB.out.cell (lt_of_cell hb)).trans hb
 clear hb
 generalize xl.length=N at*
 go_enter Tryz.func155,Tryz.ntmps155
 go_wp2
 go_ret
 exact⟨by simp<;>rfl,HB.out⟩
theorem str_gtr (a b:List UInt8):(!Op.bytesLess (bstr a).toList (bstr b).toList && !(bstr a).toList ==(bstr b).toList)=Op.bytesLess b a:=by
 rw[str_less,str_eq]
 rcases less_tri a b with ⟨q1,q2,q3⟩ | ⟨q1,q2,q3⟩ | ⟨q1,q2⟩
 ·simp [q1,q2,q3]
 ·simp [q1,q2,q3]
 ·subst q1;simp [q2]
theorem placeK1_any (x:LockC) (w:World) (b:Nat) (n:List UInt8) (hb:w.cell? ⟨b,0,none⟩=some (.string (bstr n))):
  Calls Tryz.prog 236 #[lockVal x,.pointer (some ⟨b,0,none⟩)] w (SaysB (Op.bytesLess n x.name) w):=by
 obtain⟨xn,xh,xt,xl,xa,xc⟩:=x
 unfold lockVal LockC.lv
 dsimp only
 have HB:=hid (newAlloc w (.cells #[.string (bstr xn),.int .i64 xh,.int .i64 xt,.slice xa xl.length xc] 60))
 obtain⟨y0,y1,y2,y3⟩:=box4 (Below.refl _ (w.alloc (.cells #[.string (bstr xn),.int .i64 xh,.int .i64 xt,.slice xa xl.length xc] 60)))
 have z1:=(HB.out.cell (lt_of_cell hb)).trans hb
 clear hb
 have hE:=str_gtr xn n
 generalize Op.bytesLess n xn=r at hE ⊢
 generalize xl.length=N at*
 go_enter Tryz.func236,Tryz.ntmps236
 go_wp2
 go_ret
 exact⟨by simp [hE],HB.out⟩
theorem enters_indexK: ∀args w,(callFunc 219 args).run Tryz.prog w= .ok (.enter 219 args) w:=enters_of Tryz.func219 (by kernel_rfl) rfl
theorem enters_tokenK: ∀args w,(callFunc 155 args).run Tryz.prog w= .ok (.enter 155 args) w:=enters_of Tryz.func155 (by kernel_rfl) rfl
theorem enters_placeK: ∀args w,(callFunc 236 args).run Tryz.prog w= .ok (.enter 236 args) w:=enters_of Tryz.func236 (by kernel_rfl) rfl
theorem indexOfK_any (v:Value) (l:List LockC) (n:List UInt8) (w:World) (h:RdX 4 cellsK w v l):Calls Tryz.prog 201 #[v,.string (bstr n)] w (SaysI (idxI (isNm n) (vals l)) w):=by
 rw[idx_vals]
 have hmf: ∀(fn:Fn) (first cap:Array Value) (w:World),(Instr.makeFunc fn first cap).run Tryz.prog w= .ok (.func fn first cap) w:=fun _ _ _ _=>rfl
 have HI:=hid (IdxK_any (isNmC n) 219 #[.pointer (some ⟨w.heap.size,0,none⟩)] enters_indexK v l (w.alloc (.cells #[.string (bstr n)] 9)) (h.later (newAlloc _ _))
  (fun W x hb=>indexK1_any x W w.heap.size n (box1k_at w _ _ W hb)))
 have HB:=hid (newAlloc w (.cells #[.string (bstr n)] 9))
 obtain⟨a,cap,rfl⟩:=h.form
 clear h
 generalize idxI (isNmC n) l=r at HI ⊢
 generalize l.length=L at*
 go_enter Tryz.func201,Tryz.ntmps201
 go_wp2_with (go_at_call 159;refine HI.out.mono ?_;rintro e w' ⟨rfl,hb'⟩)
 go_ret
 exact⟨rfl,step HB.out hb'⟩
theorem hasTokenK_any (v:Value) (l:List LockC) (t:Int) (w:World) (h:RdX 4 cellsK w v l):Calls Tryz.prog 95 #[v,.int .i64 t] w (SaysB (l.any fun x=>decide (x.token=t)) w):=by
 have hmf: ∀(fn:Fn) (first cap:Array Value) (w:World),(Instr.makeFunc fn first cap).run Tryz.prog w= .ok (.func fn first cap) w:=fun _ _ _ _=>rfl
 have HI:=hid (HasK_any (fun x=>decide (x.token=t)) 155 #[.pointer (some ⟨w.heap.size,0,none⟩)] enters_tokenK v l (w.alloc (.cells #[.int .i64 t] 3)) (h.later (newAlloc _ _))
  (fun W x hb=>tokenK1_any x W w.heap.size t (box1k_at w _ _ W hb)))
 have HB:=hid (newAlloc w (.cells #[.int .i64 t] 3))
 obtain⟨a,cap,rfl⟩:=h.form
 clear h
 generalize l.any (fun x:LockC=>decide (x.token=t))=r at HI ⊢
 generalize l.length=L at*
 go_enter Tryz.func95,Tryz.ntmps95
 go_wp2_with (go_at_call 100;refine HI.out.mono ?_;rintro e w' ⟨rfl,hb'⟩)
 go_ret
 exact⟨rfl,step HB.out hb'⟩
theorem place_find (n:List UInt8): ∀l:List LockV,(∀k∈l,k.name≠n)->l.findIdx (fun k=>Op.bytesLess n k.name)=placeK n l
 | [],_=>rfl
 | k::l,h=>by
  have ih:=place_find n l fun x hx=>h x (List.mem_cons_of_mem _ hx)
  have hk:=h k List.mem_cons_self
  rw[List.findIdx_cons,placeK,ih]
  rcases less_tri k.name n with ⟨q1,q2,_⟩ | ⟨q1,q2,_⟩ | ⟨q1,_⟩
  ·rw[q1,q2];rfl
  ·rw[q1,q2];rfl
  ·exact absurd q1 hk
theorem placeOfK_any (v:Value) (l:List LockC) (n:List UInt8) (w:World) (h:RdX 4 cellsK w v l) (hi:idxI (isNm n) (vals l)= -1):Calls Tryz.prog 222 #[v,.string (bstr n)] w (SaysI (placeK n (vals l):Int) w):=by
 have hmf: ∀(fn:Fn) (first cap:Array Value) (w:World),(Instr.makeFunc fn first cap).run Tryz.prog w= .ok (.func fn first cap) w:=fun _ _ _ _=>rfl
 have HI:=hid (IdxK_any (fun x=>Op.bytesLess n x.name) 236 #[.pointer (some ⟨w.heap.size,0,none⟩)] enters_placeK v l (w.alloc (.cells #[.string (bstr n)] 9)) (h.later (newAlloc _ _))
  (fun W x hb=>placeK1_any x W w.heap.size n (box1k_at w _ _ W hb)))
 have HB:=hid (newAlloc w (.cells #[.string (bstr n)] 9))
 have hpl:l.findIdx (fun x:LockC=>Op.bytesLess n x.name)=placeK n (vals l):=by
  rw[<-place_find n (vals l) (fun k hk=>by simpa [isNm] using idx_noneK _ _ hi k hk)]
  unfold vals
  rw[List.findIdx_map]
  rfl
 have hm:=h.len
 have hle:placeK n (vals l)<=l.length:=by have:=placeK_le n (vals l);rw[vals_length] at this;exact this
 obtain⟨a,cap,rfl⟩:=h.form
 clear h hi
 by_cases hq:placeK n (vals l)<l.length
 ·have e:idxI (fun x:LockC=>Op.bytesLess n x.name) l=(placeK n (vals l):Int):=by unfold idxI;rw[hpl];exact if_pos hq
  rw[e] at HI
  clear e hq hpl
  generalize placeK n (vals l)=r at HI hle ⊢
  generalize l.length=L at*
  go_enter Tryz.func222,Tryz.ntmps222
  go_wp2_with (go_at_call 159;refine HI.out.mono ?_;rintro e w' ⟨rfl,hb'⟩)
  go_ret
  exact⟨rfl,step HB.out hb'⟩
 ·have e:idxI (fun x:LockC=>Op.bytesLess n x.name) l= -1:=by unfold idxI;rw[hpl];exact if_neg hq
  have e2:placeK n (vals l)=l.length:=by omega
  rw[e] at HI
  rw[e2]
  clear e hq e2 hle hpl
  generalize l.length=L at*
  go_enter Tryz.func222,Tryz.ntmps222
  go_wp2_with (go_at_call 159;refine HI.out.mono ?_;rintro e w' ⟨rfl,hb'⟩)
  go_ret
  exact⟨rfl,step HB.out hb'⟩
end Cm
end Go.Proofs.YtclcgkpfcogcdaaGreat
