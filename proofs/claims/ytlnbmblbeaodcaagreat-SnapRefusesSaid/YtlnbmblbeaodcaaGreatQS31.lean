/- Texts laid together by program. -/
import Derived.Test.YtlnbmblbeaodcaaGreatQS30
import Derived.Shelf.Abstract
import Derived.Lib.AppendZeros
import Derived.Deep.RegionHeld3
import Derived.Deep.RegionWith
import Derived.Laws.CopyOwn
import Derived.Lib.Overlaps
import Derived.Lib.AppendZerosOnto
import Derived.Shelf.RegionOpenPlain
/- Contracts: slices.IndexFunc, slices.ContainsFunc over locks, whatever the test. -/
set_option linter.unusedVariables false
set_option maxRecDepth 8000
set_option linter.unusedSimpArgs false
namespace Go.Proofs.YtlnbmblbeaodcaaGreat
open Lib (hid)
open Go.RowKit Go.Shelf
namespace Cm

set_option maxHeartbeats 2000000 in
theorem IdxK_any (p:LockC->Bool) (g:Nat) (lb:Array Value) (eg: ∀args w,(callFunc g args).run Tryz.prog w= .ok (.enter g args) w) (v:Value) (l:List LockC) (w:World) (h:RdX 4 cellsK w v l)
  (hp: ∀(W:World) (x:LockC),Below w.heap.size w W->Calls Tryz.prog g (#[lockVal x]++lb) W (SaysB (p x) W)):
  Calls Tryz.prog 156 #[v,.func (.func g) #[] lb] w (SaysI (idxI p l) w):=by
 have hm:=h.len
 obtain⟨a,cap,rfl⟩:=h.form
 have HA:=hid (fun i hi=>rdk_at h i hi)
 have HP:=hid hp
 have HH:=hid (idxI_hit p l)
 have HM:=hid (idxI_miss p l)
 clear h hp
 obtain⟨L,hL⟩: ∃L,l.length=L:=⟨_,rfl⟩
 have HLL:=hid hL
 rw[hL] at hm ⊢
 clear hL
 go_enter Tryz.func156,Tryz.ntmps156
 go_wp2
 go_loopg [5,8] L (fun gg _ s8 wr=> ∃kk:Nat,kk<=L/\L - kk<=gg/\s8= .int .i64 kk/\Hid (Below w.heap.size w wr)/\Hid (∀j (hj:j<kk) (hl:j<l.length),p l[j]=false))
 case atStart=>exact⟨0,Nat.zero_le _,by omega,rfl,hid (Below.refl _ w),hid (fun j hj=>absurd hj (Nat.not_lt_zero _))⟩
 case round=>
  obtain⟨kk,hkk,hg,rfl,HB,HJ⟩:=hrel
  by_cases hlt:kk<L
  ·have hkl:kk<l.length:=by rw[HLL.out];exact hlt
   obtain⟨b,o,rfl,hc⟩:=HA.out kk hkl
   obtain⟨q0,q1,q2,q3⟩:=hc _ HB.out
   have hcall:=HP.out wr l[kk] HB.out
   have HI:Hid (p l[kk]=true->idxI p l=kk):=hid (fun q=>HH.out kk hkl q (fun j hj=>HJ.out j hj (by omega)))
   have HN:Hid (p l[kk]=false-> ∀j (hj:j<kk+1) (hl:j<l.length),p l[j]=false):=hid (fun q j hj hl=>by
    by_cases e:j=kk
    ·subst e;exact q
    ·exact HJ.out j (by omega) hl)
   clear hc HH HM HA HP
   generalize l[kk]=x at q0 q1 q2 q3 hcall HI HN
   obtain⟨xn,xh,xt,xl,xa,xc⟩:=x
   unfold LockC.lv at q3
   unfold lockVal LockC.lv at hcall
   dsimp only at q0 q1 q2 q3 hcall
   cases hq:p ⟨xn,xh,xt,xl,xa,xc⟩ with
   | true=>
    rw[hq] at hcall
    have HC:=hid hcall
    have HI:=hid (HI.out hq)
    clear hcall hq HN
    go_wp2_with (go_at_fn g;refine HC.out.mono ?_;rintro e w' ⟨rfl,hb'⟩)
    go_ret
    exact⟨by rw[HI.out];rfl,step HB.out hb'⟩
   | false=>
    rw[hq] at hcall
    have HC:=hid hcall
    have HN:=hid (HN.out hq)
    clear hcall hq HI
    go_wp2_with (go_at_fn g;refine HC.out.mono ?_;rintro e w' ⟨rfl,hb'⟩)
    go_roundg (L - (kk+1))
    case measure=>omega
    case rel=>exact⟨kk+1,by omega,by omega,by go_num,hid (step HB.out hb'),HN⟩
  ·obtain rfl:kk=L:=by omega
   have hmiss:=HM.out (fun j hj=>HJ.out j (by rw[<-HLL.out];exact hj) hj)
   have HMM:=hid hmiss
   clear hmiss HM HH HP
   go_wp2
   go_ret
   exact⟨by rw[HMM.out];rfl,HB.out⟩
theorem HasK_any (p:LockC->Bool) (g:Nat) (lb:Array Value) (eg: ∀args w,(callFunc g args).run Tryz.prog w= .ok (.enter g args) w) (v:Value) (l:List LockC) (w:World) (h:RdX 4 cellsK w v l)
  (hp: ∀(W:World) (x:LockC),Below w.heap.size w W->Calls Tryz.prog g (#[lockVal x]++lb) W (SaysB (p x) W)):
  Calls Tryz.prog 96 #[v,.func (.func g) #[] lb] w (SaysB (l.any p) w):=by
 rw[<-idxI_any]
 have HC:=hid (IdxK_any p g lb eg v l w h hp)
 clear hp h
 generalize idxI p l=r at HC ⊢
 go_enter Tryz.func96,Tryz.ntmps96
 go_wp2_with (go_at_call 156;refine HC.out.mono ?_;rintro e w' ⟨rfl,hb'⟩)
 go_ret
 exact⟨by simp,hb'⟩
/-! ### The closures, and who calls them -/
theorem tokenK1_any (x:LockC) (w:World) (b:Nat) (t:Int) (hb:w.cell? ⟨b,0,none⟩=some (.int .i64 t)):
  Calls Tryz.prog 152 #[lockVal x,.pointer (some ⟨b,0,none⟩)] w (SaysB (decide (x.token=t)) w):=by
 obtain⟨xn,xh,xt,xl,xa,xc⟩:=x
 unfold lockVal LockC.lv
 dsimp only
 have HB:=hid (newAlloc w (.cells #[.string (bstr xn),.int .i64 xh,.int .i64 xt,.slice xa xl.length xc] 71))
 obtain⟨y0,y1,y2,y3⟩:=box4 (Below.refl _ (w.alloc (.cells #[.string (bstr xn),.int .i64 xh,.int .i64 xt,.slice xa xl.length xc] 71)))
 have z1:=(HB.out.cell (lt_of_cell hb)).trans hb
 clear hb
 generalize xl.length=N at*
 go_enter Tryz.func152,Tryz.ntmps152
 go_wp2
 go_ret
 exact⟨by simp<;>rfl,HB.out⟩
theorem enters_tokenK: ∀args w,(callFunc 152 args).run Tryz.prog w= .ok (.enter 152 args) w:=enters_of Tryz.func152 (by kernel_rfl) rfl
theorem hasTokenK_any (v:Value) (l:List LockC) (t:Int) (w:World) (h:RdX 4 cellsK w v l):Calls Tryz.prog 91 #[v,.int .i64 t] w (SaysB (l.any fun x=>decide (x.token=t)) w):=by
 have hmf: ∀(fn:Fn) (first cap:Array Value) (w:World),(Instr.makeFunc fn first cap).run Tryz.prog w= .ok (.func fn first cap) w:=fun _ _ _ _=>rfl
 have HI:=hid (HasK_any (fun x=>decide (x.token=t)) 152 #[.pointer (some ⟨w.heap.size,0,none⟩)] enters_tokenK v l (w.alloc (.cells #[.int .i64 t] 3)) (h.later (newAlloc _ _))
  (fun W x hb=>tokenK1_any x W w.heap.size t (box1k_at w _ _ W hb)))
 have HB:=hid (newAlloc w (.cells #[.int .i64 t] 3))
 obtain⟨a,cap,rfl⟩:=h.form
 clear h
 generalize l.any (fun x:LockC=>decide (x.token=t))=r at HI ⊢
 generalize l.length=L at*
 go_enter Tryz.func91,Tryz.ntmps91
 go_wp2_with (go_at_call 96;refine HI.out.mono ?_;rintro e w' ⟨rfl,hb'⟩)
 go_ret
 exact⟨rfl,step HB.out hb'⟩
end Cm
end Go.Proofs.YtlnbmblbeaodcaaGreat

/- Contracts: package memo's Right, Fresh, Last. -/
set_option linter.unusedVariables false
set_option maxRecDepth 8000
set_option linter.unusedSimpArgs false
namespace Go.Proofs.YtlnbmblbeaodcaaGreat
open Lib (hid)
open Go.RowKit Go.Shelf
namespace Cm

theorem Rm.held {l:List AnsV} (h:Rm l): ∀m∈l,m.rep.held.length<=4:=fun m hm=>(mayP_bounds _ (mayA_bounds m (h.may m hm)).2.2).2.2.2.1
theorem Rm.small {L:List MemC} (h:Rm (valsM L)): ∀x∈L,x.m.rep.held.length<=1000:=fun x hx=>by
 have:=h.held x.m (List.mem_map.2 ⟨x,hx,rfl⟩)
 omega
theorem idxM_cases (l:List AnsV) (c:Int):(idxI (isCl c) l= -1/\lastM l c=(zeroM,false))\/ ∃k:Nat,∃hk:k<l.length,idxI (isCl c) l=(k:Int)/\l[k].client =c/\lastM l c=(l[k],true):=by
 rcases idx_casesG (isCl c) l with h | ⟨k,hk,h,_⟩
 ·exact .inl ⟨h,last_miss l c h⟩
 ·obtain⟨hk',q1,q2⟩:=last_hit l c k h
  exact .inr ⟨k,hk',h,q1,q2⟩
end Cm
end Go.Proofs.YtlnbmblbeaodcaaGreat

/- Contracts: Last of both sides, with whose what the memo holds is (made by tools/gen_memq.py). -/
set_option linter.unusedVariables false
set_option maxRecDepth 8000
set_option linter.unusedSimpArgs false
namespace Go.Proofs.YtlnbmblbeaodcaaGreat
open Lib (hid)
open Go.RowKit
namespace Cm

def GetsMX (L:List MemC) (r:AnsV × Bool) (w:World) (e:Ending) (w':World):Prop:=
 ∃x:MemC,e= .returned (.tuple #[memVal x,.bool r.2])/\x.m=r.1/\(x∈L\/w'.ownsRow w.heap.size 141 2 x.hv x.m.rep.held.length (flatX cellsG x.m.rep.held))/\Below w.heap.size w w'
set_option maxHeartbeats 2000000 in
theorem RefLast_x (v:Value) (L:List MemC) (c:Int) (w:World) (h:RdM w v L):Calls Tryz.prog 58 #[v,.int .i64 c] w (GetsMX L (lastM (valsM L) c) w):=by
 have hm:=h.len
 obtain⟨a,cap,rfl⟩:=h.form
 have HA:=hid (fun i hi=>rdm_at h.row i hi)
 have HH:Hid (∀i (hi:i<L.length),L[i]∈L):=hid fun i hi=>List.getElem_mem hi
 have hb1:=newAlloc w (.cells #[.int .i64 0,.int .i64 0,.int .i64 0,.int .i64 0,.int .i64 0,.slice none 0 0] 76)
 obtain⟨c0,c1,c2,c3,c4,c5⟩:=box6 (Below.refl _ (w.alloc (.cells #[.int .i64 0,.int .i64 0,.int .i64 0,.int .i64 0,.int .i64 0,.slice none 0 0] 76)))
 have cf:=free6m (Below.refl _ (w.alloc (.cells #[.int .i64 0,.int .i64 0,.int .i64 0,.int .i64 0,.int .i64 0,.slice none 0 0] 76)))
 obtain⟨W1,hW1⟩: ∃W1,W1=w.alloc (.cells #[.int .i64 0,.int .i64 0,.int .i64 0,.int .i64 0,.int .i64 0,.slice none 0 0] 76):=⟨_,rfl⟩
 rw[<-hW1] at hb1 c0 c1 c2 c3 c4 c5 cf
 have HB:=hid hb1
 have HI:Hid (∀k (hk:k<L.length),L[k].m.client =c->(∀j (hj:j<k),(L[j]'(by omega)).m.client ≠c)->lastM (valsM L) c=(L[k].m,true)):=hid fun k hk hc hb=>by
  have e:idxI (isCl c) (valsM L)=k:=idxI_hit _ _ k (by rw[valsM_length];exact hk) (by rw[valsM_get L k hk];unfold isCl;exact decide_eq_true hc) (fun j hj=>by rw[valsM_get L j (by omega)];unfold isCl;exact decide_eq_false (hb j hj))
  obtain⟨hk',_,he⟩:=last_hit _ _ _ e
  rw[he,valsM_get L k hk]
 have HMS:Hid ((∀j (hj:j<L.length),L[j].m.client ≠c)->lastM (valsM L) c=(zeroM,false)):=hid fun hb=>last_miss _ _ (idxI_miss _ _ fun j hj=>by
  rw[valsM_length] at hj
  rw[valsM_get L j hj];unfold isCl;exact decide_eq_false (hb j hj))
 clear h hb1
 obtain⟨N,hN⟩: ∃N,L.length=N:=⟨_,rfl⟩
 have HLL:=hid hN
 rw[hN] at hm ⊢
 clear hN
 go_enter Tryz.func58,Tryz.ntmps58
 go_upto_region 1 with fail
 rw[<-hW1]
 clear hW1
 go_wp2
 go_loop [6] (fun i=> ∃k:Nat,k<=N/\i= .int .i64 k/\Hid (∀j (hj:j<k) (hl:j<L.length),L[j].m.client ≠c)) (fun i=>N - (intOf i).toNat)
 case atStart=>exact⟨0,by omega,rfl,hid (fun j hj=>absurd hj (Nat.not_lt_zero _))⟩
 case round=>
  obtain⟨k,hk,rfl,HJ⟩:=hrel
  by_cases hlt:k<N
  ·have hkl:k<L.length:=by rw[HLL.out];exact hlt
   obtain⟨b,o,rfl,hc⟩:=HA.out k hkl
   obtain⟨q0,q1,q2,q3,q4,q5⟩:=hc W1 HB.out
   have hi:=fun q=>HI.out k hkl q (fun j hj=>HJ.out j hj (by omega))
   have hh:=HH.out k hkl
   have HN:Hid (L[k].m.client ≠c-> ∀j (hj:j<k+1) (hl:j<L.length),L[j].m.client ≠c):=hid (fun q j hj hl=>by
    by_cases e:j=k
    ·subst e;exact q
    ·exact HJ.out j (by omega) hl)
   clear HA HI HMS HH hc
   generalize L[k]=x at q0 q1 q2 q3 q4 q5 hi hh HN
   obtain⟨⟨xc,xs,xk,xn,xd,xl⟩,xa,xp⟩:=x
   unfold MemC.hv at q5
   dsimp only at q0 q1 q2 q3 q4 q5 hi HN
   have HHH:=hid hh
   obtain⟨XN,hXN⟩: ∃XN,xl.length=XN:=⟨_,rfl⟩
   have HXN:=hid hXN
   rw[hXN] at q5
   clear hXN hh
   by_cases e1:xc=c
   ·have d1:(xc==c)=true:=by simpa using e1
    have H:=hid (hi e1)
    clear hi e1 HN
    go_wp2
    refine bodyPost_ret (by simp [results,Tryz.results58,go_sem,c0,c1,c2,c3,c4,c5,cf]<;>rfl) rfl ?_
    have hbf:=set6m HB.out w.heap.size (Nat.le_refl _) (.int .i64 xc) (.int .i64 xs) (.int .i64 xk) (.int .i64 xn) (.int .i64 xd) (.slice xa XN xp)
    refine⟨⟨⟨xc,xs,xk,xn,xd,xl⟩,xa,xp⟩,?_,by rw[H.out],Or.inl HHH.out,hbf⟩
    unfold memVal MemC.hv
    dsimp only
    rw[HXN.out,H.out]
   ·have d1:(xc==c)=false:=by simpa using e1
    have H:=hid (HN.out e1)
    clear hi e1 HN HHH
    go_wp2
    go_round
    case rel=>exact⟨k+1,by omega,by go_num,H⟩
    case measure=>simp [intOf];omega
  ·obtain rfl:k=N:=by omega
   have H:=hid (HMS.out (fun j hj=>HJ.out j (by rw[<-HLL.out];exact hj) hj))
   clear HI HMS HH
   go_wp2
   refine bodyPost_ret (by simp [results,Tryz.results58,go_sem,c0,c1,c2,c3,c4,c5,cf]<;>rfl) rfl ?_
   have hbf:=set6m HB.out w.heap.size (Nat.le_refl _) (.int .i64 0) (.int .i64 0) (.int .i64 0) (.int .i64 0) (.int .i64 0) (.slice none 0 0)
   rw[H.out]
   exact⟨⟨zeroM,none,0⟩,rfl,rfl,Or.inr (World.ownsRow_nil _ _ _ _),hbf⟩
end Cm
end Go.Proofs.YtlnbmblbeaodcaaGreat

/- Contracts: package lock's withLine, copyOf, copies. -/
set_option linter.unusedVariables false
set_option maxRecDepth 8000
set_option linter.unusedSimpArgs false
namespace Go.Proofs.YtlnbmblbeaodcaaGreat
open Lib (hid)
open Go.RowKit Go.Shelf
namespace Cm

theorem free4k {w w':World} {x y z u:Value} {t:TypeId} (h:Below (w.alloc (.cells #[x,y,z,u] t)).heap.size (w.alloc (.cells #[x,y,z,u] t)) w'):
  ∀k,w'.frozen? ⟨w.heap.size,k,none⟩=false:=by
 intro k
 have hl:w.heap.size<(w.alloc (.cells #[x,y,z,u] t)).heap.size :=by simp
 rw[h.frozen (p:=⟨w.heap.size,k,none⟩) hl]
 simp [go_sem]
theorem set4k {a w:World} {b:Nat} (h:Below b a w) (g:Nat) (hg:b<=g) (x y z u:Value):Below b a ((((w.setCell ⟨g,0,none⟩ x).setCell ⟨g,1,none⟩ y).setCell ⟨g,2,none⟩ z).setCell ⟨g,3,none⟩ u):=
 (((h.setCell hg _).setCell hg _).setCell hg _).setCell hg _
end Cm
end Go.Proofs.YtlnbmblbeaodcaaGreat

/- Contracts: package lock's replaced. -/
set_option linter.unusedVariables false
set_option maxRecDepth 8000
set_option linter.unusedSimpArgs false
namespace Go.Proofs.YtlnbmblbeaodcaaGreat
open Lib (hid)
open Go.RowKit Go.Shelf
namespace Cm

theorem RdK.take {w:World} {a:Option Addr} {n cap:Nat} {L:List LockC} (h:RdK w (.slice a n cap) L) (k:Nat) (hk:k<=n):RdK w (.slice a k cap) (L.take k):=
 ⟨h.row.take k hk,fun x hx=>h.line x (List.mem_of_mem_take hx)⟩
theorem RdK.drop {w:World} {a:Option Addr} {n cap:Nat} {L:List LockC} (h:RdK w (.slice a n cap) L) (k:Nat) (hk:k<=n):RdK w (.slice (if cap=k then a else a.map (·.add (k*4))) (n - k) (cap - k)) (L.drop k):=
 ⟨h.row.drop (by omega) k hk,fun x hx=>h.line x (List.mem_of_mem_drop hx)⟩
theorem NewI.lower {base base':Nat} {w:World} {u:Value} {l:List Int} (h:NewI base w u l) (hb:base'<=base):NewI base' w u l:=⟨h.1,fun g hg=>⟨Nat.le_trans hb (h.2 g hg).1,(h.2 g hg).2⟩⟩
end Cm
end Go.Proofs.YtlnbmblbeaodcaaGreat

/- Contracts: slices.Index, slices.Contains of numbers. -/
set_option linter.unusedVariables false
set_option maxRecDepth 8000
set_option linter.unusedSimpArgs false
namespace Go.Proofs.YtlnbmblbeaodcaaGreat
open Lib (hid)
open Go.RowKit
namespace Cm

def SaysN (r:Int) (w:World) (e:Ending) (w':World):Prop:=e= .returned (.int .i64 r)/\w'=w
theorem Index_num (v:Value) (l:List Int) (c:Int) (w:World) (h:RdI w v l):Calls Tryz.prog 177 #[v,.int .i64 c] w (SaysN (idxI (isN c) l) w):=by
 have hm:=h.len
 obtain⟨a,cap,rfl⟩:=h.form
 have HA:=hid (fun i hi=>rdi_at h i hi)
 have HH:=hid (idxI_hit (isN c) l)
 have HM:=hid (idxI_miss (isN c) l)
 clear h
 obtain⟨L,hL⟩: ∃L,l.length=L:=⟨_,rfl⟩
 have HLL:=hid hL
 rw[hL] at hm ⊢
 clear hL
 go_enter Tryz.func177,Tryz.ntmps177
 go_wp2
 go_loop [8] (fun i=> ∃k:Nat,k<=L/\i= .int .i64 k/\Hid (∀j (hj:j<k) (hl:j<l.length),isN c l[j]=false)) (fun i=>L - (intOf i).toNat)
 case atStart=>exact⟨0,by omega,rfl,hid (fun j hj=>absurd hj (Nat.not_lt_zero _))⟩
 case round=>
  obtain⟨k,hk,rfl,HJ⟩:=hrel
  by_cases hlt:k<L
  ·have hkl:k<l.length:=by rw[HLL.out];exact hlt
   obtain⟨b,o,rfl,hc⟩:=HA.out k hkl
   have q1:=hc w (Below.refl _ _)
   have HI:Hid (isN c l[k]=true->idxI (isN c) l=k):=hid (fun q=>HH.out k hkl q (fun j hj=>HJ.out j hj (by omega)))
   have HN:Hid (isN c l[k]=false-> ∀j (hj:j<k+1) (hl:j<l.length),isN c l[j]=false):=hid (fun q j hj hl=>by
    by_cases e:j=k
    ·subst e;exact q
    ·exact HJ.out j (by omega) hl)
   clear HA HH HM hc
   generalize l[k]=g at q1 HI HN
   by_cases hq:g=c
   ·have d:(c==g)=true:=by simpa using hq.symm
    have H:=hid (HI.out (by unfold isN;exact decide_eq_true hq))
    clear hq HI HN
    go_wp2
    go_ret
    exact⟨by rw[H.out];rfl,rfl⟩
   ·have d:(c==g)=false:=by simpa using fun q=>hq q.symm
    have H:=hid (HN.out (by unfold isN;exact decide_eq_false hq))
    clear hq HI HN
    go_wp2
    go_round
    case rel=>exact⟨k+1,by omega,by go_num,H⟩
    case measure=>simp [intOf];omega
  ·obtain rfl:k=L:=by omega
   have H:=hid (HM.out (fun j hj=>HJ.out j (by rw[<-HLL.out];exact hj) hj))
   clear HM HH
   go_wp2
   go_ret
   exact⟨by rw[H.out];rfl,rfl⟩
theorem Contains_num (v:Value) (l:List Int) (c:Int) (w:World) (h:RdI w v l):Calls Tryz.prog 129 #[v,.int .i64 c] w (Says (hasL l c) w):=by
 rw[hasL_idx]
 have HC:=hid (Index_num v l c w h)
 obtain⟨a,cap,rfl⟩:=h.form
 clear h
 generalize idxI (isN c) l=r at HC ⊢
 generalize l.length=L at*
 go_enter Tryz.func129,Tryz.ntmps129
 go_wp2_with (go_at_call 177;refine HC.out.mono ?_;rintro e w' ⟨rfl,rfl⟩)
 go_ret
 exact⟨by simp,rfl⟩
end Cm
end Go.Proofs.YtlnbmblbeaodcaaGreat

/- Contracts: package line's Right, Ahead, Join, Leave, Next, Without. -/
set_option linter.unusedVariables false
set_option maxRecDepth 8000
set_option linter.unusedSimpArgs false
namespace Go.Proofs.YtlnbmblbeaodcaaGreat
open Lib (hid)
open Go.RowKit
namespace Cm

theorem isClient_any (c:Int) (w:World):Calls Tryz.prog 194 #[.int .i64 c] w (Says (clientF c) w):=by
  unfold clientF
  by_cases h1:0<=c<;>by_cases h2:c<8<;>
    (go_enter Tryz.func194,Tryz.ntmps194
     go_wp2
     go_ret
     exact⟨by simp [h1,h2]<;>omega,rfl⟩)
set_option maxHeartbeats 2000000 in
theorem LineRight_any (v:Value) (l:List Int) (w:World) (h:RdI w v l):Calls Tryz.prog 151 #[v] w (SaysB (rightL l) w):=by
 have hm:=h.len
 obtain⟨a,cap,rfl⟩:=h.form
 unfold rightL
 by_cases c6:l.length<=3
 case neg=>
  rw[decide_eq_false c6,Bool.false_and]
  clear h
  have d5:decide (3<(l.length:Int))=true:=by simp;omega
  generalize l.length=L at*
  go_enter Tryz.func151,Tryz.ntmps151
  go_wp2
  go_ret
  exact⟨rfl,Below.refl _ _⟩
 rw[decide_eq_true c6,Bool.true_and]
 have d5:decide (3<(l.length:Int))=false:=by simp;omega
 have hcap:l.length<=cap/\cap<=maxLen:=by
  obtain⟨a',cap',hv,q1,q2,_⟩:=h.ex
  cases hv
  exact⟨q1,q2⟩
 have HA:=hid (fun i hi=>rdi_at h i hi)
 have HT:=hid (fun k (hk:k<=l.length) x=>Contains_num _ (l.take k) x w (h.take k hk))
 have HD:=hid (lineGo_drop l)
 clear h
 obtain⟨L,hL⟩: ∃L,l.length=L:=⟨_,rfl⟩
 have HLL:=hid hL
 rw[hL] at hm c6 d5 hcap ⊢
 clear hL
 obtain⟨hc1,hc2⟩:=hcap
 go_enter Tryz.func151,Tryz.ntmps151
 go_wp2
 go_loop [10] (fun i=> ∃j:Nat,j<=L/\i= .int .i64 j/\Hid (lineGo [] l=lineGo (l.take j) (l.drop j))) (fun i=>L - (intOf i).toNat)
 case atStart=>exact⟨0,by omega,rfl,hid rfl⟩
 case round=>
  obtain⟨j,hj,rfl,HG⟩:=hrel
  by_cases hlt:j<L
  ·have hjl:j<l.length:=by rw[HLL.out];exact hlt
   obtain⟨b,o,rfl,hc⟩:=HA.out j hjl
   have q0:=hc _ (Below.refl _ _)
   have HT2:=hid (HT.out j (by rw[HLL.out];exact hj))
   have hd:=HD.out j hjl
   clear hc HT HA HD
   generalize l[j]=x at q0 hd
   have HI:=hid (HT2.out x)
   clear HT2
   have g1:(0:Int)<=(j:Int):=by omega
   have g2:(j:Int)<(L:Int):=by omega
   have g3:(j:Int)<=(cap:Int):=by omega
   generalize l.take j=P at HI hd HG
   have CC:=hid (isClient_any x w)
   cases n1:clientF x with
   | false=>
    rw[n1] at hd CC
    have H:=hid hd
    clear hd n1
    go_wp2_with (go_at_call 194;refine CC.out.mono ?_;rintro e w1 ⟨rfl,rfl⟩)
    go_ret
    exact⟨by rw[HG.out,H.out];rfl,Below.refl _ _⟩
   | true=>
    rw[n1] at hd CC
    cases n2:hasL P x with
    | true=>
     rw[n2] at hd HI
     have H:=hid hd
     clear hd n1 n2
     go_wp2_with (first
      | (go_at_call 194;refine CC.out.mono ?_;rintro e w1 ⟨rfl,rfl⟩)
      | (go_at_call 129;refine HI.out.mono ?_;rintro e w1 ⟨rfl,rfl⟩))
     go_ret
     exact⟨by rw[HG.out,H.out];rfl,Below.refl _ _⟩
    | false=>
     rw[n2] at hd HI
     have H:=hid hd
     clear hd n1 n2
     go_wp2_with (first
      | (go_at_call 194;refine CC.out.mono ?_;rintro e w1 ⟨rfl,rfl⟩)
      | (go_at_call 129;refine HI.out.mono ?_;rintro e w1 ⟨rfl,rfl⟩))
     go_round
     case rel=>exact⟨j+1,by omega,by go_num,hid (by rw[HG.out,H.out];simp)⟩
     case measure=>simp [intOf];omega
  ·obtain rfl:j=L:=by omega
   have hg:=HG.out
   rw[<-HLL.out,List.drop_length] at hg
   have HE:=hid hg
   clear hg HT
   go_wp2
   go_ret
   exact⟨by rw[HE.out];rfl,Below.refl _ _⟩
end Cm
end Go.Proofs.YtlnbmblbeaodcaaGreat

/- Contracts: package lock's Take, Free. -/
set_option linter.unusedVariables false
set_option maxRecDepth 8000
set_option linter.unusedSimpArgs false
namespace Go.Proofs.YtlnbmblbeaodcaaGreat
open Lib (hid)
open Go.RowKit Go.Shelf
namespace Cm

theorem good_small {L:List LockC} {t:Int} (h:Good (vals L) t):L.length<=4/\ ∀x∈L,x.line.length<=3:=by
 refine⟨by have:=h.len;rw[vals_length] at this;exact this,fun x hx=>?_⟩
 have h1:=h.rk.one x.val (List.mem_map.2 ⟨x,hx,rfl⟩)
 have h2:=((oneK_iff _).1 h1).2.2.2.1
 exact((rightL_iff _).1 h2).1
end Cm
end Go.Proofs.YtlnbmblbeaodcaaGreat

/- Contracts: package lock's Drop. -/
set_option linter.unusedVariables false
set_option maxRecDepth 8000
set_option linter.unusedSimpArgs false
namespace Go.Proofs.YtlnbmblbeaodcaaGreat
open Lib (hid)
open Go.RowKit Go.Shelf
namespace Cm

theorem NewI.other {base b1 s n:Nat} {w w':World} {u v:Value} {l:List Int} {xs:List Value} (h:NewI base w u l) (hr:w.ownsRow b1 71 s v n xs) (hg:w.grownBy w' v.ownBlock):NewI base w' u l:=by
 refine h.keep fun g' hg'=>?_
 obtain⟨h1,cs,h2⟩:=h.2 g' hg'
 refine hg.block g' (Array.getElem?_eq_some_iff.1 h2).1 fun q=>?_
 rcases hr.2 with ⟨rfl,_⟩ | ⟨g1,cap1,cur,rfl,_,q2,_⟩
 ·cases q
 ·have e:g'=g1:=by simpa [Value.ownBlock] using q
  subst e
  rw[h2] at q2
  injection q2 with q2
  injection q2 with _ q2
  exact absurd q2 (by decide)
theorem OwnN.push {base:Nat} {w3 w6:World} {m v':Value} {M Y:List LockC} (h:OwnN base w3 m M) (hY: ∀y∈Y,NewI base w3 y.lv y.line) (hg:w3.grownBy w6 m.ownBlock)
  (ho:w6.ownsRow base 71 4 v' (M.length+Y.length) (flatX cellsK M++flatX cellsK Y)):OwnN base w6 v' (M++Y):=by
 refine⟨by rw[List.length_append,flatX_append];exact ho,fun x hx=>?_⟩
 rcases List.mem_append.1 hx with q | q
 ·exact(h.line x q).other h.row hg
 ·exact(hY x q).other h.row hg
end Cm
end Go.Proofs.YtlnbmblbeaodcaaGreat
