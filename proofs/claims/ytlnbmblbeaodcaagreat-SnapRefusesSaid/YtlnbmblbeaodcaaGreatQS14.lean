/- Texts laid together by program. -/
import Derived.Test.YtlnbmblbeaodcaaGreatQS13
/- Contracts: padlockref6's TakeLock. -/
set_option linter.unusedVariables false
set_option maxRecDepth 8000
set_option linter.unusedSimpArgs false
namespace Go.Proofs.YtlnbmblbeaodcaaGreat
open Lib (hid)
open Go.RowKit
namespace Cm

def NewI (base:Nat) (w:World) (u:Value) (l:List Int):Prop:=RdI w u l/\ ∀g,u.ownBlock=some g->base<=g/\ ∃cs,w.heap[g]?=some (.cells cs 3)
theorem NewI.own {base:Nat} {w:World} {u:Value} {l:List Int} (h:w.ownsRow base 3 1 u l.length (flatX cellsI l)):NewI base w u l:=by
 refine⟨RdX.own cellsI_length h,fun g hg=>?_⟩
 rcases h.2 with ⟨rfl,_⟩ | ⟨g1,cap,cur,rfl,q0,q1,_⟩
 ·cases hg
 ·have r1:g1=g:=by simpa [Value.ownBlock] using hg
  subst r1
  exact⟨q0,cur,q1⟩
theorem NewI.nil (base:Nat) (w:World):NewI base w (.slice none 0 0) []:=⟨RdX.nil w,fun g hg=>by cases hg⟩
theorem NewI.later {base:Nat} {w w':World} {u:Value} {l:List Int} (h:NewI base w u l) (hb:Below w.heap.size w w'):NewI base w' u l:=by
 refine⟨h.1.later hb,fun g hg=>?_⟩
 obtain⟨h1,cs,h2⟩:=h.2 g hg
 exact⟨h1,cs,(hb.block g (Array.getElem?_eq_some_iff.1 h2).1).trans h2⟩
structure OwnN (base:Nat) (w:World) (v:Value) (M:List LockC):Prop where
 row:w.ownsRow base 71 4 v M.length (flatX cellsK M)
 line: ∀x∈M,NewI base w x.lv x.line
theorem OwnD.n {base:Nat} {w:World} {v:Value} {M:List LockC} (h:OwnD base w v M):OwnN base w v M:=⟨h.row,fun x hx=>NewI.own (h.line x hx)⟩
theorem OwnN.rd {base:Nat} {w:World} {v:Value} {M:List LockC} (h:OwnN base w v M):RdK w v M:=⟨RdX.own cellsK_length h.row,fun x hx=>(h.line x hx).1⟩
theorem OwnN.later {base:Nat} {w w':World} {v:Value} {M:List LockC} (h:OwnN base w v M) (hb:Below w.heap.size w w'):OwnN base w' v M:=⟨Rw.own_below h.row hb,fun x hx=>(h.line x hx).later hb⟩
theorem OwnN.nil (base:Nat) (w:World):OwnN base w (.slice none 0 0) []:=(OwnD.nil base w).n
def GetsT (r:List LockV × Int × Int) (w:World) (e:Ending) (w':World):Prop:=
 ∃v M,e= .returned (.tuple #[v,.int .i64 r.2.1,.int .i64 r.2.2])/\vals M=r.1/\OwnN w.heap.size w' v M/\Below w.heap.size w w'
theorem GetsT.empty {w w':World} {e:Ending} {n c:Int} (he:e= .returned (.tuple #[.slice none 0 0,.int .i64 n,.int .i64 c])) (hb:Below w.heap.size w w'):GetsT ([],n,c) w e w':=
 ⟨_,[],he,rfl,OwnN.nil _ _,hb⟩
theorem Copy_at (v:Value) (L:List LockC) (w:World) (N:Nat) (hN:L.length=N) (h:RdK w v L) (h5:L.length<=1000) (h6: ∀x∈L,x.line.length<=1000):
  Calls Tryz.prog 36 #[v] w (fun e w'=> ∃a c M,e= .returned (.slice a N c)/\M.length=N/\vals M=vals L/\OwnD w.heap.size w' (.slice a N c) M/\Below w.heap.size w w'):=by
 refine(CopyK_any v L w h h5 h6).mono ?_
 rintro e w' ⟨u,M,rfl,hv,ho,hb⟩
 have hl:M.length=N:=by rw[<-hN,<-vals_length M,hv,vals_length]
 obtain⟨a,c,rfl⟩:=Rw.own_form ho.row
 rw[hl] at ho
 exact⟨a,c,M,by rw[hl],hl,hv,ho,hb⟩
theorem Find_at (a:Option Addr) (N c:Nat) (M:List LockC) (n:List UInt8) (w:World) (r:Int) (hr:idxI (isNm n) (vals M)=r) (h:RdX 4 cellsK w (.slice a N c) M):
  Calls Tryz.prog 170 #[.slice a N c,.string (bstr n)] w (fun e w'=>e= .returned (.int .i64 r)/\w'=w):=by
 rw[<-hr]
 exact FindLock_any _ M n w h
theorem getK_nat (l:List LockV) (k:Nat) (h:k<l.length):getK l (k:Int)=l[k]:=by
 unfold getK
 simp [List.getD,h]
theorem ownK_line {w:World} {base g n cap:Nat} {M:List LockC} (h:w.ownsRow base 71 4 (.slice (some ⟨g,0,none⟩) n cap) n (flatX cellsK M)) (k:Nat) (hk:k<M.length) (l:List Int) (a:Option Addr) (c:Nat):
  (w.setCell ⟨g,k*4+3,none⟩ (.slice a l.length c)).ownsRow base 71 4 (.slice (some ⟨g,0,none⟩) n cap) n (flatX cellsK (M.set k ⟨M[k].name,M[k].holder,M[k].token,l,a,c⟩)):=by
 have h1:=(h.stored (k*4+3) (.slice a l.length c)).1
 rw[flatX_set cellsK_length 3 (.slice a l.length c) (by omega) ⟨M[k].name,M[k].holder,M[k].token,l,a,c⟩ M k hk rfl] at h1
 exact h1
theorem ownK_at {w:World} {base g n cap:Nat} {M:List LockC} (h:w.ownsRow base 71 4 (.slice (some ⟨g,0,none⟩) n cap) n (flatX cellsK M)) (hn:M.length=n) (k:Nat) (hk:k<M.length):
  w.cell? ⟨g,k*4,none⟩=some (.string (bstr M[k].name))/\w.cell? ⟨g,k*4+1,none⟩=some (.int .i64 M[k].holder)/\w.cell? ⟨g,k*4+2,none⟩=some (.int .i64 M[k].token)/\w.cell? ⟨g,k*4+3,none⟩=some M[k].lv /\ ∀j,w.frozen? ⟨g,j,none⟩=false:=by
 have a0:=h.cellAt (k*4+0) (by omega)
 have a1:=h.cellAt (k*4+1) (by omega)
 have a2:=h.cellAt (k*4+2) (by omega)
 have a3:=h.cellAt (k*4+3) (by omega)
 rw[flatX_get cellsK_length M k hk 0 (by omega)] at a0
 rw[flatX_get cellsK_length M k hk 1 (by omega)] at a1
 rw[flatX_get cellsK_length M k hk 2 (by omega)] at a2
 rw[flatX_get cellsK_length M k hk 3 (by omega)] at a3
 exact⟨a0,a1,a2,a3,fun j=>h.frozenAt j⟩
theorem own_k {base:Nat} {w:World} {a:Option Addr} {N c:Nat} {M L:List LockC} (ho:OwnD base w (.slice a N c) M) (hM:M.length=N) (hv:vals M=vals L) (k:Nat) (hk:k<L.length):
  ∃g ya yc,a=some ⟨g,0,none⟩/\base<=g/\(∃hk':k<M.length,M[k]=⟨L[k].name,L[k].holder,L[k].token,L[k].line,ya,yc⟩)/\
   w.cell? ⟨g,k*4,none⟩=some (.string (bstr L[k].name))/\w.cell? ⟨g,k*4+1,none⟩=some (.int .i64 L[k].holder)/\w.cell? ⟨g,k*4+2,none⟩=some (.int .i64 L[k].token)/\w.cell? ⟨g,k*4+3,none⟩=some (.slice ya L[k].line.length yc)/\
   (∀j,w.frozen? ⟨g,j,none⟩=false)/\w.ownsRow base 3 1 (.slice ya L[k].line.length yc) L[k].line.length (flatX cellsI L[k].line):=by
 have hl:M.length=L.length:=by rw[<-vals_length M,hv,vals_length]
 have hr:=hM ▸ ho.row
 obtain⟨g,rfl,hg⟩:=own_some (sz:=4) hr (by omega)
 have hk':k<M.length:=by omega
 have e1:=vals_get M k hk' (by rw[vals_length];omega)
 have e2:=vals_get L k hk (by rw[vals_length];omega)
 have e3:(vals M)[k]'(by rw[vals_length];omega)=(vals L)[k]'(by rw[vals_length];omega):=by simp [hv]
 rw[e1,e2] at e3
 obtain⟨q0,q1,q2,q3,qf⟩:=ownK_at hr hM k hk'
 have hli:=ho.line _ (List.getElem_mem hk')
 generalize hx:M[k]=x at e3 q0 q1 q2 q3 hli
 obtain⟨xn,xh,xt,xl,xa,xc⟩:=x
 unfold LockC.val at e3
 injection e3 with n1 n2 n3 n4
 dsimp only at n1 n2 n3 n4
 subst n1 n2 n3 n4
 exact⟨g,xa,xc,rfl,hg,⟨hk',hx⟩,q0,q1,q2,q3,qf,hli⟩
theorem own_set_other {w:World} {b1 b2 s1 s2 n1 n2 cap:Nat} {e1 e2:TypeId} {v:Value} {xs ys:List Value} {g:Nat} (h:w.ownsRow b1 e1 s1 (.slice (some ⟨g,0,none⟩) n1 cap) n1 xs) (h2:w.ownsRow b2 e2 s2 v n2 ys) (hne:e1≠e2) (j:Nat) (u:Value):
  (w.setCell ⟨g,j,none⟩ u).ownsRow b2 e2 s2 v n2 ys:=
 Rw.own_keep h2 fun g' hg'=>Below.heap_setCell w ⟨g,j,none⟩ u g' fun q=>own_types h h2 hne g rfl (by rw[hg'];exact congrArg some q)
theorem OwnD.set_line {base:Nat} {w1 w2 w5:World} {g N c1:Nat} {M:List LockC} (ho:OwnD base w1 (.slice (some ⟨g,0,none⟩) N c1) M) (hM:M.length=N) (k:Nat) (hk:k<M.length) (hb:Below w1.heap.size w1 w2)
  (hg:w2.grownBy w5 M[k].lv.ownBlock) (l:List Int) (a:Option Addr) (c:Nat) (hl:w5.ownsRow base 3 1 (.slice a l.length c) l.length (flatX cellsI l)):
  OwnN base (w5.setCell ⟨g,k*4+3,none⟩ (.slice a l.length c)) (.slice (some ⟨g,0,none⟩) N c1) (M.set k ⟨M[k].name,M[k].holder,M[k].token,l,a,c⟩):=by
 subst hM
 have ho2:=ho.later hb
 have hr5:=Rw.own_other ho2.row hg (own_types (ho2.line _ (List.getElem_mem hk)) ho2.row (by decide))
 refine⟨?_,fun x hx=>?_⟩
 ·rw[List.length_set]
  exact ownK_line hr5 k hk l a c
 ·obtain⟨j,hj,e⟩:=List.getElem_of_mem hx
  rw[List.length_set] at hj
  rw[List.getElem_set] at e
  split at e
  ·subst e
   exact NewI.own (own_set_other hr5 hl (by decide) _ _)
  ·rename_i hne
   subst e
   have hl2:=ho2.line _ (List.getElem_mem hj)
   have hap:Rw.Apart M[k].lv M[j].lv :=by
    have hp:=List.pairwise_iff_getElem.1 ho.sep
    rcases Nat.lt_or_ge k j with q | q
    ·exact hp k j hk hj q
    ·exact(hp j k hj hk (by omega)).symm
   exact NewI.own (own_set_other hr5 (Rw.own_other hl2 hg hap) (by decide) _ _)
theorem join_facts {w w1 w2 w5:World} {g N c1:Nat} {M L:List LockC} {xn:List UInt8} {xh xt:Int} {xl:List Int} {ya:Option Addr} {yc:Nat} (ho:OwnD w.heap.size w1 (.slice (some ⟨g,0,none⟩) N c1) M) (hM:M.length=N) (hV:vals M=vals L) (k:Nat)
  (hMk: ∃hk:k<M.length,M[k]=⟨xn,xh,xt,xl,ya,yc⟩) (hb:Below w.heap.size w w1) (hgw:w.heap.size<=g) (h12:Below w1.heap.size w1 w2) (hg5:w2.grownBy w5 (Value.slice ya xl.length yc).ownBlock)
  (l:List Int) (za:Option Addr) (zc:Nat) (ho5:w5.ownsRow w.heap.size 3 1 (.slice za l.length zc) l.length (flatX cellsI l)):
  (∃u,w5.cell? ⟨g,k*4+3,none⟩=some u)/\w5.frozen? ⟨g,k*4+3,none⟩=false/\
   ∀p q:Int,GetsT ((vals L).set k ⟨xn,xh,xt,l⟩,p,q) w (.returned (.tuple #[.slice (some ⟨g,0,none⟩) N c1,.int .i64 p,.int .i64 q])) (w5.setCell ⟨g,k*4+3,none⟩ (.slice za l.length zc)):=by
 obtain⟨hk,hMk⟩:=hMk
 have hlv:M[k].lv = .slice ya xl.length yc:=by rw[hMk];rfl
 have ho2:=ho.later h12
 have hly:=ho2.line _ (List.getElem_mem hk)
 have hg5':w2.grownBy w5 M[k].lv.ownBlock :=by rw[hlv];exact hg5
 have hr5:=Rw.own_other ho2.row hg5' (own_types hly ho2.row (by decide))
 rw[hM] at hr5
 obtain⟨-, -, -,p3,pf⟩:=ownK_at hr5 hM k hk
 refine⟨⟨_,p3⟩,pf _,fun p q=>⟨_,_,rfl,?_,ho.set_line hM k hk h12 hg5' l za zc ho5,?_⟩⟩
 ·rw[vals_set,hV,hMk]
  rfl
 ·refine(Below.grown (hb.trans (h12.mono hb.size)) hg5' (Nat.le_trans hb.size h12.size) (fun b hb'=>(Rw.own_lt hly b hb').1)).setCell hgw _
section
variable (v : Value) (L : List LockC) (n : List UInt8) (c t : Int) (wt : Bool) (w : World)

set_option maxHeartbeats 4000000 in
theorem Take_full (h:RdK w v L) (h5:L.length<=1000) (h6: ∀x∈L,x.line.length<=1000) (hi:idxI (isNm n) (vals L)= -1) (h4:4<=L.length):
  Calls Tryz.prog 125 #[v,.string (bstr n),.int .i64 c,.int .i64 t,.bool wt] w (GetsT ([],0,5) w):=by
 obtain⟨N,hN⟩: ∃N,L.length=N:=⟨_,rfl⟩
 have CC:=hid (Copy_at v L w N hN h h5 h6)
 have HI:=hid hi
 have hm:=h.len
 rw[hN] at h4 hm
 have d4:decide ((4:Int)<=(N:Int))=true:=by simp;omega
 clear h h5 h6 hi hN
 go_enter Tryz.func125,Tryz.ntmps125
 go_wp2_with (first
  | (go_at_call 36;refine CC.out.mono ?_;rintro e w1 ⟨a1,c1,M,rfl,hM,hv,ho,hb⟩;have HF:=hid (Find_at a1 N c1 M n w1 (-1) (by rw[hv];exact HI.out) ho.rd.row);have HB:=hid hb;clear ho hb hv)
  | (go_at_call 170;refine HF.out.mono ?_;rintro e w2 ⟨rfl,rfl⟩))
 refine bodyPost_ret (by simp [results,Tryz.results125,go_sem]<;>rfl) rfl ?_
 exact GetsT.empty rfl HB.out
set_option maxHeartbeats 4000000 in
theorem Take_twice (k:Nat) (hk:k<L.length) (h:RdK w v L) (h5:L.length<=1000) (h6: ∀x∈L,x.line.length<=1000) (hi:idxI (isNm n) (vals L)=(k:Int)) (hc:L[k].holder =c):
  Calls Tryz.prog 125 #[v,.string (bstr n),.int .i64 c,.int .i64 t,.bool wt] w (GetsT ([],0,7) w):=by
 obtain⟨N,hN⟩: ∃N,L.length=N:=⟨_,rfl⟩
 have CC:=hid (Copy_at v L w N hN h h5 h6)
 have HI:=hid hi
 have hm:=h.len
 have hxl:=h6 _ (List.getElem_mem hk)
 have HK:=hid (fun(a:Option Addr) (c:Nat) (M:List LockC) (w':World) (ho:OwnD w.heap.size w' (.slice a N c) M) (hM:M.length=N) (hv:vals M=vals L)=>own_k ho hM hv k hk)
 have cc:(L[k].holder ==c)=true:=by simpa using hc
 clear hc
 rw[hN] at hm hk
 clear h h5 h6 hi hN
 generalize L[k]=x at*
 obtain⟨xn,xh,xt,xl,xa,xc⟩:=x
 dsimp only at*
 go_enter Tryz.func125,Tryz.ntmps125
 have f1:(0:Int)<=(k:Int):=by omega
 have f2:(k:Int)<(N:Int):=by omega
 go_wp2_with (first
  | (go_at_call 36;refine CC.out.mono ?_;rintro e w1 ⟨a1,c1,M,rfl,hM,hv,ho,hb⟩;have HF:=hid (Find_at a1 N c1 M n w1 k (by rw[hv];exact HI.out) ho.rd.row);obtain⟨g,ya,yc,rfl,hg,hMk,q0,q1,q2,q3,qf,hly⟩:=HK.out _ _ _ _ ho hM hv;have HO:=hid ho;have HMk:=hid hMk;have HLY:=hid hly;have HB:=hid hb;have HV:=hid hv;clear ho hb hv hly hMk)
  | (go_at_call 170;refine HF.out.mono ?_;rintro e w2 ⟨rfl,rfl⟩))
 refine bodyPost_ret (by simp [results,Tryz.results125,go_sem]<;>rfl) rfl ?_
 exact GetsT.empty rfl HB.out
set_option maxHeartbeats 4000000 in
theorem Take_busy (k:Nat) (hk:k<L.length) (h:RdK w v L) (h5:L.length<=1000) (h6: ∀x∈L,x.line.length<=1000) (hi:idxI (isNm n) (vals L)=(k:Int)) (hc:L[k].holder ≠c) (hw:wt=false):
  Calls Tryz.prog 125 #[v,.string (bstr n),.int .i64 c,.int .i64 t,.bool wt] w (GetsT ([],0,8) w):=by
 obtain⟨N,hN⟩: ∃N,L.length=N:=⟨_,rfl⟩
 have CC:=hid (Copy_at v L w N hN h h5 h6)
 have HI:=hid hi
 have hm:=h.len
 have hxl:=h6 _ (List.getElem_mem hk)
 have HK:=hid (fun(a:Option Addr) (c:Nat) (M:List LockC) (w':World) (ho:OwnD w.heap.size w' (.slice a N c) M) (hM:M.length=N) (hv:vals M=vals L)=>own_k ho hM hv k hk)
 have cc:(L[k].holder ==c)=false:=by simpa using hc
 clear hc
 subst hw
 rw[hN] at hm hk
 clear h h5 h6 hi hN
 generalize L[k]=x at*
 obtain⟨xn,xh,xt,xl,xa,xc⟩:=x
 dsimp only at*
 go_enter Tryz.func125,Tryz.ntmps125
 have f1:(0:Int)<=(k:Int):=by omega
 have f2:(k:Int)<(N:Int):=by omega
 go_wp2_with (first
  | (go_at_call 36;refine CC.out.mono ?_;rintro e w1 ⟨a1,c1,M,rfl,hM,hv,ho,hb⟩;have HF:=hid (Find_at a1 N c1 M n w1 k (by rw[hv];exact HI.out) ho.rd.row);obtain⟨g,ya,yc,rfl,hg,hMk,q0,q1,q2,q3,qf,hly⟩:=HK.out _ _ _ _ ho hM hv;have HO:=hid ho;have HMk:=hid hMk;have HLY:=hid hly;have HB:=hid hb;have HV:=hid hv;clear ho hb hv hly hMk)
  | (go_at_call 170;refine HF.out.mono ?_;rintro e w2 ⟨rfl,rfl⟩))
 refine bodyPost_ret (by simp [results,Tryz.results125,go_sem]<;>rfl) rfl ?_
 exact GetsT.empty rfl HB.out
set_option maxHeartbeats 4000000 in
theorem Take_waits (k:Nat) (hk:k<L.length) (h:RdK w v L) (h5:L.length<=1000) (h6: ∀x∈L,x.line.length<=1000) (hi:idxI (isNm n) (vals L)=(k:Int)) (hc:L[k].holder ≠c) (hw:wt=true) (p:Int) (ha:aheadL L[k].line c=(p,true)):
  Calls Tryz.prog 125 #[v,.string (bstr n),.int .i64 c,.int .i64 t,.bool wt] w (GetsT (vals L,p,10) w):=by
 obtain⟨N,hN⟩: ∃N,L.length=N:=⟨_,rfl⟩
 have CC:=hid (Copy_at v L w N hN h h5 h6)
 have HI:=hid hi
 have hm:=h.len
 have hxl:=h6 _ (List.getElem_mem hk)
 have HK:=hid (fun(a:Option Addr) (c:Nat) (M:List LockC) (w':World) (ho:OwnD w.heap.size w' (.slice a N c) M) (hM:M.length=N) (hv:vals M=vals L)=>own_k ho hM hv k hk)
 have cc:(L[k].holder ==c)=false:=by simpa using hc
 clear hc
 subst hw
 have HA:=hid ha
 clear ha
 rw[hN] at hm hk
 clear h h5 h6 hi hN
 generalize L[k]=x at*
 obtain⟨xn,xh,xt,xl,xa,xc⟩:=x
 dsimp only at*
 go_enter Tryz.func125,Tryz.ntmps125
 have f1:(0:Int)<=(k:Int):=by omega
 have f2:(k:Int)<(N:Int):=by omega
 go_wp2_with (first
  | (go_at_call 36;refine CC.out.mono ?_;rintro e w1 ⟨a1,c1,M,rfl,hM,hv,ho,hb⟩;have HF:=hid (Find_at a1 N c1 M n w1 k (by rw[hv];exact HI.out) ho.rd.row);obtain⟨g,ya,yc,rfl,hg,hMk,q0,q1,q2,q3,qf,hly⟩:=HK.out _ _ _ _ ho hM hv;have HO:=hid ho;have HMk:=hid hMk;have HLY:=hid hly;have HB:=hid hb;have HV:=hid hv;clear ho hb hv hly hMk)
  | (go_at_call 170;refine HF.out.mono ?_;rintro e w2 ⟨rfl,rfl⟩)
  | (go_at_call 171;refine(Ahead_any _ xl c _ (RdX.own cellsI_length HLY.out)).mono ?_;rw[HA.out];rintro e w2 ⟨rfl,rfl⟩))
 refine bodyPost_ret (by simp [results,Tryz.results125,go_sem]<;>rfl) rfl ?_
 exact⟨_,M,rfl,HV.out,HO.out.n,HB.out⟩
set_option maxHeartbeats 4000000 in
theorem Take_line (k:Nat) (hk:k<L.length) (h:RdK w v L) (h5:L.length<=1000) (h6: ∀x∈L,x.line.length<=1000) (hi:idxI (isNm n) (vals L)=(k:Int)) (hc:L[k].holder ≠c) (hw:wt=true) (p:Int) (ha:aheadL L[k].line c=(p,false)) (h3:3<=L[k].line.length):
  Calls Tryz.prog 125 #[v,.string (bstr n),.int .i64 c,.int .i64 t,.bool wt] w (GetsT ([],0,5) w):=by
 obtain⟨N,hN⟩: ∃N,L.length=N:=⟨_,rfl⟩
 have CC:=hid (Copy_at v L w N hN h h5 h6)
 have HI:=hid hi
 have hm:=h.len
 have hxl:=h6 _ (List.getElem_mem hk)
 have HK:=hid (fun(a:Option Addr) (c:Nat) (M:List LockC) (w':World) (ho:OwnD w.heap.size w' (.slice a N c) M) (hM:M.length=N) (hv:vals M=vals L)=>own_k ho hM hv k hk)
 have cc:(L[k].holder ==c)=false:=by simpa using hc
 clear hc
 subst hw
 have HA:=hid ha
 clear ha
 have d3:decide ((3:Int)<=(L[k].line.length :Int))=true:=by simp;omega
 rw[hN] at hm hk
 clear h h5 h6 hi hN
 generalize L[k]=x at*
 obtain⟨xn,xh,xt,xl,xa,xc⟩:=x
 dsimp only at*
 go_enter Tryz.func125,Tryz.ntmps125
 have f1:(0:Int)<=(k:Int):=by omega
 have f2:(k:Int)<(N:Int):=by omega
 go_wp2_with (first
  | (go_at_call 36;refine CC.out.mono ?_;rintro e w1 ⟨a1,c1,M,rfl,hM,hv,ho,hb⟩;have HF:=hid (Find_at a1 N c1 M n w1 k (by rw[hv];exact HI.out) ho.rd.row);obtain⟨g,ya,yc,rfl,hg,hMk,q0,q1,q2,q3,qf,hly⟩:=HK.out _ _ _ _ ho hM hv;have HO:=hid ho;have HMk:=hid hMk;have HLY:=hid hly;have HB:=hid hb;have HV:=hid hv;clear ho hb hv hly hMk)
  | (go_at_call 170;refine HF.out.mono ?_;rintro e w2 ⟨rfl,rfl⟩)
  | (go_at_call 171;refine(Ahead_any _ xl c _ (RdX.own cellsI_length HLY.out)).mono ?_;rw[HA.out];rintro e w2 ⟨rfl,rfl⟩))
 refine bodyPost_ret (by simp [results,Tryz.results125,go_sem]<;>rfl) rfl ?_
 exact GetsT.empty rfl HB.out
set_option maxHeartbeats 4000000 in
theorem Take_join (k:Nat) (hk:k<L.length) (h:RdK w v L) (h5:L.length<=1000) (h6: ∀x∈L,x.line.length<=1000) (hi:idxI (isNm n) (vals L)=(k:Int)) (hc:L[k].holder ≠c) (hw:wt=true) (p:Int) (ha:aheadL L[k].line c=(p,false)) (h3: ¬3<=L[k].line.length):
  Calls Tryz.prog 125 #[v,.string (bstr n),.int .i64 c,.int .i64 t,.bool wt] w (GetsT ((vals L).set k ⟨L[k].name,L[k].holder,L[k].token,L[k].line ++ [c]⟩,L[k].line.length,10) w):=by
 obtain⟨N,hN⟩: ∃N,L.length=N:=⟨_,rfl⟩
 have CC:=hid (Copy_at v L w N hN h h5 h6)
 have HI:=hid hi
 have hm:=h.len
 have HK:=hid (fun(a:Option Addr) (c:Nat) (M:List LockC) (w':World) (ho:OwnD w.heap.size w' (.slice a N c) M) (hM:M.length=N) (hv:vals M=vals L)=>own_k ho hM hv k hk)
 have cc:(L[k].holder ==c)=false:=by simpa using hc
 clear hc
 subst hw
 have HA:=hid ha
 clear ha
 have d3:decide ((3:Int)<=(L[k].line.length :Int))=false:=by simp;omega
 have h3':L[k].line.length <=2:=by omega
 rw[hN] at hm hk
 have HL2:=hid hN
 clear h h5 h6 hi hN h3
 have HX:Hid (∃x,x=L[k]'(by rw[HL2.out];exact hk)):=hid ⟨_,rfl⟩
 generalize L[k]'(by rw[HL2.out];exact hk)=x at*
 obtain⟨xn,xh,xt,xl,xa,xc⟩:=x
 dsimp only at*
 obtain⟨i0,hi,hz0,hz1,hz2⟩:=info_parts infoN
 go_enter Tryz.func125,Tryz.ntmps125
 have f1:(0:Int)<=(k:Int):=by omega
 have f2:(k:Int)<(N:Int):=by omega
 go_wp2_with (first
  | (go_at_call 36;refine CC.out.mono ?_;rintro e w1 ⟨a1,c1,M,rfl,hM,hv,ho,hb⟩;have HF:=hid (Find_at a1 N c1 M n w1 k (by rw[hv];exact HI.out) ho.rd.row);obtain⟨g,ya,yc,rfl,hg,hMk,q0,q1,q2,q3,qf,hly⟩:=HK.out _ _ _ _ ho hM hv;have HO:=hid ho;have HMk:=hid hMk;have HLY:=hid hly;have HB:=hid hb;have HV:=hid hv;have q3':=((newAlloc w1 (.cells #[.int .i64 c] 3)).cell (p:=⟨g,k*4+3,none⟩) (lt_of_cell q3)).trans q3;clear ho hb hv hly hMk)
  | (go_at_call 170;refine HF.out.mono ?_;rintro e w2 ⟨rfl,rfl⟩)
  | (go_at_call 171;refine(Ahead_any _ xl c _ (RdX.own cellsI_length HLY.out)).mono ?_;rw[HA.out];rintro e w2 ⟨rfl,rfl⟩)
  | (at_builtin;refine wpList_append_one_gr cellsI_length (by omega) rfl (.tmp 114) (.tmp 116) 69 rfl 3 i0 _ 8 Tryz.underlying69 hi hz0 hz1 hz2 rfl #[.int .i64 c] c rfl (cellsI_one _) xl w.heap.size _ rfl rfl HLY.out (by unfold maxLen;omega) (by omega) HB.out.size ?_;intro v5 w5 ho5 hg5 _;obtain⟨za,zc,rfl⟩:=Rw.own_form ho5;obtain⟨⟨u5,p3⟩,pf3,hfin⟩:=join_facts HO.out hM HV.out k HMk.out HB.out hg (newAlloc _ _) hg5 (xl++ [c]) za zc ho5;have HFIN:=hid hfin;clear hfin ho5 hg5))
 refine bodyPost_ret (by simp [results,Tryz.results125,go_sem]<;>rfl) rfl ?_
 have hf:=HFIN.out xl.length 10
 rw[List.length_append,List.length_singleton] at hf
 exact hf
end
end Cm
end Go.Proofs.YtlnbmblbeaodcaaGreat
