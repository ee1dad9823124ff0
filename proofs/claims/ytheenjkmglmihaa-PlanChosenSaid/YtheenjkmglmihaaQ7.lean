/- Texts laid together by program. -/
import Derived.Test.YtheenjkmglmihaaQ6
import Derived.Lib.QuietBelow
/- hasTwins, newest, batchOf; batch.Walk and the document's. -/
set_option linter.unusedVariables false
set_option maxRecDepth 8000
set_option linter.unusedSimpArgs false
namespace Go.Proofs.Ytheenjkmglmihaa
open Lib (hid)
open Go.RowKit
namespace Pl
open Cm Ac

def twinsF:List PromV->Bool
 | x::y::l=>decide (x.who=y.who) || twinsF (y::l)
 | _=>false
theorem twinsF_step (l:List PromV) (i:Nat) (h0:0<i) (h:i<l.length):twinsF (l.drop (i - 1))=(decide (l[i - 1].who =l[i].who) || twinsF (l.drop i)):=by
 rw[List.drop_eq_getElem_cons (by omega:i - 1<l.length),show i - 1+1=i by omega,List.drop_eq_getElem_cons h,twinsF,<-List.drop_eq_getElem_cons h]
theorem twinsF_end (l:List PromV) (i:Nat) (h:l.length<=i):twinsF (l.drop (i - 1))=false:=by
 have:(l.drop (i - 1)).length <=1:=by simp;omega
 match l.drop (i - 1),this with
 | [],_=>rfl
 | [x],_=>rfl
 | _::_::_,h=>simp at h
set_option maxHeartbeats 4000000 in
theorem hasTwins_any (v:Value) (L:List PromC) (w:World) (h:RdX 6 cellsP w v L) (h0:0<L.length):Calls Try.prog 27 #[v] w (SaysB (twinsF (valsP L)) w):=by
 have hm:=h.len
 have hl0:=valsP_length L
 obtain⟨a,cap,rfl⟩:=h.form
 obtain⟨_,_,hv,hlc,hcm, -⟩:=h.ex
 cases hv
 have HA:=hid (fun i hi=>rdp_at h i hi)
 have HD:=hid (fun i h0 hi=>twinsF_step (valsP L) i h0 hi)
 have HE:=hid (fun i hi=>twinsF_end (valsP L) i hi)
 have HG:=hid (fun i (hi:i<L.length) hi'=>congrArg PromV.who (valsP_get L i hi hi'))
 have HZ:=hid (show twinsF (valsP L)=twinsF ((valsP L).drop (1 - 1)) from rfl)
 clear h
 generalize valsP L=V at HD HE HG HZ hl0 ⊢
 obtain⟨N,hN⟩: ∃N,L.length=N:=⟨_,rfl⟩
 have HN:=hid hN
 rw[hN] at hm hl0 h0 hlc ⊢
 clear hN
 have HV:=hid hl0
 clear hl0
 go_enter Try.func27,Try.ntmps27
 go_wp2
 go_loopw [3,4] (fun i t wr=> ∃j:Nat,1<=j/\j<=N/\i= .int .i64 j/\Hid (Below w.heap.size w wr)/\Hid (twinsF V=twinsF (V.drop (j - 1)))) (fun i _ _=>N - (intOf i).toNat)
 case atStart=>exact⟨1,by omega,h0,by go_num,hid (Below.refl _ _),HZ⟩
 case round=>
  obtain⟨j,hj1,hj,rfl,HB,ha⟩:=hrel
  by_cases hlt:j<N
  ·have hjl:j<L.length:=by rw[HN.out];exact hlt
   have hjl2:j - 1<L.length:=by omega
   have hjv:j<V.length:=by rw[HV.out];exact hlt
   have hd:=HD.out j (by omega) hjv
   rw[HG.out j hjl hjv,HG.out (j - 1) hjl2 (by omega)] at hd
   obtain⟨b,o,rfl,hc⟩:=HA.out j hjl
   obtain⟨q0, -⟩:=hc _ HB.out
   obtain⟨b',o',e',hc'⟩:=HA.out (j - 1) hjl2
   cases e'
   obtain⟨r0, -⟩:=hc' _ HB.out
   unfold PromC.val at hd
   dsimp only at hd
   clear hc hc'
   obtain⟨y,hy⟩: ∃y,L[j].who =y:=⟨_,rfl⟩
   obtain⟨x,hx⟩: ∃x,L[j - 1].who =x:=⟨_,rfl⟩
   rw[hy] at q0 hd
   rw[hx] at r0 hd
   clear hx hy
   obtain⟨J,hJ⟩: ∃J,j - 1=J:=⟨_,rfl⟩
   rw[hJ] at r0
   have ew:IntKind.i64.wrap ((j:Int) - 1)=(J:Int):=by rw[IntKind.wrap_i64];omega
   have hJN:J<N:=by omega
   have HD2:=hid hd
   have HJJ:=hid hJ
   have HDK:=hid (show decide (x=y)=true->twinsF V=true from fun q=>by rw[ha.out,HD2.out];simp only[decide_eq_true_eq] at q;simp [q])
   have HDL:=hid (show ¬x=y->twinsF V=twinsF (V.drop j) from fun q=>by rw[ha.out,HD2.out];simp [q])
   clear hd hJ HD2 hjl hjl2 hjv
   by_cases k:x=y
   ·have d:(x==y)=true:=by simpa using k
    have K:=hid (HDK.out (decide_eq_true k))
    clear k
    go_upto_region 4 with fail
    go_quiet (fail)
    go_wp2
    go_ret
    exact⟨by rw[K.out];rfl,below_drewB HB.out nq⟩
   ·have d:(x==y)=false:=by simpa using k
    have K:=hid (HDL.out k)
    clear k
    go_upto_region 4 with fail
    go_quiet (fail)
    go_wp2
    go_roundw
    case rel=>exact⟨j+1,by omega,by omega,by go_num,hid (below_drewB HB.out nq),hid (by rw[K.out];rfl)⟩
    case measure=>simp [intOf];omega
  ·obtain rfl:j=N:=by omega
   go_wp2
   go_ret
   exact⟨by rw[ha.out,HE.out _ (by rw[HV.out];exact Nat.le_refl _)];rfl,HB.out⟩
def newC (p:PromC):List PromC->PromC
 | []=>p
 | x::l=>newC (if p.done<x.done then x else p) l
theorem newC_val (p:PromC): ∀l,(newC p l).val =newF p.val (valsP l)
 | []=>rfl
 | x::l=>by
  rw[newC]
  show _=newF p.val (x.val::valsP l)
  rw[newF,newC_val _ l]
  show newF (if p.done<x.done then x else p).val _=newF (if p.done<x.done then x.val else p.val) _
  split<;>rfl
theorem newC_mem: ∀(l:List PromC) (p:PromC),newC p l=p\/newC p l∈l
 | [],p=>.inl rfl
 | x::l,p=>by
  rw[newC]
  rcases newC_mem l (if p.done<x.done then x else p) with e | e
  ·rw[e]
   split
   ·exact .inr List.mem_cons_self
   ·exact .inl rfl
  ·exact .inr (List.mem_cons_of_mem _ e)
theorem newC_step (p:PromC) (l:List PromC) (i:Nat) (h:i<l.length):newC p (l.drop i)=newC (if p.done<l[i].done then l[i] else p) (l.drop (i+1)):=by
 rw[List.drop_eq_getElem_cons h,newC]
structure BoxP (w:World) (b:Nat) (p:PromC):Prop where
 ex:w.heap[b]?=some (promObj p)
section
variable {w w' : World} {b g : Nat} {p : PromC}
theorem BoxP.lt (h:BoxP w b p):b<w.heap.size:=get_ltB h.ex
theorem BoxP.later (h:BoxP w b p) (hb:Below w.heap.size w w'):BoxP w' b p:=⟨cells_later h.ex hb⟩
theorem BoxP.gr (h:BoxP w b p) (hg:w.grownBy w' (some g)) (hne:b≠g):BoxP w' b p:=⟨(hg.block _ h.lt (fun q=>hne (by cases q;rfl))).trans h.ex⟩
theorem BoxP.c (h:BoxP w b p):w.cell? ⟨b,0,none⟩=some (.int .i64 p.who)/\w.cell? ⟨b,1,none⟩=some (.int .i64 p.done)/\w.cell? ⟨b,2,none⟩=some (.int .i64 p.tv)/\w.cell? ⟨b,3,none⟩=some (.int .i64 p.ts)/\w.cell? ⟨b,4,none⟩=some (.int .i64 p.time)/\w.cell? ⟨b,5,none⟩=some p.u:=
 ⟨cell_at h.ex 0,cell_at h.ex 1,cell_at h.ex 2,cell_at h.ex 3,cell_at h.ex 4,cell_at h.ex 5⟩
theorem BoxP.f (h:BoxP w b p) (k:Nat):w.frozen? ⟨b,k,none⟩=false:=frozen_at h.ex k
theorem BoxP.new (w:World) (p:PromC) (b:Nat) (hb:w.heap.size=b):BoxP (w.alloc (promObj p)) b p:=⟨alloc_atB w _ _ hb⟩
def putP (w:World) (b:Nat) (y:PromC):World:=(((((w.setCell ⟨b,0,none⟩ (.int .i64 y.who)).setCell ⟨b,1,none⟩ (.int .i64 y.done)).setCell ⟨b,2,none⟩ (.int .i64 y.tv)).setCell ⟨b,3,none⟩ (.int .i64 y.ts)).setCell ⟨b,4,none⟩ (.int .i64 y.time)).setCell ⟨b,5,none⟩ y.u
theorem BoxP.put (h:BoxP w b p) (y:PromC):BoxP (putP w b y) b y:=by
 refine⟨?_⟩
 unfold putP
 rw[set_atB (set_atB (set_atB (set_atB (set_atB (set_atB h.ex _ _) _ _) _ _) _ _) _ _) _ _]
 rfl
theorem grown_putP (w:World) (b:Nat) (y:PromC):w.grownBy (putP w b y) (some b):=by
 have g1: ∀(w:World) (j:Nat) (u:Value),w.grownBy (w.setCell ⟨b,j,none⟩ u) (some b):=fun w j u=>
  ⟨rfl,rfl,rfl,by simp,fun k hk hne=>Below.heap_setCell _ _ _ _ (fun q=>hne (by rw[show k=b from q]))⟩
 exact(((((g1 w _ _).trans (g1 _ _ _)).trans (g1 _ _ _)).trans (g1 _ _ _)).trans (g1 _ _ _)).trans (g1 _ _ _)
theorem below_putP {B:Nat} {a:World} (h:Below B a w) (hb:B<=b) (y:PromC):Below B a (putP w b y):=
 (((((h.setCell (p:=⟨b,0,none⟩) hb _).setCell (p:=⟨b,1,none⟩) hb _).setCell (p:=⟨b,2,none⟩) hb _).setCell (p:=⟨b,3,none⟩) hb _).setCell (p:=⟨b,4,none⟩) hb _).setCell (p:=⟨b,5,none⟩) hb _
end

set_option maxHeartbeats 4000000 in
theorem newest_any (v:Value) (p:PromC) (l:List PromC) (w:World) (h:RdX 6 cellsP w v (p::l)):Calls Try.prog 28 #[v] w (fun e w'=>e= .returned (promVal (newC p l))/\Below w.heap.size w w'):=by
 have hm:=h.len
 obtain⟨a,cap,rfl⟩:=h.form
 obtain⟨_,_,hv,hlc,hcm, -⟩:=h.ex
 cases hv
 have HA:=hid (fun i hi=>rdp_at h i hi)
 obtain⟨b0,o0,ha0,hc0⟩:=rdp_at h 0 (by simp)
 have HSt:=hid (newC_step)
 clear h
 obtain⟨N,hN⟩: ∃N,(p::l).length =N:=⟨_,rfl⟩
 have HN:=hid (show l.length+1=N from hN)
 have h0:0<N:=by rw[<-hN];simp
 rw[hN] at hm hlc ⊢
 clear hN
 obtain⟨q0,q1,q2,q3,q4,q5⟩:=hc0 (w.alloc (.cells #[.int .i64 0,.int .i64 0,.int .i64 0,.int .i64 0,.int .i64 0,.slice none 0 0] 29)) (newAlloc _ _)
 simp only[Nat.zero_mul,Nat.add_zero] at q0 q1 q2 q3 q4 q5
 clear hc0
 subst ha0
 obtain⟨M,hM⟩: ∃M,N - 1=M:=⟨_,rfl⟩
 have HM:=hid (show l.length=M by have:=HN.out;omega)
 have e1:(N:Int) - 1=(M:Int):=by omega
 obtain⟨P,hP⟩: ∃P,P=p:=⟨_,rfl⟩
 have hPP:=hid hP
 rw[<-hP] at q0 q1 q2 q3 q4 q5
 clear hP
 obtain⟨pw,pd,pv,ps,pt,pl,pa,pc⟩:=P
 unfold PromC.u at q5
 simp only[List.getElem_cons_zero] at q0 q1 q2 q3 q4 q5
 have h1N:1<=N:=h0
 have hba:=newAlloc w (.cells #[.int .i64 0,.int .i64 0,.int .i64 0,.int .i64 0,.int .i64 0,.slice none 0 0] 29)
 have HZ0:Hid (BoxP (w.alloc (.cells #[.int .i64 0,.int .i64 0,.int .i64 0,.int .i64 0,.int .i64 0,.slice none 0 0] 29)) w.heap.size ⟨0,0,0,0,0,[],none,0⟩):=hid (BoxP.new w ⟨0,0,0,0,0,[],none,0⟩ _ rfl)
 go_enter Try.func28,Try.ntmps28
 go_upto_region 2 with fail
 have hbb:=stepAlloc hba (.cells #[.int .i64 pw,.int .i64 pd,.int .i64 pv,.int .i64 ps,.int .i64 pt,.slice pa pl.length pc] 29)
 have HZ1:=hid (HZ0.out.later (newAlloc _ (.cells #[.int .i64 pw,.int .i64 pd,.int .i64 pv,.int .i64 ps,.int .i64 pt,.slice pa pl.length pc] 29)))
 have HP1:Hid (BoxP ((w.alloc (.cells #[.int .i64 0,.int .i64 0,.int .i64 0,.int .i64 0,.int .i64 0,.slice none 0 0] 29)).alloc (.cells #[.int .i64 pw,.int .i64 pd,.int .i64 pv,.int .i64 ps,.int .i64 pt,.slice pa pl.length pc] 29)) (w.heap.size+1) ⟨pw,pd,pv,ps,pt,pl,pa,pc⟩):=hid (BoxP.new _ ⟨pw,pd,pv,ps,pt,pl,pa,pc⟩ _ (by simp))
 generalize (w.alloc (.cells #[.int .i64 0,.int .i64 0,.int .i64 0,.int .i64 0,.int .i64 0,.slice none 0 0] 29)).alloc (.cells #[.int .i64 pw,.int .i64 pd,.int .i64 pv,.int .i64 ps,.int .i64 pt,.slice pa pl.length pc] 29)=W at hbb HZ1 HP1 ⊢
 have HB0:=hid hbb
 clear hba hbb HZ0 q0 q1 q2 q3 q4 q5
 rw[hPP.out] at HP1
 clear hPP
 by_cases hcp:cap=1
 ·have hl0:l= []:=List.length_eq_zero_iff.1 (by have:=HN.out;omega)
  subst hcp
  obtain rfl:N=1:=by omega
  obtain rfl:M=0:=by omega
  subst hl0
  clear hM e1
  go_wp2
  go_loopw [5,12] (fun y i wr=>i= .int .i64 0/\wr=W) (fun _ _ _=>0)
  case atStart=>exact⟨rfl,rfl⟩
  case round=>
   obtain⟨rfl,rfl⟩:=hrel
   have HP:=HP1
   have HZ:=HZ1
   have HB:=HB0
   obtain⟨X,hX⟩: ∃X,X=p:=⟨_,rfl⟩
   have EX:Hid (newC p []=X):=hid hX.symm
   rw[<-hX] at HP
   clear hX
   obtain⟨m0,m1,m2,m3,m4,m5⟩:=HP.out.c
   obtain⟨z0,z1,z2,z3,z4,z5⟩:=HZ.out.c
   have zf:=HZ.out.f
   unfold PromC.u at m5 z5
   dsimp only[List.length_nil] at z0 z1 z2 z3 z4 z5
   have HBF:=hid (below_putP HB.out (Nat.le_refl _) X)
   unfold putP PromC.u at HBF
   go_wp2
   refine bodyPost_ret (by simp [results,Try.results28,go_sem,z0,z1,z2,z3,z4,z5]<;>rfl) rfl ⟨by rw[EX.out];rfl,HBF.out⟩
 go_wp2
 go_loopw [5,12] (fun y i wr=> ∃(k:Nat) (X:PromC),k<=M/\i= .int .i64 k/\Hid (newC p l=newC X (l.drop k))/\Hid (BoxP wr (w.heap.size+1) X)/\Hid (BoxP wr w.heap.size ⟨0,0,0,0,0,[],none,0⟩)/\Hid (Below w.heap.size w wr)) (fun _ i _=>M - (intOf i).toNat)
 case atStart=>exact⟨0,p,by omega,rfl,hid rfl,HP1,HZ1,HB0⟩
 case round=>
  obtain⟨k,X,hk,rfl,HX,HP,HZ,HB⟩:=hrel
  by_cases hlt:k<M
  case neg=>
   obtain rfl:k=M:=by omega
   have EX:Hid (newC p l=X):=hid (by rw[HX.out,List.drop_eq_nil_of_le (by rw[HM.out];exact Nat.le_refl _)];rfl)
   obtain⟨m0,m1,m2,m3,m4,m5⟩:=HP.out.c
   obtain⟨z0,z1,z2,z3,z4,z5⟩:=HZ.out.c
   have zf:=HZ.out.f
   unfold PromC.u at m5 z5
   dsimp only[List.length_nil] at z0 z1 z2 z3 z4 z5
   have HBF:=hid (below_putP HB.out (Nat.le_refl _) X)
   unfold putP PromC.u at HBF
   go_wp2
   refine bodyPost_ret (by simp [results,Try.results28,go_sem,z0,z1,z2,z3,z4,z5]<;>rfl) rfl ⟨by rw[EX.out];rfl,HBF.out⟩
  have hkl:k<l.length:=by rw[HM.out];exact hlt
  have hkp:k+1<(p::l).length :=by simp;omega
  obtain⟨b',o',e',hc⟩:=HA.out (k+1) hkp
  cases e'
  have hst:=HSt.out X l k hkl
  obtain⟨q0,q1,q2,q3,q4,q5⟩:=hc _ HB.out
  simp only[List.getElem_cons_succ] at q0 q1 q2 q3 q4 q5
  obtain⟨y,hy⟩: ∃y,l[k]=y:=⟨_,rfl⟩
  rw[hy] at hst q0 q1 q2 q3 q4 q5
  clear hc hy HSt HA
  have eo0: ∀z:Nat,z+(k+1)*6=z+6+k*6:=fun z=>by omega
  rw[eo0] at q0 q1 q2 q3 q4 q5
  clear eo0
  have hk0:(0:Int)<=(k:Int):=by omega
  have hk1:(k:Int)<(M:Int):=by omega
  have HP2:=hid (HP.out.later (newAlloc wr (promObj y)))
  have HZ2:=hid (HZ.out.later (newAlloc wr (promObj y)))
  have HB2:=hid (stepAlloc HB.out (promObj y))
  have HY2:=hid (BoxP.new wr y _ rfl)
  obtain⟨m0,m1,m2,m3,m4,m5⟩:=HP2.out.c
  obtain⟨r0,r1,r2,r3,r4,r5⟩:=HY2.out.c
  have mf:=HP2.out.f
  have HPY:=hid (HP2.out.put y)
  have HZY:=hid (HZ2.out.gr (g:=w.heap.size+1) (grown_putP _ _ y) (by omega))
  have HBY:=hid (below_putP HB2.out (show w.heap.size<=w.heap.size+1 by omega) y)
  unfold promObj at m0 m1 m2 m3 m4 m5 r0 r1 r2 r3 r4 r5 mf HP2 HZ2 HB2 HY2 HPY HZY HBY
  unfold putP at HPY HZY HBY
  unfold PromC.u at m0 m1 m2 m3 m4 m5 r0 r1 r2 r3 r4 r5 mf HP2 HZ2 HB2 HPY HZY HBY q5
  have HST:=hid hst
  clear hst hkl hkp
  by_cases c:X.done<y.done
  ·have d:decide (X.done<y.done)=true:=decide_eq_true c
   have HST2:Hid (newC p l=newC y (l.drop (k+1))):=hid (by rw[HX.out,HST.out,if_pos c])
   clear c
   go_wp2
   go_roundw
   case rel=>exact⟨k+1,y,by omega,by go_num,HST2,HPY,HZY,HBY⟩
   case measure=>simp [intOf];omega
  ·have d:decide (X.done<y.done)=false:=decide_eq_false c
   have HST2:Hid (newC p l=newC X (l.drop (k+1))):=hid (by rw[HX.out,HST.out,if_neg c])
   clear c
   go_wp2
   go_roundw
   case rel=>exact⟨k+1,X,by omega,by go_num,HST2,HP2,HZ2,HB2⟩
   case measure=>simp [intOf];omega
end Pl
end Go.Proofs.Ytheenjkmglmihaa

/- Of promises that may be: their votes; twins; the greatest Done. No program is named here. -/
set_option linter.unusedVariables false
set_option maxRecDepth 8000
set_option linter.unusedSimpArgs false
namespace Go.Proofs.Ytheenjkmglmihaa
open Lib (hid)
open Go.RowKit
namespace Pl
open Cm Ac

structure VoteOk (d:Int) (v:VoteV):Prop where
 low:d<v.slot
 most:v.slot<=d+9
 high:v.slot<=2305843009213693952
 b0:0<=v.ballot
 b1:v.ballot<=2305843009213693952
 may:mayB v.bat=true
theorem voteOk_iff {d b:Int} {v:VoteV} :voteOk d b v=true ↔ b<v.slot/\v.slot<=d+9/\v.slot<=2305843009213693952/\0<=v.ballot/\v.ballot<=2305843009213693952/\mayB v.bat=true:=by
 unfold voteOk highF
 simp only[Bool.and_eq_true,decide_eq_true_eq]
 constructor
 ·rintro ⟨⟨⟨⟨h1,h2⟩,h3⟩,h4,h5⟩,h6⟩
  exact⟨h1,h2,h3,h4,h5,h6⟩
 ·rintro ⟨h1,h2,h3,h4,h5,h6⟩
  exact⟨⟨⟨⟨h1,h2⟩,h3⟩,h4,h5⟩,h6⟩
theorem mayVs_all {d:Int} : ∀(l:List VoteV) (b:Int),d<=b->mayVs d b l=true->(∀v∈l,VoteOk d v/\b<v.slot)/\l.Pairwise fun x y=>x.slot<y.slot
 | [],_,_,_=>⟨fun v hv=>(by cases hv),List.Pairwise.nil⟩
 | x::l,b,hb,h=>by
  rw[mayVs,Bool.and_eq_true,voteOk_iff] at h
  obtain⟨⟨h1,h2,h3,h4,h5,h6⟩,h7⟩:=h
  obtain⟨i1,i2⟩:=mayVs_all l x.slot (by omega) h7
  refine⟨fun v hv=>?_,List.pairwise_cons.2 ⟨fun v hv=>(i1 v hv).2,i2⟩⟩
  rcases List.mem_cons.1 hv with rfl | hv
  ·exact⟨⟨by omega,h2,h3,h4,h5,h6⟩,h1⟩
  ·obtain⟨j1,j2⟩:=i1 v hv
   exact⟨j1,by omega⟩
structure PromOk (p:PromV):Prop where
 w0:0<=p.who
 w7:p.who<7
 d0:0<=p.done
 d1:p.done<=2305843009213693952
 n9:p.votes.length<=9
 votes: ∀v∈p.votes,VoteOk p.done v
 rise:p.votes.Pairwise fun x y=>x.slot<y.slot
theorem mayP_ok {p:PromV} (h:mayP p=true):PromOk p:=by
 unfold mayP headP highF at h
 simp only[Bool.and_eq_true,decide_eq_true_eq] at h
 obtain⟨⟨⟨⟨⟨⟨h1,h2⟩,h3,h4⟩, -⟩, -⟩,h5⟩,h6⟩:=h
 obtain⟨i1,i2⟩:=mayVs_all p.votes p.done (Int.le_refl _) h6
 exact⟨h1,h2,h3,h4,h5,fun v hv=>(i1 v hv).1,i2⟩
theorem mayB_few {x:BatV} (h:mayB x=true):x.reqs.length<=3:=by
 unfold mayB at h
 split at h
 ·simp only[Bool.and_eq_true,decide_eq_true_eq] at h
  omega
 ·unfold reqsF at h
  simp only[Bool.and_eq_true,decide_eq_true_eq] at h
  omega
theorem twins_iff: ∀l:List PromV,l.Pairwise (fun a b=>a.who<=b.who)->(twinsF l=false ↔ l.Pairwise fun a b=>a.who≠b.who)
 | [],_=>by simp [twinsF]
 | [x],_=>by simp [twinsF]
 | x::y::l,h=>by
  obtain⟨h1,h2⟩:=List.pairwise_cons.1 h
  rw[twinsF,Bool.or_eq_false_iff,twins_iff (y::l) h2,decide_eq_false_iff_not,@List.pairwise_cons _ _ x]
  constructor
  ·rintro ⟨q1,q2⟩
   refine⟨fun z hz=>?_,q2⟩
   have hxy:=h1 y List.mem_cons_self
   rcases List.mem_cons.1 hz with rfl | hz
   ·exact q1
   ·have:=(List.pairwise_cons.1 h2).1 z hz
    omega
  ·rintro ⟨q1,q2⟩
   exact⟨q1 y List.mem_cons_self,q2⟩
theorem twins_ok {l:List PromV} (h: ∀x∈l,mayP x=true):twinsF (sortP l)= !okS [] l:=by
 have hs:=twins_iff (sortP l) (sortP_rise l)
 have hp:(sortP l).Pairwise (fun a b=>a.who≠b.who) ↔ l.Pairwise fun a b=>a.who≠b.who:=(sortP_perm l).pairwise_iff (fun {a b} r e=>r e.symm)
 have ho:=okS_iff l []
 cases q:okS [] l
 ·cases q2:twinsF (sortP l)
  ·rw[ho.2 ⟨h,hp.1 (hs.1 q2),fun x _ y hy=>by cases hy⟩] at q
   cases q
  ·rfl
 ·exact hs.2 (hp.2 (ho.1 q).2.1)
theorem newF_most: ∀(l:List PromV) (p x:PromV),x∈p::l->x.done<=(newF p l).done
 | [],p,x,h=>by
  rw[List.mem_singleton] at h
  rw[h]
  exact Int.le_refl _
 | y::l,p,x,h=>by
  rw[newF]
  rcases List.mem_cons.1 h with rfl | h
  ·refine Int.le_trans ?_ (newF_most l _ _ List.mem_cons_self)
   split<;>omega
  ·rcases List.mem_cons.1 h with rfl | h
   ·refine Int.le_trans ?_ (newF_most l _ _ List.mem_cons_self)
    split<;>omega
   ·exact newF_most l _ x (List.mem_cons_of_mem _ h)
theorem newF_mem: ∀(l:List PromV) (p:PromV),newF p l∈p::l
 | [],p=>List.mem_cons_self
 | y::l,p=>by
  rw[newF]
  have:=newF_mem l (if p.done<y.done then y else p)
  rcases List.mem_cons.1 this with e | e
  ·rw[e]
   split
   ·exact List.mem_cons_of_mem _ List.mem_cons_self
   ·exact List.mem_cons_self
  ·exact List.mem_cons_of_mem _ (List.mem_cons_of_mem _ e)
theorem stepB_len (d:Int) (s:BestV) (v:VoteV):(stepB d s v).row.length =s.row.length:=by
 unfold stepB
 split
 ·show(s.row.set _ _).length = _
  rw[List.length_set]
 ·rfl
theorem votesB_len (d:Int): ∀(l:List VoteV) (s:BestV),(votesB d s l).row.length =s.row.length
 | [],s=>rfl
 | v::l,s=>(votesB_len d l (stepB d s v)).trans (stepB_len d s v)
theorem bestB_len (d:Int): ∀(l:List PromV) (s:BestV),(bestB d s l).row.length =s.row.length
 | [],s=>rfl
 | p::l,s=>(bestB_len d l (votesB d s p.votes)).trans (votesB_len d p.votes s)
theorem batsF_len (l:List PromV) (d:Int):(batsF l d).length <=9:=by
 unfold batsF
 rw[List.length_map,List.length_take,bestB_len]
 show min _ (List.replicate 9 zeroV).length <=9
 rw[List.length_replicate]
 omega
end Pl
end Go.Proofs.Ytheenjkmglmihaa
