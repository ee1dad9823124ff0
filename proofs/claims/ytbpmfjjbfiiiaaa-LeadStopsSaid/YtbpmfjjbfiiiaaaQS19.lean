/- Texts laid together by program. -/
import Derived.Test.YtbpmfjjbfiiiaaaQS16
import Derived.Test.YtbpmfjjbfiiiaaaQS17
import Derived.Test.YtbpmfjjbfiiiaaaQS18
/- The document's MakePlan. -/
set_option linter.unusedVariables false
set_option maxRecDepth 8000
set_option linter.unusedSimpArgs false
namespace Go.Proofs.Ytbpmfjjbfiiiaaa
open Lib (hid)
open List (getElem_toArray getElem_cons_succ getElem_cons_zero setIfInBounds_toArray set_cons_zero set_cons_succ)
open Go.RowKit
namespace Pl
open Cm Ac

structure BoxR (w:World) (b:Nat) (d t s m:Int) (u:Value) (e f l:Int):Prop where
 ex:w.heap[b]?=some (.cells #[.int .i64 d,.int .i64 t,.int .i64 s,.int .i64 m,u,.int .i64 e,.int .i64 f,.int .i64 l] 31)
section
variable {w w' : World} {b g : Nat} {d t s m e f l : Int} {u : Value}
theorem BoxR.lt (h:BoxR w b d t s m u e f l):b<w.heap.size:=get_ltB h.ex
theorem BoxR.later (h:BoxR w b d t s m u e f l) (hb:Below w.heap.size w w'):BoxR w' b d t s m u e f l:=⟨cells_later h.ex hb⟩
theorem BoxR.gr (h:BoxR w b d t s m u e f l) (hg:w.grownBy w' (some g)) (hne:b≠g):BoxR w' b d t s m u e f l:=⟨(hg.block _ h.lt (fun q=>hne (by cases q;rfl))).trans h.ex⟩
theorem BoxR.c (h:BoxR w b d t s m u e f l):w.cell? ⟨b,0,none⟩=some (.int .i64 d)/\w.cell? ⟨b,1,none⟩=some (.int .i64 t)/\w.cell? ⟨b,2,none⟩=some (.int .i64 s)/\w.cell? ⟨b,3,none⟩=some (.int .i64 m)/\w.cell? ⟨b,4,none⟩=some u/\w.cell? ⟨b,5,none⟩=some (.int .i64 e)/\w.cell? ⟨b,6,none⟩=some (.int .i64 f)/\w.cell? ⟨b,7,none⟩=some (.int .i64 l):=
 ⟨cell_at h.ex 0,cell_at h.ex 1,cell_at h.ex 2,cell_at h.ex 3,cell_at h.ex 4,cell_at h.ex 5,cell_at h.ex 6,cell_at h.ex 7⟩
theorem BoxR.fz (h:BoxR w b d t s m u e f l) (k:Nat):w.frozen? ⟨b,k,none⟩=false:=frozen_at h.ex k
theorem BoxR.one (h:BoxR w b d t s m u e f l) (u':Value):BoxR (w.setCell ⟨b,4,none⟩ u') b d t s m u' e f l:=by
 refine⟨?_⟩
 rw[set_atB h.ex _ _]
 simp only[setIfInBounds_toArray,set_cons_zero,set_cons_succ]
theorem BoxR.two {e' f':Int} (h:BoxR w b d t s m u e' f' l):BoxR ((w.setCell ⟨b,5,none⟩ (.int .i64 e)).setCell ⟨b,6,none⟩ (.int .i64 f)) b d t s m u e f l:=by
 refine⟨?_⟩
 rw[set_atB (set_atB h.ex _ _) _ _]
 simp only[setIfInBounds_toArray,set_cons_zero,set_cons_succ]
theorem BoxR.last {l':Int} (h:BoxR w b d t s m u e f l'):BoxR (w.setCell ⟨b,7,none⟩ (.int .i64 l)) b d t s m u e f l:=by
 refine⟨?_⟩
 rw[set_atB h.ex _ _]
 simp only[setIfInBounds_toArray,set_cons_zero,set_cons_succ]
theorem grown_two:w.grownBy ((w.setCell ⟨b,5,none⟩ (.int .i64 e)).setCell ⟨b,6,none⟩ (.int .i64 f)) (some b):=(grown_set1 w b _ _).trans (grown_set1 _ b _ _)
theorem own_set {base n sz:Nat} {v:Value} {xs:List Value} {cs:Array Value} {ty et:TypeId} (h:w.ownsRow base et sz v n xs) (hg:w.grownBy w' (some b)) (hx:w.heap[b]?=some (.cells cs ty)) (n1:et≠ty):w'.ownsRow base et sz v n xs:=
 Rw.own_keep h fun k hk=>hg.block k (Rw.own_lt h k hk).2 (fun q=>by cases q;exact ho_ne h hx n1 hk)
end

theorem step_append_own {P:Program} {w:World} {ops:Array Oper} {o:Oper} {a:Act} {K:Act->World->Prop} {Q:Exit->Act->World->Prop} {E:Prop} (hgd:o.guard=none) (s x:Operand) (t:TypeId)
  (ho:o.op= .call { callee:=.builtin .append,args:=#[s,x],argTypes:=#[t,t] })
  (base:Nat) (e:TypeId) (i:TypeInfo) (z:Value) (size bytes:Nat) (ht:P.underlying t=some (.slice e)) (hi:P.info? e=some i) (hz:i.zero=some z)
  (hsize:i.size=size) (hby:i.bytes=bytes) (hzs:z.cells.size=size) (hsz:0<size)
  (v:Value) (n:Nat) (xs:List Value) (hs:a.eval s=v) (hown:w.ownsRow base e size v n xs)
  (ad:Addr) (m c:Nat) (news:List Value) (hx:a.eval x= .slice (some ad) m c) (hl:news.length=m*size) (hnews: ∀j u,news[j]?=some u->w.cell? (ad.add j)=some u) (h1: ∀u∈news,u.oneCell'=true)
  (h63:n+m<=maxLen) (hbytes:(n+m)*bytes<=140737488355328) (hbase:base<=w.heap.size)
  (h: ∀v' w',w'.ownsRow base e size v' (n+m) (xs++news)->w.grownBy w' v.ownBlock->(v'= .slice none 0 0 ↔ v= .slice none 0 0/\m=0)->K (a.put o.dst v') w'):
  if Region.wanted o (yielded ops a.tmps)=true then Oper.wp P o a w K Q else E:=by
 have hw:Region.wanted o (yielded ops a.tmps)=true:=by simp [Region.wanted,hgd]
 rw[if_pos hw]
 exact wp_append_own w s x t ho base e i z size bytes ht hi hz hsize hby hzs hsz v n xs hs hown ad m c news hx hl hnews h1 h63 hbytes hbase h
def GivesQP (P:BatC->Prop) (r:PlanV × Int) (w:World) (e:Ending) (w':World):Prop:=
 ∃va,∃vc,∃Lb:List BatC,e= .returned (.tuple #[planVal r.1 (.slice va Lb.length vc),.int .i64 r.2])/\valsB Lb=r.1.bats/\RdB w' (.slice va Lb.length vc) Lb/\Below w.heap.size w w'/\(∀x∈Lb,P x)/\w'.ownsRow w.heap.size 42 6 (.slice va Lb.length vc) Lb.length (flatX cellsB Lb)
set_option maxHeartbeats 16000000 in
theorem MakePlan_anyP (v:Value) (L:List PromC) (w:World) (h:RdP w v L) (hN:L.length<=12) (P:BatC->Prop) (hP0:P ⟨fillB,none,0⟩) (hP: ∀p∈L,∀x∈p.votes,P ⟨x.bat,x.ua,x.uc⟩):
  Calls Try.prog 29 #[v] w (GivesQP P (makeR (valsP L)) w):=by
 obtain⟨a,cap,rfl⟩:=h.form
 obtain⟨_,_,hv,hlc,hcm, -⟩:=h.row.ex
 cases hv
 have hb0:=newAlloc w (.cells #[.int .i64 0,.int .i64 0,.int .i64 0,.int .i64 0,.slice none 0 0,.int .i64 0,.int .i64 0,.int .i64 0] 31)
 have hx0:BoxR _ w.heap.size 0 0 0 0 (.slice none 0 0) 0 0 0:=⟨alloc_atB w (.cells #[.int .i64 0,.int .i64 0,.int .i64 0,.int .i64 0,.slice none 0 0,.int .i64 0,.int .i64 0,.int .i64 0] 31) _ rfl⟩
 have HB0:=hid hb0
 have HX0:=hid hx0
 have hl0:=valsP_length L
 unfold GivesQP
 by_cases hz:L.length=0
 ·have HE:Hid (makeR (valsP L)=(zeroL,6)):=hid (by unfold makeR;rw[hl0,if_pos hz])
  rw[HE.out]
  clear h hl0
  generalize L.length=N at*
  subst hz
  obtain⟨c0,c1,c2,c3,c4,c5,c6,c7⟩:=hx0.c
  have cf:=hx0.fz
  clear hb0 hx0
  go_enter Try.func29,Try.ntmps29
  go_wp2
  refine bodyPost_ret (by simp [results,Try.results29,go_sem,c0,c1,c2,c3,c4,c5,c6,c7]<;>rfl) rfl ⟨none,0,[],rfl,rfl,RdB.nil _,HB0.out,(fun x hx=>by cases hx),World.ownsRow_nil _ _ _ _⟩
 have h0:0<L.length:=by omega
 clear hz hb0 hx0
 have HL0:=hid h0
 have HN12:=hid hN
 have HA:=hid (fun i hi=>rdp_at h.row i hi)
 have HR:=hid h.votes
 have HG:=hid (fun i (hi:i<L.length) hi'=>valsP_get L i hi hi')
 have CH0:=hid (fun t W (hb:Below w.heap.size w W)=>highest_any _ L t W (h.later hb) (by omega) (fun y=>RdR w y.u y.bat.reqs/\P y) ⟨RdX.nil w,hP0⟩ (fun p hp x hx=>⟨(h.votes p hp).reqs x hx,hP p hp x hx⟩))
 clear h
 obtain⟨V0,hV⟩: ∃V,valsP L=V:=⟨_,rfl⟩
 rw[hV] at HG hl0 CH0 ⊢
 have HVV:=hid hV
 clear hV
 obtain⟨N,hn⟩: ∃N,L.length=N:=⟨_,rfl⟩
 have HN:=hid hn
 rw[hn] at hlc hl0 h0 hN CH0 ⊢
 have HV:=hid hl0
 clear hn hl0
 have HBAD:Hid (okS [] V0=false->makeR V0=(zeroL,1)):=hid (fun q=>by unfold makeR;rw[if_neg (by rw[HV.out];omega),if_pos q])
 have HGOOD:Hid (okS [] V0=true->makeR V0=(planR V0,0)):=hid (fun q=>by unfold makeR;rw[if_neg (by rw[HV.out];omega),if_neg (by rw[q];decide)])
 have HOK:=hid (fun i hi=>okS_step V0 i hi)
 have HVG:Hid (∀i (hi:i<L.length) (hi':i<V0.length),V0[i].who =L[i].who):=hid (fun i hi hi'=>by rw[HG.out i hi hi'];rfl)
 have h0':((N:Int)==0)=false:=by simp;omega
 go_enter Try.func29,Try.ntmps29
 go_upto_region 3 with fail
 generalize w.alloc (.cells #[.int .i64 0,.int .i64 0,.int .i64 0,.int .i64 0,.slice none 0 0,.int .i64 0,.int .i64 0,.int .i64 0] 31)=W0 at HB0 HX0 ⊢
 go_wp2
 go_loopw [3,4,5,19] (fun _ i _ _ wr=> ∃j:Nat,j<=N/\i= .int .i64 (j:Int)/\Hid (Below w.heap.size w wr)/\Hid (BoxR wr w.heap.size 0 0 0 0 (.slice none 0 0) 0 0 0)/\Hid (okS [] V0=okS (V0.take j) (V0.drop j))) (fun _ i _ _ _=>N - (intOf i).toNat)
 case atStart=>exact⟨0,by omega,rfl,HB0,HX0,hid rfl⟩
 case round=>
  obtain⟨j,hj,rfl,HB,HX,HM⟩:=hrel
  by_cases hlt:j<N
  case pos=>
   have hjl:j<L.length:=by rw[HN.out];exact hlt
   have hjv:j<V0.length:=by rw[HV.out];exact hlt
   obtain⟨b,o,rfl,hc⟩:=HA.out j hjl
   obtain⟨q0,q1,q2,q3,q4,q5⟩:=hc _ HB.out
   have hr:=HR.out L[j] (mem_get hjl)
   have hst:=HOK.out j hjv
   rw[HG.out j hjl hjv] at hst
   have hwj:=HVG.out j hjl hjv
   obtain⟨p,hp⟩: ∃p,L[j]=p:=⟨_,rfl⟩
   have hcc: ∀wx,Below w.heap.size w wx->wx.cell? ⟨b,o+j*6,none⟩=some (.int .i64 p.who):=fun wx hb=>by rw[<-hp];exact(hc wx hb).1
   rw[hp] at q0 q1 q2 q3 q4 q5 hr hst hwj
   have HHW:Hid (∀k (hk:k<j) (hl:k<L.length),L[k].who =p.who->hasW (V0.take j) p.who=true):=hid (fun k hk hl e=>(hasW_mem _ _).2 ⟨V0[k]'(by omega),by
    rw[List.mem_take_iff_getElem]
    exact⟨k,by omega,rfl⟩,by rw[HVG.out k hl (by omega)];exact e⟩)
   have HNW:Hid ((∀k (hl:k<L.length),k<j->L[k].who ≠p.who)->hasW (V0.take j) p.who=false):=hid (fun hq=>by
    cases q:hasW (V0.take j) p.who
    ·rfl
    ·obtain⟨y,hy,hyw⟩:=(hasW_mem _ _).1 q
     rw[List.mem_take_iff_getElem] at hy
     obtain⟨k,hk,rfl⟩:=hy
     have hk':k<j:=by omega
     have hl:k<L.length:=by omega
     rw[HVG.out k hl (by omega)] at hyw
     exact absurd hyw (hq k hl hk'))
   clear hc hp hwj
   have CM:=hid (fun W (hb:Below w.heap.size w W)=>MayPromise_any p W (hr.later hb))
   generalize mayP p.val=MB at CM hst
   have HST:=hid hst
   have hpw:p.val.who=p.who:=rfl
   rw[hpw] at HST
   clear hpw hst hr
   have hj0:(0:Int)<=(j:Int):=by omega
   have hj1:(j:Int)<(N:Int):=by omega
   obtain⟨pw,pd,pv,ps,pt,pl,pa,pc⟩:=p
   unfold PromC.u at q5
   unfold promVal PromC.u at CM
   dsimp only at q0 q1 q2 q3 q4 q5 CM HST HHW HNW hcc
   have HCC:=hid hcc
   clear hcc hjl hjv
   generalize pl.length=pn at*
   cases MB
   case false=>
    have HE:=hid (HBAD.out (by rw[HM.out,HST.out];rfl))
    go_upto_region 7 with (go_at_call 43;refine(CM.out _ HB.out).mono ?_;rintro e w2 ⟨rfl,hb2⟩;have HB2:=hid (step HB.out hb2);have HX2:=hid (HX.out.later hb2);clear hb2)
    obtain⟨c0,c1,c2,c3,c4,c5,c6,c7⟩:=HX2.out.c
    have cf:=HX2.out.fz
    have HBF:=hid (below_putL (d:=0) (t:=0) (s:=0) (m:=0) (u:=.slice none 0 0) (e:=0) (f:=0) (l:=0) (b:=w.heap.size) HB2.out (Nat.le_refl _))
    unfold putL at HBF
    go_wp2
    refine bodyPost_ret (by simp [results,Try.results29,go_sem,c0,c1,c2,c3,c4,c5,c6,c7]<;>rfl) rfl ⟨none,0,[],by rw[HE.out];rfl,by rw[HE.out];rfl,RdB.nil _,HBF.out,(fun x hx=>by cases hx),World.ownsRow_nil _ _ _ _⟩
   go_upto_region 8 with (go_at_call 43;refine(CM.out _ HB.out).mono ?_;rintro e w2 ⟨rfl,hb2⟩;have HB2:=hid (step HB.out hb2);have HX2:=hid (HX.out.later hb2);clear hb2)
   clear q0 q1 q2 q3 q4 q5 CM
   obtain⟨wo,rfl⟩: ∃wo,wo=wr:=⟨_,rfl⟩
   go_wp2
   go_loopw [3,5,32] (fun _ i _ wr=> ∃k:Nat,k<=j/\i= .int .i64 (k:Int)/\Hid (Below w.heap.size w wr)/\Hid (BoxR wr w.heap.size 0 0 0 0 (.slice none 0 0) 0 0 0)/\Hid (∀k' (hl:k'<L.length),k'<k->L[k'].who ≠pw)) (fun _ i _ _=>j - (intOf i).toNat)
   case atStart=>exact⟨0,by omega,rfl,HB2,HX2,hid (fun k' hl q=>absurd q (by omega))⟩
   case round=>
    obtain⟨k,hk,rfl,HBI,HXI,HQ⟩:=hrel
    by_cases hlk:k<j
    case neg=>
     obtain rfl:k=j:=by omega
     have HNX:Hid (okS [] V0=okS (V0.take (k+1)) (V0.drop (k+1))):=hid (by rw[HM.out,HST.out,HNW.out HQ.out];simp)
     go_wp2
     go_roundw
     case rel=>exact⟨k+1,by omega,by go_num,HBI,HXI,HNX⟩
     case measure=>simp [intOf];omega
    have hkl:k<L.length:=by rw[HN.out];omega
    obtain⟨b2,o2,e2,hc2⟩:=HA.out k hkl
    cases e2
    obtain⟨r0, -⟩:=hc2 _ HBI.out
    have s0:=HCC.out _ HBI.out
    obtain⟨y,hy⟩: ∃y,L[k].who =y:=⟨_,rfl⟩
    rw[hy] at r0
    have hkN:k<N:=by omega
    have HYB:Hid (y=pw->makeR V0=(zeroL,1)):=hid (fun e=>HBAD.out (by rw[HM.out,HST.out,HHW.out k hlk hkl (by rw[hy];exact e)];rfl))
    have HYN:Hid (y≠pw-> ∀k' (hl:k'<L.length),k'<k+1->L[k'].who ≠pw):=hid (fun e k' hl q=>by
     by_cases q2:k'=k
     ·subst q2
      rw[hy]
      exact e
     ·exact HQ.out k' hl (by omega))
    clear hc2 hy hkl
    by_cases c:y=pw
    ·have d:(y==pw)=true:=by simpa using c
     have HE:=hid (HYB.out c)
     obtain⟨c0,c1,c2,c3,c4,c5,c6,c7⟩:=(HXI.out.later (below_drewB (Below.refl _ _) 0)).c
     clear c c0 c1 c2 c3 c4 c5 c6 c7
     go_upto_region 11 with fail
     go_quiet (fail)
     have HBN:=hid (below_drewB HBI.out nq)
     have HXN:=hid (HXI.out.later (below_drewB (Below.refl _ _) nq))
     obtain⟨c0,c1,c2,c3,c4,c5,c6,c7⟩:=HXN.out.c
     have cf:=HXN.out.fz
     have HBF:=hid (below_putL (d:=0) (t:=0) (s:=0) (m:=0) (u:=.slice none 0 0) (e:=0) (f:=0) (l:=0) (b:=w.heap.size) HBN.out (Nat.le_refl _))
     unfold putL at HBF
     go_wp2
     refine bodyPost_ret (by simp [results,Try.results29,go_sem,c0,c1,c2,c3,c4,c5,c6,c7]<;>rfl) rfl ⟨none,0,[],by rw[HE.out];rfl,by rw[HE.out];rfl,RdB.nil _,HBF.out,(fun x hx=>by cases hx),World.ownsRow_nil _ _ _ _⟩
    ·have d:(y==pw)=false:=by simpa using c
     have HQ2:=hid (HYN.out c)
     clear c
     go_upto_region 11 with fail
     go_quiet (fail)
     go_wp2
     go_roundw
     case rel=>exact⟨k+1,by omega,by go_num,hid (below_drewB HBI.out nq),hid (HXI.out.later (below_drewB (Below.refl _ _) nq)),HQ2⟩
     case measure=>simp [intOf];omega
  obtain rfl:j=N:=by omega
  have hok:okS [] V0=true:=by rw[HM.out,List.drop_eq_nil_of_le (by rw[HV.out];exact Nat.le_refl _)];rfl
  have HE:=hid (HGOOD.out hok)
  have HALL:=hid ((okS_iff V0 []).1 hok).1
  clear hok hlt hj HM
  obtain⟨wo,rfl⟩: ∃wo,wo=wr:=⟨_,rfl⟩
  obtain⟨v0,r0,hvr⟩: ∃v0 r0,V0=v0::r0:=by
   have:0<V0.length:=by rw[HV.out];exact h0
   match V0,this with
   | x::l,_=>exact⟨x,l,rfl⟩
  have HBS:Hid (∀hl:0<V0.length,bestR v0 r0=bestR V0[0] (V0.drop 1)):=hid (fun hl=>by simp [hvr])
  have HPL:Hid (planR V0=(let x:=bestR v0 r0;let b:=batsR V0 x.done (lastR x.done V0 - x.done).toNat;let e:=walkF ⟨x.tv,x.ts,x.time⟩ (startF (x.done+1)) b;(⟨x.done,x.tv,x.ts,x.time,b,e.tv,e.ts,e.time⟩:PlanV))):=hid (by rw[hvr];rfl)
  have HBT:=hid (fun p i hi=>bestR_step p V0 i hi)
  have HLT:=hid (fun d i hi=>lastR_take d V0 i hi)
  have HCONS:=hid hvr
  clear hvr HOK
  go_wp2
  go_loopw [6,7,49] (fun bi i _ wr=> ∃(k bx:Nat),1<=k/\k<=j/\bx<j/\i= .int .i64 (k:Int)/\bi= .int .i64 (bx:Int)/\Hid (Below w.heap.size w wr)/\Hid (BoxR wr w.heap.size 0 0 0 0 (.slice none 0 0) 0 0 0)/\Hid (∀hl:bx<V0.length,bestR v0 r0=bestR V0[bx] (V0.drop k))) (fun _ i _ _=>j - (intOf i).toNat)
  case atStart=>exact⟨1,0,by omega,h0,h0,by go_num,by go_num,HB,HX,HBS⟩
  case round=>
   obtain⟨k,bx,hk1,hk,hbx,rfl,rfl,HB3,HX3,HS3⟩:=hrel
   have hbl:bx<L.length:=by rw[HN.out];exact hbx
   have hbv:bx<V0.length:=by rw[HV.out];exact hbx
   obtain⟨b,o,rfl,hc⟩:=HA.out bx hbl
   by_cases hlk:k<j
   case pos=>
    have hkl:k<L.length:=by rw[HN.out];exact hlk
    have hkv:k<V0.length:=by rw[HV.out];exact hlk
    obtain⟨q0,q1, -⟩:=hc _ HB3.out
    obtain⟨b',o',e',hc'⟩:=HA.out k hkl
    cases e'
    obtain⟨r0',r1', -⟩:=hc' _ HB3.out
    have hs:=HS3.out hbv
    rw[HBT.out _ k hkv] at hs
    have hb0:=HG.out bx hbl hbv
    have hk0:=HG.out k hkl hkv
    have HSB:Hid (∀hl:bx<V0.length,¬(L[bx].done <L[k].done \/L[k].done =L[bx].done /\L[k].who <L[bx].who)->bestR v0 r0=bestR V0[bx] (V0.drop (k+1))):=hid (fun hl hn=>by
     rw[hs]
     unfold pickP
     rw[if_neg (by rw[hb0,hk0];exact hn)])
    have HSK:Hid (∀hl:k<V0.length,(L[bx].done <L[k].done \/L[k].done =L[bx].done /\L[k].who <L[bx].who)->bestR v0 r0=bestR V0[k] (V0.drop (k+1))):=hid (fun hl hn=>by
     rw[hs]
     unfold pickP
     rw[if_pos (by rw[hb0,hk0];exact hn)])
    obtain⟨db,hdb⟩: ∃x,L[bx].done =x:=⟨_,rfl⟩
    obtain⟨wb,hwb⟩: ∃x,L[bx].who =x:=⟨_,rfl⟩
    obtain⟨dk,hdk⟩: ∃x,L[k].done =x:=⟨_,rfl⟩
    obtain⟨wk,hwk⟩: ∃x,L[k].who =x:=⟨_,rfl⟩
    rw[hdb] at q1 HSB HSK
    rw[hwb] at q0 HSB HSK
    rw[hdk] at r1' HSB HSK
    rw[hwk] at r0' HSB HSK
    clear hc hc' hs hb0 hk0 hdb hwb hdk hwk hbl hbv hkl hkv
    by_cases c1:db<dk
    ·have d1:decide (db<dk)=true:=decide_eq_true c1
     have HN3:Hid (∀hl:k<V0.length,bestR v0 r0=bestR V0[k] (V0.drop (k+1))):=hid (fun hl=>HSK.out hl (.inl c1))
     clear c1
     go_upto_region 17 with fail
     go_quiet (fail)
     go_wp2
     go_roundw
     case rel=>exact⟨k+1,k,by omega,by omega,by omega,by go_num,rfl,hid (below_drewB HB3.out nq),hid (HX3.out.later (below_drewB (Below.refl _ _) nq)),HN3⟩
     case measure=>simp [intOf];omega
    have d1:decide (db<dk)=false:=decide_eq_false c1
    by_cases c2:dk=db
    case neg=>
     have d2:(dk==db)=false:=by simpa using c2
     have HN3:Hid (∀hl:bx<V0.length,bestR v0 r0=bestR V0[bx] (V0.drop (k+1))):=hid (fun hl=>HSB.out hl (fun q=>q.elim c1 (fun r=>c2 r.1)))
     clear c1 c2
     go_upto_region 17 with fail
     go_quiet (fail)
     go_wp2
     go_roundw
     case rel=>exact⟨k+1,bx,by omega,by omega,by omega,by go_num,rfl,hid (below_drewB HB3.out nq),hid (HX3.out.later (below_drewB (Below.refl _ _) nq)),HN3⟩
     case measure=>simp [intOf];omega
    have d2:(dk==db)=true:=by simpa using c2
    by_cases c3:wk<wb
    ·have d3:decide (wk<wb)=true:=decide_eq_true c3
     have HN3:Hid (∀hl:k<V0.length,bestR v0 r0=bestR V0[k] (V0.drop (k+1))):=hid (fun hl=>HSK.out hl (.inr ⟨c2,c3⟩))
     clear c1 c2 c3
     go_upto_region 17 with fail
     go_quiet (fail)
     go_wp2
     go_roundw
     case rel=>exact⟨k+1,k,by omega,by omega,by omega,by go_num,rfl,hid (below_drewB HB3.out nq),hid (HX3.out.later (below_drewB (Below.refl _ _) nq)),HN3⟩
     case measure=>simp [intOf];omega
    have d3:decide (wk<wb)=false:=decide_eq_false c3
    have HN3:Hid (∀hl:bx<V0.length,bestR v0 r0=bestR V0[bx] (V0.drop (k+1))):=hid (fun hl=>HSB.out hl (fun q=>q.elim c1 (fun r=>c3 r.2)))
    clear c1 c2 c3
    go_upto_region 17 with fail
    go_quiet (fail)
    go_wp2
    go_roundw
    case rel=>exact⟨k+1,bx,by omega,by omega,by omega,by go_num,rfl,hid (below_drewB HB3.out nq),hid (HX3.out.later (below_drewB (Below.refl _ _) nq)),HN3⟩
    case measure=>simp [intOf];omega
   obtain rfl:k=j:=by omega
   have hbest:bestR v0 r0=L[bx].val :=by rw[HS3.out hbv,List.drop_eq_nil_of_le (by rw[HV.out];exact Nat.le_refl _),<-HG.out bx hbl hbv];rfl
   have hxm:L[bx].val ∈V0:=by rw[<-HVV.out];exact List.mem_map.2 ⟨L[bx],mem_get hbl,rfl⟩
   have hxo:=mayP_ok (HALL.out _ hxm)
   obtain⟨x,hx⟩: ∃x,L[bx]=x:=⟨_,rfl⟩
   rw[hx] at hbest hxm hxo hc
   clear hx
   have hfv: ∀p∈V0,∀v∈p.votes,v.slot<=x.done+9:=fun p hp v hv=>by
    have h1:=(mayP_ok (HALL.out p hp)).votes v hv
    have h2:p.done<=(bestR v0 r0).done :=bestR_most r0 v0 p (by rw[<-HCONS.out];exact hp)
    rw[hbest] at h2
    have h3:=h1.most
    have h4:p.done<=x.done:=h2
    omega
   have HLB:Hid (∀m,m<=V0.length->x.done<=lastR x.done (V0.take m)/\lastR x.done (V0.take m)<=x.done+9):=hid (fun m _=>lastR_bound x.done (x.done+9) (V0.take m) (by omega) (fun p hp=>hfv p (List.mem_of_mem_take hp)) x.done (Int.le_refl _) (by omega))
   have HD01:Hid (0<=x.done/\x.done<=2305843009213693952):=hid ⟨hxo.d0,hxo.d1⟩
   have HPLAN:Hid (planR V0=(let b:=batsR V0 x.done (lastR x.done V0 - x.done).toNat;let e:=walkF ⟨x.tv,x.ts,x.time⟩ (startF (x.done+1)) b;(⟨x.done,x.tv,x.ts,x.time,b,e.tv,e.ts,e.time⟩:PlanV))):=hid (by rw[HPL.out,hbest];rfl)
   clear hfv hxm hxo hbest HPL HBS HS3 HBT HCONS
   obtain⟨xw,d,tv,ts,tm,xl,xa,xc⟩:=x
   unfold PromC.u at hc
   dsimp only at hc HLB HD01 HPLAN
   have hbz:=newAlloc wr (.cells #[.int .i64 0,.int .i64 0,.int .i64 0,.int .i64 0,.slice none 0 0,.int .i64 0,.int .i64 0,.int .i64 0] 31)
   have hbd:=(Below.refl wr.heap.size wr).drew
   obtain⟨q0,q1,q2,q3,q4, -⟩:=hc _ HB3.out
   obtain⟨qa0,qa1,qa2,qa3,qa4, -⟩:=hc _ (step HB3.out hbz)
   obtain⟨qd0,qd1,qd2,qd3,qd4, -⟩:=hc _ (step HB3.out hbd)
   obtain⟨qb0,qb1,qb2,qb3,qb4, -⟩:=hc _ (step HB3.out hbz.drew)
   have hz1:=alloc_atB wr (.cells #[.int .i64 0,.int .i64 0,.int .i64 0,.int .i64 0,.slice none 0 0,.int .i64 0,.int .i64 0,.int .i64 0] 31) _ rfl
   have hz2:=cells_later hz1 (Below.refl _ _).drew
   have z0:=cell_at hz2 0
   have z1:=cell_at hz2 1
   have z2:=cell_at hz2 2
   have z3:=cell_at hz2 3
   have z4:=cell_at hz2 4
   have z5:=cell_at hz2 5
   have z6:=cell_at hz2 6
   have z7:=cell_at hz2 7
   have zf:=frozen_at hz2
   simp at z0 z1 z2 z3 z4 z5 z6 z7
   clear hz1 hz2 hbz hbd
   have hbx0:(0:Int)<=(bx:Int):=by omega
   have hbx1:(bx:Int)<(k:Int):=by omega
   go_upto_region 19 with fail
   go_region
   have hbn:=(newAlloc wr (.cells #[.int .i64 d,.int .i64 tv,.int .i64 ts,.int .i64 tm,.slice none 0 0,.int .i64 0,.int .i64 0,.int .i64 0] 31)).drew
   have HBX4:Hid (BoxR (wr.alloc (.cells #[.int .i64 d,.int .i64 tv,.int .i64 ts,.int .i64 tm,.slice none 0 0,.int .i64 0,.int .i64 0,.int .i64 0] 31)).drew wr.heap.size d tv ts tm (.slice none 0 0) 0 0 0):=hid ⟨cells_later (alloc_atB wr (.cells #[.int .i64 d,.int .i64 tv,.int .i64 ts,.int .i64 tm,.slice none 0 0,.int .i64 0,.int .i64 0,.int .i64 0] 31) _ rfl) (Below.refl _ _).drew⟩
   have HB4:=hid (step HB3.out hbn)
   have HZ4:=hid (HX3.out.later hbn)
   have HG8:Hid (w.heap.size≠wr.heap.size):=hid (by have:=HX3.out.lt;omega)
   have HG9:Hid (w.heap.size<=wr.heap.size):=hid (by have:=HX3.out.lt;omega)
   generalize hg8:wr.heap.size=g8 at HBX4 HG8 HG9 ⊢
   generalize (wr.alloc (.cells #[.int .i64 d,.int .i64 tv,.int .i64 ts,.int .i64 tm,.slice none 0 0,.int .i64 0,.int .i64 0,.int .i64 0] 31)).drew =W4 at HB4 HZ4 HBX4 ⊢
   clear hbn hg8 q0 q1 q2 q3 q4 qa0 qa1 qa2 qa3 qa4 qd0 qd1 qd2 qd3 qd4 qb0 qb1 qb2 qb3 qb4 z0 z1 z2 z3 z4 z5 z6 z7 zf hc HB3 HX3 HB HX HB0 HX0
   obtain⟨m0, -, -, -, -, -, -, -⟩:=HBX4.out.c
   go_upto_region 21 with fail
   clear m0
   go_wp2
   go_loopw [9,10,11,111] (fun la i _ _ wr=> ∃(m:Nat) (y:Int),m<=k/\i= .int .i64 (m:Int)/\la= .int .i64 y/\Hid (Below w.heap.size w wr)/\Hid (BoxR wr g8 d tv ts tm (.slice none 0 0) 0 0 0)/\Hid (BoxR wr w.heap.size 0 0 0 0 (.slice none 0 0) 0 0 0)/\Hid (lastR d (V0.take m)=y)) (fun _ i _ _ _=>k - (intOf i).toNat)
   case atStart=>exact⟨0,d,by omega,rfl,rfl,HB4,HBX4,HZ4,hid rfl⟩
   case round=>
    obtain⟨m,y,hm,rfl,rfl,HB,HBX,HZ,HLA⟩:=hrel
    by_cases hlm:m<k
    case pos=>
     have hml:m<L.length:=by rw[HN.out];exact hlm
     have hmv:m<V0.length:=by rw[HV.out];exact hlm
     obtain⟨b',o',e',hc⟩:=HA.out m hml
     cases e'
     obtain⟨-, -, -, -, -,q5⟩:=hc _ HB.out
     have hr:=HR.out L[m] (mem_get hml)
     have hlt:=HLT.out d m hmv
     rw[HLA.out,HG.out m hml hmv] at hlt
     obtain⟨p,hp⟩: ∃p,L[m]=p:=⟨_,rfl⟩
     rw[hp] at q5 hr hlt
     clear hc hp hml hmv
     obtain⟨pw,pd,pv,ps,pt,pl,pa,pc⟩:=p
     unfold PromC.u at q5 hr
     unfold PromC.val at hlt
     dsimp only at q5 hr hlt
     have hm0:(0:Int)<=(m:Int):=by omega
     have hm1:(m:Int)<(k:Int):=by omega
     have hpl:=hr.len
     by_cases hn:pl.length=0
     ·have HNX:Hid (lastR d (V0.take (m+1))=y):=hid (by rw[hlt];exact endM_none _ _ (by rw[valsV_length];exact hn))
      rw[hn] at q5
      clear hlt hr hn hpl
      go_wp2
      go_roundw
      case rel=>exact⟨m+1,y,by omega,by go_num,rfl,HB,HBX,HZ,HNX⟩
      case measure=>simp [intOf];omega
     obtain⟨n,hn1⟩: ∃n,pl.length=n+1:=⟨pl.length - 1,by omega⟩
     have hnl:n<pl.length:=by omega
     obtain⟨vb,vo,rfl,hvc⟩:=rdv_at hr.row n hnl
     obtain⟨s0, -⟩:=hvc _ HB.out
     have hnv:n<(valsV pl).length :=by rw[valsV_length];exact hnl
     have hes:=endM_some y ⟨pw,pd,pv,ps,pt,valsV pl⟩ n (by show(valsV pl).length =n+1;rw[valsV_length];exact hn1) hnv
     rw[show(PromV.mk pw pd pv ps pt (valsV pl)).votes[n]=pl[n].val from valsV_get pl n hnl hnv] at hes
     obtain⟨sl,hsl⟩: ∃sl,pl[n].slot =sl:=⟨_,rfl⟩
     rw[show(pl[n].val).slot =sl from hsl] at hes
     rw[hsl] at s0
     obtain⟨MX,hMX⟩: ∃MX:Int,(if y<sl then sl else y)=MX:=⟨_,rfl⟩
     have HNX:Hid (lastR d (V0.take (m+1))=MX):=hid (by rw[hlt,hes,<-hMX,max_eq])
     obtain⟨P,hP⟩: ∃P,pl.length=P:=⟨_,rfl⟩
     have hnP:n<P:=by omega
     have ewn:IntKind.i64.wrap ((P:Int) - 1)=(n:Int):=by rw[IntKind.wrap_i64];omega
     have dP:decide (0<(P:Int))=true:=by simp;omega
     have hP0:0<P:=by omega
     rw[hP] at q5
     clear hlt hr hn hpl hvc hes hsl hnl hnv hn1 hP
     go_wp2
     go_roundw
     case rel=>exact⟨m+1,MX,by omega,by go_num,rfl,HB,HBX,HZ,HNX⟩
     case measure=>simp [intOf];omega
    obtain rfl:m=k:=by omega
    have HLF:Hid (lastR d V0=y):=hid (by have:=HLA.out;rw[<-HV.out,List.take_length] at this;exact this)
    have hyb:=HLB.out V0.length (Nat.le_refl _)
    rw[List.take_length,HLF.out] at hyb
    have HPL2:=hid HPLAN.out
    rw[HLF.out] at HPL2
    obtain⟨n,hn⟩: ∃n:Nat,y - d=(n:Int):=⟨(y - d).toNat,by omega⟩
    have HNN:Hid ((y - d).toNat =n):=hid (by rw[hn];rfl)
    rw[HNN.out] at HPL2
    have HLN:=hid hn
    have hn9:n<=9:=by omega
    have ew:IntKind.i64.wrap (d+1)=d+1:=by have:=HD01.out;rw[IntKind.wrap_i64];omega
    have HYB:=hid hyb
    clear hyb hn HLA hlm hm HLT HLB HPLAN
    obtain⟨i6,hi6,h60,h61,h62⟩:=info_partsP infoBat
    obtain⟨m0, -, -, -, -, -, -, -⟩:=HBX.out.c
    obtain⟨wo,rfl⟩: ∃wo,wo=wr:=⟨_,rfl⟩
    go_upto_region 28 with fail
    clear m0
    go_loopw [12,140] (fun sl _ wr=> ∃(k:Nat) (ua:Option Addr) (uc:Nat) (G:List BatC),k<=n/\G.length=k/\sl= .int .i64 (d+1+(k:Int))/\Hid (Below w.heap.size w wr)/\Hid (BoxR wr g8 d tv ts tm (.slice ua G.length uc) 0 0 0)/\Hid (BoxR wr w.heap.size 0 0 0 0 (.slice none 0 0) 0 0 0)/\Hid (wr.ownsRow w.heap.size 42 6 (.slice ua G.length uc) G.length (flatX cellsB G))/\Hid (∀x∈G,RdR w x.u x.bat.reqs/\P x)/\Hid (valsB G=batsR V0 d k)) (fun sl _ _=>(y - intOf sl+1).toNat)
    case atStart=>exact⟨0,none,0,[],by omega,rfl,by simp,HB,HBX,HZ,hid (World.ownsRow_nil _ _ _ _),hid (fun x hx=>by cases hx),hid rfl⟩
    case round=>
     obtain⟨k,ua,uc,G,hkn,hGk,rfl,HB,HBX,HZ,HO,HRQ,HVB⟩:=hrel
     have HGK:=hid hGk
     have HGL:Hid (G.length<=9):=hid (by omega)
     clear hGk
     by_cases hlk:k<n
     case pos=>
      have CH:=hid (fun W hb=>CH0.out (d+1+(k:Int)) W hb)
      obtain⟨SN,hSN⟩: ∃SN,d+1+(k:Int)+1=SN:=⟨_,rfl⟩
      have HSN:=hid hSN
      have HKN:=hid hlk
      have HSL:Hid (Value.int .i64 SN= .int .i64 (d+1+((k+1:Nat):Int))):=hid (by rw[<-hSN];congr 1;omega)
      have ew2:IntKind.i64.wrap (d+1+(k:Int)+1)=SN:=by have:=HD01.out;rw[IntKind.wrap_i64];omega
      have dl:decide (d+1+(k:Int)<=y)=true:=decide_eq_true (by have:=HLN.out;omega)
      clear hSN
      go_upto_region 30 with fail
      refine wp_region_held_drew (S:=fun _=>True) (by kernel_rfl) trivial (fun hHeld=>?_)
      obtain⟨V,hV⟩: ∃V,V=wr.drew:=⟨_,rfl⟩
      have hb:Below wr.heap.size wr V:=(by rw[hV];exact(Below.refl _ _).drew)
      rw[<-hV]
      have HB:=hid (step HB.out hb)
      have HBX:=hid (HBX.out.later hb)
      have HZ:=hid (HZ.out.later hb)
      have HO:=hid (Rw.own_below HO.out hb)
      clear hV hb
      refine wpAnyH_take (i:=0) (v:=?_) rfl (by kernel_rfl) (by kernel_rfl) (by kernel_rfl) (fun _ _ _ h=>h) (Or.inl ⟨by rfl,?_⟩) (by assumption) ?_
      rotate_left
      ·intro w hSw;(try dsimp only at hSw);go_simp<;>with_reducible rfl
      try simp only[Act.put,getElem_toArray,getElem_cons_succ,getElem_cons_zero,setIfInBounds_toArray,set_cons_zero,set_cons_succ]
      refine wpAnyH_take (i:=2) (v:=?_) rfl (by kernel_rfl) (by kernel_rfl) (by kernel_rfl) (fun _ _ _ h=>h) (Or.inl ⟨by rfl,?_⟩) (by assumption) ?_
      rotate_left
      ·intro w hSw;(try dsimp only at hSw);go_simp<;>with_reducible rfl
      try simp only[Act.put,getElem_toArray,getElem_cons_succ,getElem_cons_zero,setIfInBounds_toArray,set_cons_zero,set_cons_succ]
      refine wpAnyH_take (i:=3) (v:=?_) rfl (by kernel_rfl) (by kernel_rfl) (by kernel_rfl) (fun _ _ _ h=>h) (Or.inl ⟨by rfl,?_⟩) (by assumption) ?_
      rotate_left
      ·intro w hSw;(try dsimp only at hSw);go_simp<;>with_reducible rfl
      try simp only[Act.put,getElem_toArray,getElem_cons_succ,getElem_cons_zero,setIfInBounds_toArray,set_cons_zero,set_cons_succ]
      refine wpAnyH_ready (rs:= [1,4]) (by kernel_rfl) (by simp) ?_
      refine AllReadyH.cons rfl (fun K hK=>?_) (AllReadyH.cons rfl (fun K hK=>?_) AllReadyH.nil)
      ·skip
       obtain⟨-, -, -, -,kl, -, -, -⟩:=HBX.out.c
       go_simp
       clear kl
       refine hK.out _ _ trivial (fun hHeld=>?_)
       clear hK K
       try simp only[Act.put,getElem_toArray,getElem_cons_succ,getElem_cons_zero,setIfInBounds_toArray,set_cons_zero,set_cons_succ]
       refine wpAnyH_ready (rs:= [4]) (by kernel_rfl) (by simp) ?_
       refine AllReadyH.cons rfl (fun K hK=>?_) AllReadyH.nil
       ·skip
        go_simp
        go_at_call 44
        refine(CH.out _ HB.out).mono ?_
        rintro e V' ⟨y,rfl,hyb,hyr,hb⟩
        have HB:=hid (step HB.out hb)
        have HBX:=hid (HBX.out.later hb)
        have HZ:=hid (HZ.out.later hb)
        have HO:=hid (Rw.own_below HO.out hb)
        have HRQ2:Hid (∀x∈G++ [y],RdR w x.u x.bat.reqs/\P x):=hid (fun x hx=>by rcases List.mem_append.1 hx with q | q;exact HRQ.out x q;rw[List.mem_singleton] at q;rw[q];exact hyr)
        have HVB2:Hid (valsB (G++ [y])=batsR V0 d (k+1)):=hid (by rw[valsB_snoc,HVB.out,batsR_succ,hyb])
        have HYC:=hid (cellsB_one y)
        clear hb hyb hyr
        unfold batVal
        obtain⟨V,rfl⟩: ∃V,V=V':=⟨_,rfl⟩
        refine hK.out _ _ trivial (fun hHeld=>?_)
        clear hK K
        try simp only[Act.put,getElem_toArray,getElem_cons_succ,getElem_cons_zero,setIfInBounds_toArray,set_cons_zero,set_cons_succ]
        refine wpAnyH_ready (rs:= [5]) (by kernel_rfl) (by simp) ?_
        refine AllReadyH.cons rfl (fun K hK=>?_) AllReadyH.nil
        ·skip
         go_simp
         obtain⟨V',hV'⟩: ∃V',V'=V.alloc (.cells #[.bool y.bat.fill,.int .i64 y.bat.view,.int .i64 y.bat.tv,.int .i64 y.bat.ts,.int .i64 y.bat.time,y.u] 42):=⟨_,rfl⟩
         have hb:Below V.heap.size V V':=(by rw[hV'];exact newAlloc _ _)
         have HNB:Hid (HeapAt V' V.heap.size (.cells #[.bool y.bat.fill,.int .i64 y.bat.view,.int .i64 y.bat.tv,.int .i64 y.bat.ts,.int .i64 y.bat.time,y.u] 42)):=hid (by rw[hV'];exact alloc_atB _ _ _ rfl)
         rw[<-hV']
         have HB:=hid (step HB.out hb)
         have HBX:=hid (HBX.out.later hb)
         have HZ:=hid (HZ.out.later hb)
         have HO:=hid (Rw.own_below HO.out hb)
         clear hV' hb
         generalize V.heap.size=n5 at HNB ⊢
         obtain⟨V,rfl⟩: ∃V,V=V':=⟨_,rfl⟩
         refine hK.out _ _ trivial (fun hHeld=>?_)
         clear hK K
         try simp only[Act.put,getElem_toArray,getElem_cons_succ,getElem_cons_zero,setIfInBounds_toArray,set_cons_zero,set_cons_succ]
         refine wpAnyH_ready (rs:= [6]) (by kernel_rfl) (by simp) ?_
         refine AllReadyH.cons rfl (fun K hK=>?_) AllReadyH.nil
         ·skip
          refine step_append_own (by rfl) _ _ _ (by rfl) w.heap.size 42 i6 _ 6 64 Try.underlying29 hi6 h60 h61 h62 rfl (by omega) (.slice ua G.length uc) G.length _ (by rfl) HO.out ⟨n5,0,none⟩ 1 1 (cellsB y) (by rfl) rfl (World.news_of_block (cs:=#[.bool y.bat.fill,.int .i64 y.bat.view,.int .i64 y.bat.tv,.int .i64 y.bat.ts,.int .i64 y.bat.time,y.u]) (t:=42) (fr:=(0,0)) HNB.out) HYC.out (by unfold maxLen;have:=HGL.out;omega) (by have:=HGL.out;omega) HB.out.size ?_
          intro v' V' hown hgrow _
          have hnb:=fun {cs:Array Value} {t:TypeId} {g:Nat} (hx:V.heap[g]?=some (.cells cs t)) (hne:42≠t)=>ho_ne HO.out hx hne
          have HBX:Hid (BoxR V' g8 d tv ts tm (.slice ua G.length uc) 0 0 0):=hid ⟨(hgrow.block _ HBX.out.lt (fun q=>hnb HBX.out.ex (by decide) q.symm)).trans HBX.out.ex⟩
          have HZ:Hid (BoxR V' w.heap.size 0 0 0 0 (.slice none 0 0) 0 0 0):=hid ⟨(hgrow.block _ HZ.out.lt (fun q=>hnb HZ.out.ex (by decide) q.symm)).trans HZ.out.ex⟩
          have HB:=hid (HB.out.grown hgrow HB.out.size (fun g hg=>(Rw.own_lt HO.out g hg).1))
          have HO:Hid (V'.ownsRow w.heap.size 42 6 v' (G++ [y]).length (flatX cellsB (G++ [y]))):=hid (by rw[List.length_append,flatX_snoc];exact hown)
          obtain⟨va,vc,rfl⟩:=Rw.own_form HO.out
          clear hown hgrow HNB hnb
          rw[List.length_append,List.length_singleton] at HO ⊢
          obtain⟨V,rfl⟩: ∃V,V=V':=⟨_,rfl⟩
          refine hK.out _ _ trivial (fun hHeld=>?_)
          clear hK K
          try simp only[Act.put,getElem_toArray,getElem_cons_succ,getElem_cons_zero,setIfInBounds_toArray,set_cons_zero,set_cons_succ]
          refine wpAnyH_take (i:=7) (v:=?_) rfl (by kernel_rfl) (by kernel_rfl) (by kernel_rfl) (fun _ _ _ h=>h) (Or.inl ⟨by rfl,?_⟩) (by assumption) ?_
          rotate_left
          ·intro w hSw;(try dsimp only at hSw);go_simp<;>with_reducible rfl
          try simp only[Act.put,getElem_toArray,getElem_cons_succ,getElem_cons_zero,setIfInBounds_toArray,set_cons_zero,set_cons_succ]
          refine wpAnyH_ready (rs:= [8]) (by kernel_rfl) (by simp) ?_
          refine AllReadyH.cons rfl (fun K hK=>?_) AllReadyH.nil
          ·skip
           obtain⟨-, -, -, -,kl, -, -, -⟩:=HBX.out.c
           have kf:=HBX.out.fz
           go_simp
           have HZ:=hid (HZ.out.gr (grown_set1 V g8 4 (.slice va (G.length+1) vc)) HG8.out)
           have HB:=hid (HB.out.setCell (p:=⟨g8,4,none⟩) HG9.out (.slice va (G.length+1) vc))
           have HO:=hid (Rw.own_keep HO.out (w':=V.setCell ⟨g8,4,none⟩ (.slice va (G.length+1) vc)) fun q hq=>Below.heap_setCell _ _ _ _ (fun r=>ho_ne HO.out HBX.out.ex (by decide) (by rw[<-show q=g8 from r];exact hq)))
           have HBX:=hid (HBX.out.one (.slice va (G.length+1) vc))
           clear kl kf
           refine hK.out _ _ trivial (fun hHeld=>?_)
           clear hK K
           try simp only[Act.put,getElem_toArray,getElem_cons_succ,getElem_cons_zero,setIfInBounds_toArray,set_cons_zero,set_cons_succ]
           refine wpAnyH_done (by kernel_rfl) ?_ _
           go_wp2_with fail
           go_roundw
           case rel=>exact⟨k+1,_,_,G++ [y],by omega,by rw[List.length_append,HGK.out];rfl,HSL.out,HB,hid (by rw[List.length_append];exact HBX.out),HZ,hid (by rw[List.length_append];exact HO.out),HRQ2,HVB2⟩
           case measure=>have:=HSN.out;have:=HLN.out;have:=HKN.out;simp [intOf];omega
      ·skip
       go_simp
       go_at_call 44
       refine(CH.out _ HB.out).mono ?_
       rintro e V' ⟨y,rfl,hyb,hyr,hb⟩
       have HB:=hid (step HB.out hb)
       have HBX:=hid (HBX.out.later hb)
       have HZ:=hid (HZ.out.later hb)
       have HO:=hid (Rw.own_below HO.out hb)
       have HRQ2:Hid (∀x∈G++ [y],RdR w x.u x.bat.reqs/\P x):=hid (fun x hx=>by rcases List.mem_append.1 hx with q | q;exact HRQ.out x q;rw[List.mem_singleton] at q;rw[q];exact hyr)
       have HVB2:Hid (valsB (G++ [y])=batsR V0 d (k+1)):=hid (by rw[valsB_snoc,HVB.out,batsR_succ,hyb])
       have HYC:=hid (cellsB_one y)
       clear hb hyb hyr
       unfold batVal
       obtain⟨V,rfl⟩: ∃V,V=V':=⟨_,rfl⟩
       refine hK.out _ _ trivial (fun hHeld=>?_)
       clear hK K
       try simp only[Act.put,getElem_toArray,getElem_cons_succ,getElem_cons_zero,setIfInBounds_toArray,set_cons_zero,set_cons_succ]
       refine wpAnyH_ready (rs:= [1,5]) (by kernel_rfl) (by simp) ?_
       refine AllReadyH.cons rfl (fun K hK=>?_) (AllReadyH.cons rfl (fun K hK=>?_) AllReadyH.nil)
       ·skip
        obtain⟨-, -, -, -,kl, -, -, -⟩:=HBX.out.c
        go_simp
        clear kl
        refine hK.out _ _ trivial (fun hHeld=>?_)
        clear hK K
        try simp only[Act.put,getElem_toArray,getElem_cons_succ,getElem_cons_zero,setIfInBounds_toArray,set_cons_zero,set_cons_succ]
        refine wpAnyH_ready (rs:= [5]) (by kernel_rfl) (by simp) ?_
        refine AllReadyH.cons rfl (fun K hK=>?_) AllReadyH.nil
        ·skip
         go_simp
         obtain⟨V',hV'⟩: ∃V',V'=V.alloc (.cells #[.bool y.bat.fill,.int .i64 y.bat.view,.int .i64 y.bat.tv,.int .i64 y.bat.ts,.int .i64 y.bat.time,y.u] 42):=⟨_,rfl⟩
         have hb:Below V.heap.size V V':=(by rw[hV'];exact newAlloc _ _)
         have HNB:Hid (HeapAt V' V.heap.size (.cells #[.bool y.bat.fill,.int .i64 y.bat.view,.int .i64 y.bat.tv,.int .i64 y.bat.ts,.int .i64 y.bat.time,y.u] 42)):=hid (by rw[hV'];exact alloc_atB _ _ _ rfl)
         rw[<-hV']
         have HB:=hid (step HB.out hb)
         have HBX:=hid (HBX.out.later hb)
         have HZ:=hid (HZ.out.later hb)
         have HO:=hid (Rw.own_below HO.out hb)
         clear hV' hb
         generalize V.heap.size=n5 at HNB ⊢
         obtain⟨V,rfl⟩: ∃V,V=V':=⟨_,rfl⟩
         refine hK.out _ _ trivial (fun hHeld=>?_)
         clear hK K
         try simp only[Act.put,getElem_toArray,getElem_cons_succ,getElem_cons_zero,setIfInBounds_toArray,set_cons_zero,set_cons_succ]
         refine wpAnyH_ready (rs:= [6]) (by kernel_rfl) (by simp) ?_
         refine AllReadyH.cons rfl (fun K hK=>?_) AllReadyH.nil
         ·skip
          refine step_append_own (by rfl) _ _ _ (by rfl) w.heap.size 42 i6 _ 6 64 Try.underlying29 hi6 h60 h61 h62 rfl (by omega) (.slice ua G.length uc) G.length _ (by rfl) HO.out ⟨n5,0,none⟩ 1 1 (cellsB y) (by rfl) rfl (World.news_of_block (cs:=#[.bool y.bat.fill,.int .i64 y.bat.view,.int .i64 y.bat.tv,.int .i64 y.bat.ts,.int .i64 y.bat.time,y.u]) (t:=42) (fr:=(0,0)) HNB.out) HYC.out (by unfold maxLen;have:=HGL.out;omega) (by have:=HGL.out;omega) HB.out.size ?_
          intro v' V' hown hgrow _
          have hnb:=fun {cs:Array Value} {t:TypeId} {g:Nat} (hx:V.heap[g]?=some (.cells cs t)) (hne:42≠t)=>ho_ne HO.out hx hne
          have HBX:Hid (BoxR V' g8 d tv ts tm (.slice ua G.length uc) 0 0 0):=hid ⟨(hgrow.block _ HBX.out.lt (fun q=>hnb HBX.out.ex (by decide) q.symm)).trans HBX.out.ex⟩
          have HZ:Hid (BoxR V' w.heap.size 0 0 0 0 (.slice none 0 0) 0 0 0):=hid ⟨(hgrow.block _ HZ.out.lt (fun q=>hnb HZ.out.ex (by decide) q.symm)).trans HZ.out.ex⟩
          have HB:=hid (HB.out.grown hgrow HB.out.size (fun g hg=>(Rw.own_lt HO.out g hg).1))
          have HO:Hid (V'.ownsRow w.heap.size 42 6 v' (G++ [y]).length (flatX cellsB (G++ [y]))):=hid (by rw[List.length_append,flatX_snoc];exact hown)
          obtain⟨va,vc,rfl⟩:=Rw.own_form HO.out
          clear hown hgrow HNB hnb
          rw[List.length_append,List.length_singleton] at HO ⊢
          obtain⟨V,rfl⟩: ∃V,V=V':=⟨_,rfl⟩
          refine hK.out _ _ trivial (fun hHeld=>?_)
          clear hK K
          try simp only[Act.put,getElem_toArray,getElem_cons_succ,getElem_cons_zero,setIfInBounds_toArray,set_cons_zero,set_cons_succ]
          refine wpAnyH_take (i:=7) (v:=?_) rfl (by kernel_rfl) (by kernel_rfl) (by kernel_rfl) (fun _ _ _ h=>h) (Or.inl ⟨by rfl,?_⟩) (by assumption) ?_
          rotate_left
          ·intro w hSw;(try dsimp only at hSw);go_simp<;>with_reducible rfl
          try simp only[Act.put,getElem_toArray,getElem_cons_succ,getElem_cons_zero,setIfInBounds_toArray,set_cons_zero,set_cons_succ]
          refine wpAnyH_ready (rs:= [8]) (by kernel_rfl) (by simp) ?_
          refine AllReadyH.cons rfl (fun K hK=>?_) AllReadyH.nil
          ·skip
           obtain⟨-, -, -, -,kl, -, -, -⟩:=HBX.out.c
           have kf:=HBX.out.fz
           go_simp
           have HZ:=hid (HZ.out.gr (grown_set1 V g8 4 (.slice va (G.length+1) vc)) HG8.out)
           have HB:=hid (HB.out.setCell (p:=⟨g8,4,none⟩) HG9.out (.slice va (G.length+1) vc))
           have HO:=hid (Rw.own_keep HO.out (w':=V.setCell ⟨g8,4,none⟩ (.slice va (G.length+1) vc)) fun q hq=>Below.heap_setCell _ _ _ _ (fun r=>ho_ne HO.out HBX.out.ex (by decide) (by rw[<-show q=g8 from r];exact hq)))
           have HBX:=hid (HBX.out.one (.slice va (G.length+1) vc))
           clear kl kf
           refine hK.out _ _ trivial (fun hHeld=>?_)
           clear hK K
           try simp only[Act.put,getElem_toArray,getElem_cons_succ,getElem_cons_zero,setIfInBounds_toArray,set_cons_zero,set_cons_succ]
           refine wpAnyH_done (by kernel_rfl) ?_ _
           go_wp2_with fail
           go_roundw
           case rel=>exact⟨k+1,_,_,G++ [y],by omega,by rw[List.length_append,HGK.out];rfl,HSL.out,HB,hid (by rw[List.length_append];exact HBX.out),HZ,hid (by rw[List.length_append];exact HO.out),HRQ2,HVB2⟩
           case measure=>have:=HSN.out;have:=HLN.out;have:=HKN.out;simp [intOf];omega
       ·skip
        go_simp
        obtain⟨V',hV'⟩: ∃V',V'=V.alloc (.cells #[.bool y.bat.fill,.int .i64 y.bat.view,.int .i64 y.bat.tv,.int .i64 y.bat.ts,.int .i64 y.bat.time,y.u] 42):=⟨_,rfl⟩
        have hb:Below V.heap.size V V':=(by rw[hV'];exact newAlloc _ _)
        have HNB:Hid (HeapAt V' V.heap.size (.cells #[.bool y.bat.fill,.int .i64 y.bat.view,.int .i64 y.bat.tv,.int .i64 y.bat.ts,.int .i64 y.bat.time,y.u] 42)):=hid (by rw[hV'];exact alloc_atB _ _ _ rfl)
        rw[<-hV']
        have HB:=hid (step HB.out hb)
        have HBX:=hid (HBX.out.later hb)
        have HZ:=hid (HZ.out.later hb)
        have HO:=hid (Rw.own_below HO.out hb)
        clear hV' hb
        generalize V.heap.size=n5 at HNB ⊢
        obtain⟨V,rfl⟩: ∃V,V=V':=⟨_,rfl⟩
        refine hK.out _ _ trivial (fun hHeld=>?_)
        clear hK K
        try simp only[Act.put,getElem_toArray,getElem_cons_succ,getElem_cons_zero,setIfInBounds_toArray,set_cons_zero,set_cons_succ]
        refine wpAnyH_ready (rs:= [1]) (by kernel_rfl) (by simp) ?_
        refine AllReadyH.cons rfl (fun K hK=>?_) AllReadyH.nil
        ·skip
         obtain⟨-, -, -, -,kl, -, -, -⟩:=HBX.out.c
         go_simp
         clear kl
         refine hK.out _ _ trivial (fun hHeld=>?_)
         clear hK K
         try simp only[Act.put,getElem_toArray,getElem_cons_succ,getElem_cons_zero,setIfInBounds_toArray,set_cons_zero,set_cons_succ]
         refine wpAnyH_ready (rs:= [6]) (by kernel_rfl) (by simp) ?_
         refine AllReadyH.cons rfl (fun K hK=>?_) AllReadyH.nil
         ·skip
          refine step_append_own (by rfl) _ _ _ (by rfl) w.heap.size 42 i6 _ 6 64 Try.underlying29 hi6 h60 h61 h62 rfl (by omega) (.slice ua G.length uc) G.length _ (by rfl) HO.out ⟨n5,0,none⟩ 1 1 (cellsB y) (by rfl) rfl (World.news_of_block (cs:=#[.bool y.bat.fill,.int .i64 y.bat.view,.int .i64 y.bat.tv,.int .i64 y.bat.ts,.int .i64 y.bat.time,y.u]) (t:=42) (fr:=(0,0)) HNB.out) HYC.out (by unfold maxLen;have:=HGL.out;omega) (by have:=HGL.out;omega) HB.out.size ?_
          intro v' V' hown hgrow _
          have hnb:=fun {cs:Array Value} {t:TypeId} {g:Nat} (hx:V.heap[g]?=some (.cells cs t)) (hne:42≠t)=>ho_ne HO.out hx hne
          have HBX:Hid (BoxR V' g8 d tv ts tm (.slice ua G.length uc) 0 0 0):=hid ⟨(hgrow.block _ HBX.out.lt (fun q=>hnb HBX.out.ex (by decide) q.symm)).trans HBX.out.ex⟩
          have HZ:Hid (BoxR V' w.heap.size 0 0 0 0 (.slice none 0 0) 0 0 0):=hid ⟨(hgrow.block _ HZ.out.lt (fun q=>hnb HZ.out.ex (by decide) q.symm)).trans HZ.out.ex⟩
          have HB:=hid (HB.out.grown hgrow HB.out.size (fun g hg=>(Rw.own_lt HO.out g hg).1))
          have HO:Hid (V'.ownsRow w.heap.size 42 6 v' (G++ [y]).length (flatX cellsB (G++ [y]))):=hid (by rw[List.length_append,flatX_snoc];exact hown)
          obtain⟨va,vc,rfl⟩:=Rw.own_form HO.out
          clear hown hgrow HNB hnb
          rw[List.length_append,List.length_singleton] at HO ⊢
          obtain⟨V,rfl⟩: ∃V,V=V':=⟨_,rfl⟩
          refine hK.out _ _ trivial (fun hHeld=>?_)
          clear hK K
          try simp only[Act.put,getElem_toArray,getElem_cons_succ,getElem_cons_zero,setIfInBounds_toArray,set_cons_zero,set_cons_succ]
          refine wpAnyH_take (i:=7) (v:=?_) rfl (by kernel_rfl) (by kernel_rfl) (by kernel_rfl) (fun _ _ _ h=>h) (Or.inl ⟨by rfl,?_⟩) (by assumption) ?_
          rotate_left
          ·intro w hSw;(try dsimp only at hSw);go_simp<;>with_reducible rfl
          try simp only[Act.put,getElem_toArray,getElem_cons_succ,getElem_cons_zero,setIfInBounds_toArray,set_cons_zero,set_cons_succ]
          refine wpAnyH_ready (rs:= [8]) (by kernel_rfl) (by simp) ?_
          refine AllReadyH.cons rfl (fun K hK=>?_) AllReadyH.nil
          ·skip
           obtain⟨-, -, -, -,kl, -, -, -⟩:=HBX.out.c
           have kf:=HBX.out.fz
           go_simp
           have HZ:=hid (HZ.out.gr (grown_set1 V g8 4 (.slice va (G.length+1) vc)) HG8.out)
           have HB:=hid (HB.out.setCell (p:=⟨g8,4,none⟩) HG9.out (.slice va (G.length+1) vc))
           have HO:=hid (Rw.own_keep HO.out (w':=V.setCell ⟨g8,4,none⟩ (.slice va (G.length+1) vc)) fun q hq=>Below.heap_setCell _ _ _ _ (fun r=>ho_ne HO.out HBX.out.ex (by decide) (by rw[<-show q=g8 from r];exact hq)))
           have HBX:=hid (HBX.out.one (.slice va (G.length+1) vc))
           clear kl kf
           refine hK.out _ _ trivial (fun hHeld=>?_)
           clear hK K
           try simp only[Act.put,getElem_toArray,getElem_cons_succ,getElem_cons_zero,setIfInBounds_toArray,set_cons_zero,set_cons_succ]
           refine wpAnyH_done (by kernel_rfl) ?_ _
           go_wp2_with fail
           go_roundw
           case rel=>exact⟨k+1,_,_,G++ [y],by omega,by rw[List.length_append,HGK.out];rfl,HSL.out,HB,hid (by rw[List.length_append];exact HBX.out),HZ,hid (by rw[List.length_append];exact HO.out),HRQ2,HVB2⟩
           case measure=>have:=HSN.out;have:=HLN.out;have:=HKN.out;simp [intOf];omega
     obtain rfl:k=n:=by omega
     have dl:decide (d+1+(k:Int)<=y)=false:=decide_eq_false (by have:=HLN.out;omega)
     have HRB:Hid (RdX 6 cellsB wr (.slice ua G.length uc) G):=hid (RdX.own cellsB_length HO.out)
     have CWK:=hid (fun W (hb:Below wr.heap.size wr W)=>RefWalk_any tv ts tm (d+1) _ G W (HRB.out.later hb) (by have:=HGL.out;omega))
     rw[HVB.out] at CWK
     obtain⟨er,hER⟩: ∃er,walkF ⟨tv,ts,tm⟩ (startF (d+1)) (batsR V0 d k)=er:=⟨_,rfl⟩
     rw[hER] at CWK
     have HER:=hid hER
     clear hER
     unfold WalksT tipVal at CWK
     generalize hLn:G.length=Ln at HBX CWK HRB HO
     have HLNN:=hid hLn
     clear hLn
     obtain⟨x0,x1,x2,x3,x4,x5,x6,x7⟩:=HBX.out.c
     obtain⟨et,es,em⟩:=er
     dsimp only at CWK
     go_upto_region 32 with (go_at_call 45;refine(CWK.out _ (Below.refl _ _)).mono ?_;rintro e w7 ⟨rfl,hb7⟩;have HB7:=hid (step HB.out hb7);have HX7:=hid (HZ.out.later hb7);have HL7:=hid (HBX.out.later hb7);have HR7:=hid (HRB.out.later hb7);have HO7:=hid (Rw.own_below HO.out hb7);clear hb7 x0 x1 x2 x3 x4 x5 x6 x7)
     have hbt:=newAlloc w7 (.cells #[.int .i64 et,.int .i64 es] 28)
     have HT8:Hid (HeapAt (w7.alloc (.cells #[.int .i64 et,.int .i64 es] 28)) w7.heap.size (.cells #[.int .i64 et,.int .i64 es] 28)):=hid (alloc_atB _ _ _ rfl)
     have HB8:=hid (step HB7.out hbt)
     have HX8:=hid (HX7.out.later hbt)
     have HL8:=hid (HL7.out.later hbt)
     have HO8:=hid (Rw.own_below HO7.out hbt)
     generalize w7.alloc (.cells #[.int .i64 et,.int .i64 es] 28)=W8 at HB8 HX8 HL8 HO8 HT8 ⊢
     generalize w7.heap.size=g9 at HT8 ⊢
     clear hbt
     have t0:=cell_at HT8.out 0
     have t1:=cell_at HT8.out 1
     simp at t0 t1
     obtain⟨x0,x1,x2,x3,x4,x5,x6,x7⟩:=HL8.out.c
     have xf:=HL8.out.fz
     have HX9:=hid (HX8.out.gr (grown_two (e:=et) (f:=es) (b:=g8)) HG8.out)
     have HB9:=hid ((HB8.out.setCell (p:=⟨g8,5,none⟩) HG9.out (.int .i64 et)).setCell (p:=⟨g8,6,none⟩) HG9.out (.int .i64 es))
     have HL9:=hid (HL8.out.two (e:=et) (f:=es))
     have HO9:=hid (own_set HO8.out (grown_two (e:=et) (f:=es) (b:=g8)) HL8.out.ex (by decide))
     go_upto_region 33 with fail
     clear x0 x1 x2 x3 x4 x5 x6 x7 xf t0 t1
     generalize (W8.setCell ⟨g8,5,none⟩ (.int .i64 et)).setCell ⟨g8,6,none⟩ (.int .i64 es)=W9 at HX9 HB9 HL9 HO9 ⊢
     obtain⟨x0,x1,x2,x3,x4,x5,x6,x7⟩:=HL9.out.c
     have xf:=HL9.out.fz
     have HX10:=hid (HX9.out.gr (grown_set1 _ g8 7 (.int .i64 em)) HG8.out)
     have HB10:=hid (HB9.out.setCell (p:=⟨g8,7,none⟩) HG9.out (.int .i64 em))
     have HL10:=hid (HL9.out.last (l:=em))
     have HO10:=hid (own_set HO9.out (grown_set1 _ g8 7 (.int .i64 em)) HL9.out.ex (by decide))
     go_upto_region 34 with fail
     clear x0 x1 x2 x3 x4 x5 x6 x7 xf
     generalize W9.setCell ⟨g8,7,none⟩ (.int .i64 em)=W10 at HX10 HB10 HL10 HO10 ⊢
     obtain⟨x0,x1,x2,x3,x4,x5,x6,x7⟩:=HL10.out.c
     obtain⟨z0,z1,z2,z3,z4,z5,z6,z7⟩:=HX10.out.c
     have zf:=HX10.out.fz
     have HBF:=hid (below_putL (d:=d) (t:=tv) (s:=ts) (m:=tm) (u:=.slice ua Ln uc) (e:=et) (f:=es) (l:=em) (b:=w.heap.size) HB10.out (Nat.le_refl _))
     have HOF:=hid (own_set HO10.out (grown_putL (d:=d) (t:=tv) (s:=ts) (m:=tm) (u:=.slice ua Ln uc) (e:=et) (f:=es) (l:=em) (b:=w.heap.size)) HX10.out.ex (by decide))
     unfold putL at HBF HOF
     go_wp2
     refine bodyPost_ret (by simp [results,Try.results29,go_sem,z0,z1,z2,z3,z4,z5,z6,z7]<;>rfl) rfl ⟨ua,uc,G,?_,?_,?_,HBF.out,fun x hx=>(HRQ.out x hx).2,by rw[HLNN.out];exact HOF.out⟩
     ·rw[HE.out,HPL2.out]
      dsimp only
      rw[HER.out,HLNN.out]
      rfl
     ·rw[HE.out,HPL2.out]
      exact HVB.out
     ·refine⟨RdX.own cellsB_length (by rw[HLNN.out];exact HOF.out),fun x hx=>?_⟩
      exact(HRQ.out x hx).1.later HBF.out
end Pl
end Go.Proofs.Ytbpmfjjbfiiiaaa
