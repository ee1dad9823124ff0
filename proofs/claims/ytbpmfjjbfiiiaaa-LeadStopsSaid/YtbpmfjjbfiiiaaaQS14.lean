/- Texts laid together by program. -/
import Derived.Test.YtbpmfjjbfiiiaaaQS12
import Derived.Test.YtbpmfjjbfiiiaaaQS13
import Derived.Test.YtbpmfjjbfiiiaaaQS10
/- Contract of Make. -/
set_option linter.unusedVariables false
set_option maxRecDepth 8000
set_option linter.unusedSimpArgs false
namespace Go.Proofs.Ytbpmfjjbfiiiaaa
open Lib (hid)
open List (getElem_toArray getElem_cons_succ getElem_cons_zero setIfInBounds_toArray set_cons_zero set_cons_succ)
open Go.RowKit
namespace Pl
open Cm Ac

def planVal (p:PlanV) (u:Value):Value:=.agg #[.int .i64 p.done,.int .i64 p.tv,.int .i64 p.ts,.int .i64 p.time,u,.int .i64 p.ev,.int .i64 p.es,.int .i64 p.last]
structure BoxL (w:World) (b:Nat) (d t s m:Int) (u:Value) (e f l:Int):Prop where
 ex:w.heap[b]?=some (.cells #[.int .i64 d,.int .i64 t,.int .i64 s,.int .i64 m,u,.int .i64 e,.int .i64 f,.int .i64 l] 97)
section
variable {w w' : World} {b g : Nat} {d t s m e f l : Int} {u : Value}
theorem BoxL.lt (h:BoxL w b d t s m u e f l):b<w.heap.size:=get_ltB h.ex
theorem BoxL.later (h:BoxL w b d t s m u e f l) (hb:Below w.heap.size w w'):BoxL w' b d t s m u e f l:=⟨cells_later h.ex hb⟩
theorem BoxL.gr (h:BoxL w b d t s m u e f l) (hg:w.grownBy w' (some g)) (hne:b≠g):BoxL w' b d t s m u e f l:=⟨(hg.block _ h.lt (fun q=>hne (by cases q;rfl))).trans h.ex⟩
theorem BoxL.c (h:BoxL w b d t s m u e f l):w.cell? ⟨b,0,none⟩=some (.int .i64 d)/\w.cell? ⟨b,1,none⟩=some (.int .i64 t)/\w.cell? ⟨b,2,none⟩=some (.int .i64 s)/\w.cell? ⟨b,3,none⟩=some (.int .i64 m)/\w.cell? ⟨b,4,none⟩=some u/\w.cell? ⟨b,5,none⟩=some (.int .i64 e)/\w.cell? ⟨b,6,none⟩=some (.int .i64 f)/\w.cell? ⟨b,7,none⟩=some (.int .i64 l):=
 ⟨cell_at h.ex 0,cell_at h.ex 1,cell_at h.ex 2,cell_at h.ex 3,cell_at h.ex 4,cell_at h.ex 5,cell_at h.ex 6,cell_at h.ex 7⟩
theorem BoxL.fz (h:BoxL w b d t s m u e f l) (k:Nat):w.frozen? ⟨b,k,none⟩=false:=frozen_at h.ex k
theorem BoxL.new (w:World) (d t s m:Int) (u:Value) (e f l:Int) (b:Nat) (hb:w.heap.size=b):BoxL (w.alloc (.cells #[.int .i64 d,.int .i64 t,.int .i64 s,.int .i64 m,u,.int .i64 e,.int .i64 f,.int .i64 l] 97)) b d t s m u e f l:=⟨alloc_atB w _ _ hb⟩
def putL (w:World) (b:Nat) (d t s m:Int) (u:Value) (e f l:Int):World:=(((((((w.setCell ⟨b,0,none⟩ (.int .i64 d)).setCell ⟨b,1,none⟩ (.int .i64 t)).setCell ⟨b,2,none⟩ (.int .i64 s)).setCell ⟨b,3,none⟩ (.int .i64 m)).setCell ⟨b,4,none⟩ u).setCell ⟨b,5,none⟩ (.int .i64 e)).setCell ⟨b,6,none⟩ (.int .i64 f)).setCell ⟨b,7,none⟩ (.int .i64 l)
theorem BoxL.put {d' t' s' m' e' f' l':Int} {u':Value} (h:BoxL w b d' t' s' m' u' e' f' l'):BoxL (putL w b d t s m u e f l) b d t s m u e f l:=by
 refine⟨?_⟩
 unfold putL
 rw[set_atB (set_atB (set_atB (set_atB (set_atB (set_atB (set_atB (set_atB h.ex _ _) _ _) _ _) _ _) _ _) _ _) _ _) _ _]
 simp only[setIfInBounds_toArray,set_cons_zero,set_cons_succ]
theorem below_putL {B:Nat} {a:World} (h:Below B a w) (hb:B<=b):Below B a (putL w b d t s m u e f l):=
 (((((((h.setCell (p:=⟨b,0,none⟩) hb _).setCell (p:=⟨b,1,none⟩) hb _).setCell (p:=⟨b,2,none⟩) hb _).setCell (p:=⟨b,3,none⟩) hb _).setCell (p:=⟨b,4,none⟩) hb _).setCell (p:=⟨b,5,none⟩) hb _).setCell (p:=⟨b,6,none⟩) hb _).setCell (p:=⟨b,7,none⟩) hb _
theorem grown_putL:w.grownBy (putL w b d t s m u e f l) (some b):=
 (((((((grown_set1 w b _ _).trans (grown_set1 _ b _ _)).trans (grown_set1 _ b _ _)).trans (grown_set1 _ b _ _)).trans (grown_set1 _ b _ _)).trans (grown_set1 _ b _ _)).trans (grown_set1 _ b _ _)).trans (grown_set1 _ b _ _)
theorem BoxL.three {e' f' l':Int} (h:BoxL w b d t s m u e' f' l'):BoxL (((w.setCell ⟨b,5,none⟩ (.int .i64 e)).setCell ⟨b,6,none⟩ (.int .i64 f)).setCell ⟨b,7,none⟩ (.int .i64 l)) b d t s m u e f l:=by
 refine⟨?_⟩
 rw[set_atB (set_atB (set_atB h.ex _ _) _ _) _ _]
 rfl
theorem below_three {B:Nat} {a:World} (h:Below B a w) (hb:B<=b):Below B a (((w.setCell ⟨b,5,none⟩ (.int .i64 e)).setCell ⟨b,6,none⟩ (.int .i64 f)).setCell ⟨b,7,none⟩ (.int .i64 l)):=
 ((h.setCell (p:=⟨b,5,none⟩) hb _).setCell (p:=⟨b,6,none⟩) hb _).setCell (p:=⟨b,7,none⟩) hb _
theorem grown_three:w.grownBy (((w.setCell ⟨b,5,none⟩ (.int .i64 e)).setCell ⟨b,6,none⟩ (.int .i64 f)).setCell ⟨b,7,none⟩ (.int .i64 l)) (some b):=
 ((grown_set1 w b _ _).trans (grown_set1 _ b _ _)).trans (grown_set1 _ b _ _)
theorem OwnBs.other {base:Nat} {v:Value} {L:List BatC} {cs:Array Value} {ty:TypeId} (h:OwnBs base w v L) (hg:w.grownBy w' (some b)) (hx:w.heap[b]?=some (.cells cs ty)) (n1:42≠ty) (n2:71≠ty):OwnBs base w' v L:=
 ⟨Rw.own_keep h.row fun k hk=>hg.block k (Rw.own_lt h.row k hk).2 (fun q=>by cases q;exact ho_ne h.row hx n1 hk),fun x hx'=>Rw.own_keep (h.reqs x hx') fun k hk=>hg.block k (Rw.own_lt (h.reqs x hx') k hk).2 (fun q=>by cases q;exact ho_ne (h.reqs x hx') hx n2 hk)⟩
end

def GivesP (r:PlanV × Int) (w:World) (e:Ending) (w':World):Prop:=
 ∃va,∃vc,∃Lb:List BatC,e= .returned (.tuple #[planVal r.1 (.slice va Lb.length vc),.int .i64 r.2])/\valsB Lb=r.1.bats/\OwnBs w.heap.size w' (.slice va Lb.length vc) Lb/\Below w.heap.size w w'
theorem sorted_head {L:List PromC} (h0:0<L.length): ∃p r,sortC L=p::r:=by
 have:0<(sortC L).length :=by rw[sortC_length];exact h0
 match sortC L,this with
 | p::r,_=>exact⟨p,r,rfl⟩
theorem fit_votes {L:List PromC} (h: ∀x∈valsP L,mayP x=true) {d:Int} (hd: ∀x∈valsP L,x.done<=d): ∀p∈L,∀x∈p.votes,FitV d x:=by
 intro p hp x hx
 have hm:p.val∈valsP L:=List.mem_map.2 ⟨p,hp,rfl⟩
 have ho:=mayP_ok (h _ hm)
 have hv:=ho.votes x.val (List.mem_map.2 ⟨x,hx,rfl⟩)
 have h0:=ho.d0
 have h1:=hd _ hm
 have h3:=mayB_few hv.may
 have l1:=hv.low
 have l2:=hv.most
 have l3:=hv.high
 have e:x.val.slot=x.slot:=rfl
 have e2:x.val.bat=x.bat:=rfl
 rw[e] at l1 l2 l3
 rw[e2] at h3
 exact⟨by omega,l3,by omega,by omega⟩
set_option maxHeartbeats 16000000 in
theorem Make_any (v:Value) (L:List PromC) (w:World) (h:RdP w v L) (hN:L.length<=12):
  Calls Try.prog 52 #[v] w (GivesP (makeF (valsP L)) w):=by
 obtain⟨a,cap,rfl⟩:=h.form
 obtain⟨_,_,hv,hlc,hcm, -⟩:=h.row.ex
 cases hv
 have hb0:=newAlloc w (.cells #[.int .i64 0,.int .i64 0,.int .i64 0,.int .i64 0,.slice none 0 0,.int .i64 0,.int .i64 0,.int .i64 0] 97)
 have hx0:BoxL _ w.heap.size 0 0 0 0 (.slice none 0 0) 0 0 0:=BoxL.new w 0 0 0 0 (.slice none 0 0) 0 0 0 _ rfl
 have HB0:=hid hb0
 have HX0:=hid hx0
 have hl0:=valsP_length L
 unfold GivesP
 by_cases hz:L.length=0
 ·have HE:Hid (makeF (valsP L)=(zeroL,6)):=hid (by unfold makeF;rw[hl0,if_pos hz])
  rw[HE.out]
  clear h hl0
  generalize L.length=N at*
  subst hz
  obtain⟨c0,c1,c2,c3,c4,c5,c6,c7⟩:=hx0.c
  have cf:=hx0.fz
  have HBF:=hid (below_putL (d:=0) (t:=0) (s:=0) (m:=0) (u:=.slice none 0 0) (e:=0) (f:=0) (l:=0) (b:=w.heap.size) hb0 (Nat.le_refl _))
  unfold putL at HBF
  clear hb0 hx0
  go_enter Try.func52,Try.ntmps52
  go_wp2
  refine bodyPost_ret (by simp [results,Try.results52,go_sem,c0,c1,c2,c3,c4,c5,c6,c7]<;>rfl) rfl ⟨none,0,[],rfl,rfl,OwnBs.nil _ _,HB0.out⟩
 have h0:0<L.length:=by omega
 clear hz hb0 hx0
 have HL0:=hid h0
 have HN12:=hid hN
 have HRP:=hid h
 have HA:=hid (fun i hi=>rdp_at h.row i hi)
 have HR:=hid h.votes
 have HG:=hid (fun i (hi:i<L.length) hi'=>valsP_get L i hi hi')
 have HBY:=hid (fun W (hb:Below w.heap.size w W)=>byFrom_any _ L hN h0 W (h.row.later hb))
 have HNZ:Hid (valsP L≠ []):=hid (fun q=>by have:=congrArg List.length q;rw[hl0,List.length_nil] at this;omega)
 clear h
 obtain⟨V,hV⟩: ∃V,valsP L=V:=⟨_,rfl⟩
 rw[hV] at HG HNZ hl0 ⊢
 have HVV:=hid hV
 clear hV
 obtain⟨N,hn⟩: ∃N,L.length=N:=⟨_,rfl⟩
 have HN:=hid hn
 rw[hn] at hlc hl0 h0 hN HBY ⊢
 have HV:=hid hl0
 clear hn hl0
 have HBAD:Hid (okS [] V=false->makeF V=(zeroL,1)):=hid (fun q=>by unfold makeF;rw[if_neg (by rw[HV.out];omega),if_pos q])
 have HGOOD:Hid (okS [] V=true->makeF V=(planF (sortP V),0)):=hid (fun q=>by unfold makeF;rw[if_neg (by rw[HV.out];omega),if_neg (by rw[q];decide)])
 have h0':((N:Int)==0)=false:=by simp;omega
 go_enter Try.func52,Try.ntmps52
 go_upto_region 3 with fail
 generalize w.alloc (.cells #[.int .i64 0,.int .i64 0,.int .i64 0,.int .i64 0,.slice none 0 0,.int .i64 0,.int .i64 0,.int .i64 0] 97)=W0 at HB0 HX0 ⊢
 go_wp2
 go_loopw [3,5,14] (fun _ _ i wr=> ∃j:Nat,j<=N/\i= .int .i64 (j:Int)/\Hid (Below w.heap.size w wr)/\Hid (BoxL wr w.heap.size 0 0 0 0 (.slice none 0 0) 0 0 0)/\Hid (∀x∈V.take j,mayP x=true)) (fun _ _ i _=>N - (intOf i).toNat)
 case atStart=>exact⟨0,by omega,rfl,HB0,HX0,hid (fun x hx=>by simp at hx)⟩
 case round=>
  obtain⟨j,hj,rfl,HB,HX,HM⟩:=hrel
  by_cases hlt:j<N
  case pos=>
   have hjl:j<L.length:=by rw[HN.out];exact hlt
   have hjv:j<V.length:=by rw[HV.out];exact hlt
   obtain⟨b,o,rfl,hc⟩:=HA.out j hjl
   obtain⟨q0,q1,q2,q3,q4,q5⟩:=hc _ HB.out
   have hr:=HR.out L[j] (mem_get hjl)
   have hg:=HG.out j hjl hjv
   have htk:V.take (j+1)=V.take j++ [V[j]]:=List.take_succ_eq_append_getElem hjv
   have hmem:V[j]∈V:=mem_get hjv
   rw[hg] at htk hmem
   obtain⟨p,hp⟩: ∃p,L[j]=p:=⟨_,rfl⟩
   rw[hp] at q0 q1 q2 q3 q4 q5 hr htk hmem
   clear hc hp hg
   have hbx:=newAlloc wr (promObj p)
   have CM:=hid (fun W (hb:Below w.heap.size w W)=>MayP_any p W (hr.later hb))
   have HNO:Hid (mayP p.val=false->okS [] V=false):=hid (fun q=>by
    cases q2:okS [] V
    ·rfl
    ·rw[((okS_iff V []).1 q2).1 _ hmem] at q
     cases q)
   have HYE:Hid (mayP p.val=true-> ∀x∈V.take (j+1),mayP x=true):=hid (fun q x hx=>by
    rw[htk,List.mem_append,List.mem_singleton] at hx
    rcases hx with hx | rfl
    ·exact HM.out x hx
    ·exact q)
   generalize mayP p.val=MB at CM HNO HYE
   clear hmem htk hr hjl hjv
   obtain⟨pw,pd,pv,ps,pt,pl,pa,pc⟩:=p
   unfold promObj PromC.u at hbx
   unfold PromC.u at q5
   unfold promVal PromC.u at CM
   dsimp only at q0 q1 q2 q3 q4 q5 hbx CM
   generalize pl.length=pn at*
   obtain⟨m0,m1,m2,m3,m4,m5⟩:=box6p (Below.refl _ (wr.alloc (.cells #[.int .i64 pw,.int .i64 pd,.int .i64 pv,.int .i64 ps,.int .i64 pt,.slice pa pn pc] 59)))
   have HB1:=hid (step HB.out hbx)
   have HX1:=hid (HX.out.later hbx)
   have hj0:(0:Int)<=(j:Int):=by omega
   have hj1:(j:Int)<(N:Int):=by omega
   go_upto_region 6 with fail
   generalize wr.alloc (.cells #[.int .i64 pw,.int .i64 pd,.int .i64 pv,.int .i64 ps,.int .i64 pt,.slice pa pn pc] 59)=W1 at m0 m1 m2 m3 m4 m5 HB1 HX1 ⊢
   clear hbx q0 q1 q2 q3 q4 q5
   cases MB
   case false=>
    have HE:=hid (HBAD.out (HNO.out rfl))
    go_upto_region 7 with (go_at_call 38;refine(CM.out _ HB1.out).mono ?_;rintro e w2 ⟨rfl,hb2⟩;have HB2:=hid (step HB1.out hb2);have HX2:=hid (HX1.out.later hb2);clear hb2)
    obtain⟨c0,c1,c2,c3,c4,c5,c6,c7⟩:=HX2.out.c
    have cf:=HX2.out.fz
    have HBF:=hid (below_putL (d:=0) (t:=0) (s:=0) (m:=0) (u:=.slice none 0 0) (e:=0) (f:=0) (l:=0) (b:=w.heap.size) HB2.out (Nat.le_refl _))
    unfold putL at HBF
    go_wp2
    refine bodyPost_ret (by simp [results,Try.results52,go_sem,c0,c1,c2,c3,c4,c5,c6,c7]<;>rfl) rfl ⟨none,0,[],by rw[HE.out];rfl,by rw[HE.out];rfl,OwnBs.nil _ _,HBF.out⟩
   have HYES:=hid (HYE.out rfl)
   go_wp2_with (go_at_call 38;refine(CM.out _ HB1.out).mono ?_;rintro e w2 ⟨rfl,hb2⟩;have HB2:=hid (step HB1.out hb2);have HX2:=hid (HX1.out.later hb2);clear hb2)
   go_roundw
   case rel=>exact⟨j+1,by omega,by go_num,HB2,HX2,HYES⟩
   case measure=>simp [intOf];omega
  obtain rfl:j=N:=by omega
  have HALL:Hid (∀x∈V,mayP x=true):=hid (by have:=HM.out;rw[<-HV.out,List.take_length] at this;exact this)
  have HTW:=hid (twins_ok HALL.out)
  clear hlt hj HM
  obtain⟨wo,rfl⟩: ∃wo,wo=wr:=⟨_,rfl⟩
  go_upto_region 10 with (go_at_call 63;refine(HBY.out _ HB.out).mono ?_;rintro e w2 hs;obtain⟨v2,rfl,ho,hb2⟩:=hs;obtain⟨ga,gc,hv2⟩:=own_shape ho HL0.out;subst hv2;have HO2:=hid ho;have HB2:=hid (step HB.out hb2);have HX2:=hid (HX.out.later hb2);clear ho hb2)
  have HRD:Hid (RdX 6 cellsP w2 (.slice (some ⟨ga,0,none⟩) L.length gc) (sortC L)):=hid (RdX.own cellsP_length (by have:=HO2.out;rw[sortC_length];exact this))
  have CT:=hid (hasTwins_any _ (sortC L) w2 HRD.out (by rw[sortC_length];exact HL0.out))
  rw[sortC_vals,HVV.out,HTW.out] at CT
  rw[HN.out] at HRD CT HO2 ⊢
  cases hok:okS [] V
  case false=>
   rw[hok] at CT
   have HE:=hid (HBAD.out hok)
   clear hok
   go_upto_region 11 with (go_at_call 64;refine CT.out.mono ?_;rintro e w3 ⟨rfl,hb3⟩;have HB3:=hid (step HB2.out hb3);have HX3:=hid (HX2.out.later hb3);clear hb3)
   obtain⟨c0,c1,c2,c3,c4,c5,c6,c7⟩:=HX3.out.c
   have cf:=HX3.out.fz
   have HBF:=hid (below_putL (d:=0) (t:=0) (s:=0) (m:=0) (u:=.slice none 0 0) (e:=0) (f:=0) (l:=0) (b:=w.heap.size) HB3.out (Nat.le_refl _))
   unfold putL at HBF
   go_wp2
   refine bodyPost_ret (by simp [results,Try.results52,go_sem,c0,c1,c2,c3,c4,c5,c6,c7]<;>rfl) rfl ⟨none,0,[],by rw[HE.out];rfl,by rw[HE.out];rfl,OwnBs.nil _ _,HBF.out⟩
  rw[hok] at CT
  have HE:=hid (HGOOD.out hok)
  clear hok
  obtain⟨p0,r0,hpr⟩:=sorted_head (L:=L) HL0.out
  have HPR:=hid hpr
  clear hpr
  go_upto_region 12 with (go_at_call 64;refine CT.out.mono ?_;rintro e w3 ⟨rfl,hb3⟩;have HB3:=hid (step HB2.out hb3);have HX3:=hid (HX2.out.later hb3);have HRD3:=hid (HRD.out.later hb3);clear hb3)
  have CW:=hid (newest_any _ p0 r0 w3 (by rw[<-HPR.out];exact HRD3.out))
  have HVS:Hid (p0.val::valsP r0=sortP V):=hid (by have:=congrArg valsP HPR.out;rw[sortC_vals,HVV.out] at this;exact this.symm)
  have hxm:newC p0 r0∈p0::r0:=by
   rcases newC_mem r0 p0 with e | e
   ·rw[e];exact List.mem_cons_self
   ·exact List.mem_cons_of_mem _ e
  have hxv:=newC_val p0 r0
  have hxmost:=newF_most (valsP r0) p0.val
  obtain⟨x,hx⟩: ∃x,newC p0 r0=x:=⟨_,rfl⟩
  rw[hx] at CW hxm hxv
  rw[<-hxv] at hxmost
  have HXV:Hid (newF p0.val (valsP r0)=x.val):=hid hxv.symm
  have hxok:=mayP_ok (HALL.out x.val ((sortP_perm V).mem_iff.1 (by rw[<-HVS.out];exact List.mem_map.2 ⟨x,hxm,rfl⟩)))
  have hfit:=fit_votes (L:=L) (d:=x.done) (by rw[HVV.out];exact HALL.out) (by rw[HVV.out];exact fun y hy=>hxmost y (by rw[HVS.out];exact(sortP_perm V).mem_iff.2 hy))
  have hfit2: ∀p∈sortC L,∀y∈p.votes,FitV x.done y:=fun p hp=>hfit p ((sortC_perm L).mem_iff.1 hp)
  have hvot: ∀p∈sortC L,RdV w p.u p.votes:=fun p hp=>HR.out p ((sortC_perm L).mem_iff.1 hp)
  have HD01:Hid (0<=x.done/\x.done<=2305843009213693952):=hid ⟨hxok.d0,hxok.d1⟩
  have CBT:=hid (fun W (hb:Below w3.heap.size w3 W)=>batches_any _ (sortC L) x.done W ⟨HRD3.out.later hb,fun p hp=>(hvot p hp).later (step HB3.out hb)⟩ hxok.d0 hxok.d1 hfit2)
  rw[sortC_vals,HVV.out] at CBT
  have HPLAN:Hid (planF (sortP V)=(let b:=batsF (sortP V) x.done;let e:=walkF ⟨x.tv,x.ts,x.time⟩ (startF (x.done+1)) b;⟨x.done,x.tv,x.ts,x.time,b,e.tv,e.ts,e.time⟩)):=hid (by
   rw[<-HVS.out]
   unfold planF
   simp only
   rw[HXV.out]
   rfl)
  have HBAT9:Hid ((batsF (sortP V) x.done).length <=9):=hid (batsF_len _ _)
  unfold GivesBs at CBT
  generalize batsF (sortP V) x.done=BS at CBT HPLAN HBAT9
  clear hx hxm hxv hxmost hxok hfit hfit2 hvot CT HBY HRD HRD3 HO2
  obtain⟨xw,xd,xv,xs,xt,xl,xa,xc⟩:=x
  unfold promVal PromC.u at CW
  dsimp only at CW CBT HD01 HPLAN
  generalize xl.length=xn at CW
  go_upto_region 13 with (go_at_call 65;refine CW.out.mono ?_;rintro e w4 ⟨rfl,hb4⟩;have HB4:=hid (step HB3.out hb4);have HX4:=hid (HX3.out.later hb4);have HBB4:=hid hb4;clear hb4)
  have hbx:=newAlloc w4 (.cells #[.int .i64 xw,.int .i64 xd,.int .i64 xv,.int .i64 xs,.int .i64 xt,.slice xa xn xc] 59)
  have HP5:Hid (∀W,Below (w4.alloc (.cells #[.int .i64 xw,.int .i64 xd,.int .i64 xv,.int .i64 xs,.int .i64 xt,.slice xa xn xc] 59)).heap.size (w4.alloc (.cells #[.int .i64 xw,.int .i64 xd,.int .i64 xv,.int .i64 xs,.int .i64 xt,.slice xa xn xc] 59)) W->W.cell? ⟨w4.heap.size,0,none⟩=some (.int .i64 xw)/\W.cell? ⟨w4.heap.size,1,none⟩=some (.int .i64 xd)/\W.cell? ⟨w4.heap.size,2,none⟩=some (.int .i64 xv)/\W.cell? ⟨w4.heap.size,3,none⟩=some (.int .i64 xs)/\W.cell? ⟨w4.heap.size,4,none⟩=some (.int .i64 xt)/\W.cell? ⟨w4.heap.size,5,none⟩=some (.slice xa xn xc)):=hid (fun W hb=>box6p hb)
  have HB5:=hid (step HB4.out hbx)
  have HBB5:=hid (step HBB4.out hbx)
  have HX5:=hid (HX4.out.later hbx)
  generalize hg6:w4.heap.size=g6 at HP5 ⊢
  generalize w4.alloc (.cells #[.int .i64 xw,.int .i64 xd,.int .i64 xv,.int .i64 xs,.int .i64 xt,.slice xa xn xc] 59)=W5 at HP5 HB5 HBB5 HX5 ⊢
  clear hbx hg6
  refine wp_region_held_drew (S:=(fun W=>(W.cell? ⟨g6,0,none⟩=some (.int .i64 xw)/\W.cell? ⟨g6,1,none⟩=some (.int .i64 xd)/\W.cell? ⟨g6,2,none⟩=some (.int .i64 xv)/\W.cell? ⟨g6,3,none⟩=some (.int .i64 xs)/\W.cell? ⟨g6,4,none⟩=some (.int .i64 xt)/\W.cell? ⟨g6,5,none⟩=some (.slice xa xn xc)))) (by kernel_rfl) (HP5.out _ (Below.refl _ _).drew) (fun hHeld=>?_)
  obtain⟨V,hV⟩: ∃V,V=W5.drew:=⟨_,rfl⟩
  have HB:Hid (Below W5.heap.size W5 V):=hid (by rw[hV];exact(Below.refl _ _).drew)
  rw[<-hV] at hHeld ⊢
  clear hV
  refine wpAnyH_take (i:=0) (v:=?_) rfl (by kernel_rfl) (by kernel_rfl) (by kernel_rfl) (fun _ _ _ h=>h) (Or.inl ⟨by rfl,?_⟩) (by assumption) ?_
  rotate_left
  ·intro w hSw;(try dsimp only at hSw);go_simp<;>with_reducible rfl
  try simp only[Act.put,getElem_toArray,getElem_cons_succ,getElem_cons_zero,setIfInBounds_toArray,set_cons_zero,set_cons_succ]
  refine wpAnyH_take (i:=1) (v:=?_) rfl (by kernel_rfl) (by kernel_rfl) (by kernel_rfl) (fun _ _ _ h=>h) (Or.inl ⟨by rfl,?_⟩) (by assumption) ?_
  rotate_left
  ·intro w hSw;(try dsimp only at hSw);go_simp<;>with_reducible rfl
  try simp only[Act.put,getElem_toArray,getElem_cons_succ,getElem_cons_zero,setIfInBounds_toArray,set_cons_zero,set_cons_succ]
  refine wpAnyH_take (i:=2) (v:=?_) rfl (by kernel_rfl) (by kernel_rfl) (by kernel_rfl) (fun _ _ _ h=>h) (Or.inl ⟨by rfl,?_⟩) (by assumption) ?_
  rotate_left
  ·intro w hSw;(try dsimp only at hSw);go_simp<;>with_reducible rfl
  try simp only[Act.put,getElem_toArray,getElem_cons_succ,getElem_cons_zero,setIfInBounds_toArray,set_cons_zero,set_cons_succ]
  refine wpAnyH_take (i:=3) (v:=?_) rfl (by kernel_rfl) (by kernel_rfl) (by kernel_rfl) (fun _ _ _ h=>h) (Or.inl ⟨by rfl,?_⟩) (by assumption) ?_
  rotate_left
  ·intro w hSw;(try dsimp only at hSw);go_simp<;>with_reducible rfl
  try simp only[Act.put,getElem_toArray,getElem_cons_succ,getElem_cons_zero,setIfInBounds_toArray,set_cons_zero,set_cons_succ]
  refine wpAnyH_take (i:=4) (v:=?_) rfl (by kernel_rfl) (by kernel_rfl) (by kernel_rfl) (fun _ _ _ h=>h) (Or.inl ⟨by rfl,?_⟩) (by assumption) ?_
  rotate_left
  ·intro w hSw;(try dsimp only at hSw);go_simp<;>with_reducible rfl
  try simp only[Act.put,getElem_toArray,getElem_cons_succ,getElem_cons_zero,setIfInBounds_toArray,set_cons_zero,set_cons_succ]
  refine wpAnyH_take (i:=5) (v:=?_) rfl (by kernel_rfl) (by kernel_rfl) (by kernel_rfl) (fun _ _ _ h=>h) (Or.inl ⟨by rfl,?_⟩) (by assumption) ?_
  rotate_left
  ·intro w hSw;(try dsimp only at hSw);go_simp<;>with_reducible rfl
  try simp only[Act.put,getElem_toArray,getElem_cons_succ,getElem_cons_zero,setIfInBounds_toArray,set_cons_zero,set_cons_succ]
  refine wpAnyH_take (i:=6) (v:=?_) rfl (by kernel_rfl) (by kernel_rfl) (by kernel_rfl) (fun _ _ _ h=>h) (Or.inl ⟨by rfl,?_⟩) (by assumption) ?_
  rotate_left
  ·intro w hSw;(try dsimp only at hSw);go_simp<;>with_reducible rfl
  try simp only[Act.put,getElem_toArray,getElem_cons_succ,getElem_cons_zero,setIfInBounds_toArray,set_cons_zero,set_cons_succ]
  refine wpAnyH_take (i:=7) (v:=?_) rfl (by kernel_rfl) (by kernel_rfl) (by kernel_rfl) (fun _ _ _ h=>h) (Or.inl ⟨by rfl,?_⟩) (by assumption) ?_
  rotate_left
  ·intro w hSw;(try dsimp only at hSw);go_simp<;>with_reducible rfl
  try simp only[Act.put,getElem_toArray,getElem_cons_succ,getElem_cons_zero,setIfInBounds_toArray,set_cons_zero,set_cons_succ]
  refine wpAnyH_take (i:=8) (v:=?_) rfl (by kernel_rfl) (by kernel_rfl) (by kernel_rfl) (fun _ _ _ h=>h) (Or.inl ⟨by rfl,?_⟩) (by assumption) ?_
  rotate_left
  ·intro w hSw;(try dsimp only at hSw);go_simp<;>with_reducible rfl
  try simp only[Act.put,getElem_toArray,getElem_cons_succ,getElem_cons_zero,setIfInBounds_toArray,set_cons_zero,set_cons_succ]
  refine Ev.events [(9,some 39),(10,some 40),(11,some 7),(12,none)] (fun(l:Nat->Bool) (v:Nat->Value) (W:World)=>Hid (Below W5.heap.size W5 W)/\(l 9=true-> ∃(va:Option Addr) (vc:Nat) (Lb:List BatC),v 9= .slice va (List.length Lb) vc/\valsB Lb=BS/\OwnBs W5.heap.size W (.slice va Lb.length vc) Lb)/\(l 10=true-> ∃(va:Option Addr) (vc:Nat) (Lb:List BatC),v 10= .agg #[.int .i64 xd,.int .i64 xv,.int .i64 xs,.int .i64 xt,.slice va Lb.length vc,.int .i64 0,.int .i64 0,.int .i64 0]/\valsB Lb=BS/\OwnBs W5.heap.size W (.slice va Lb.length vc) Lb)/\(l 11=true-> ∃(g:Nat) (d t s m:Int) (u:Value),v 11= .pointer (some ⟨g,0,none⟩)/\W5.heap.size<=g/\BoxL W g d t s m u 0 0 0)/\(l 12=true->(∃(g:Nat) (va:Option Addr) (vc:Nat) (Lb:List BatC),v 11= .pointer (some ⟨g,0,none⟩)/\W5.heap.size<=g/\BoxL W g xd xv xs xt (.slice va (List.length Lb) vc) 0 0 0/\valsB Lb=BS/\OwnBs W5.heap.size W (.slice va Lb.length vc) Lb)/\l 11=true)) (by kernel_rfl) (by kernel_rfl) (by kernel_rfl) ?h0 (fun l v W h=>by obtain⟨HB,H⟩:=h;exact HP5.out _ HB.out) ?hstep ?hend
  case h0=>exact⟨HB,fun h=>absurd h (by decide+kernel),fun h=>absurd h (by decide+kernel),fun h=>absurd h (by decide+kernel),fun h=>absurd h (by decide+kernel)⟩
  case hstep=>
   refine Ev.AllEv.cons rfl (fun l v W hF hl hd K hK=>?_) ?_
   ·have HF:=hid hF
    have HL:=hid hl
    clear hF hl
    clear hd
    simp only[Ev.putAll,Act.put,setIfInBounds_toArray,set_cons_zero,set_cons_succ] at hK ⊢
    have HB:=HF.out.1
    go_simp
    go_at_call 66
    refine(CBT.out _ (step HBB5.out HB.out)).mono ?_
    rintro e W2 ⟨va,vc,Lb,rfl,hvb,hob,hb⟩
    have hob:=hob.lower HB.out.size
    obtain⟨_,E9,E10,E11,E12⟩:=HF.out
    exact hK.out _ _ ⟨hid (step HB.out hb),(fun _=>⟨va,vc,Lb,rfl,hvb,hob⟩),(fun h=>by obtain⟨va,vc,Lb,h1,h2,h3⟩:=E10 h;exact⟨va,vc,Lb,h1,h2,h3.later hb⟩),(fun h=>by obtain⟨g,d,t,s,m,u,h1,h2,h3⟩:=E11 h;exact⟨g,d,t,s,m,u,h1,h2,h3.later hb⟩),(fun h=>by obtain⟨⟨g,va,vc,Lb,h1,h2,h3,h4,h5⟩,h6⟩:=E12 h;exact⟨⟨g,va,vc,Lb,h1,h2,h3.later hb,h4,h5.later hb⟩,h6⟩)⟩
   refine Ev.AllEv.cons rfl (fun l v W hF hl hd K hK=>?_) ?_
   ·have HF:=hid hF
    have HL:=hid hl
    clear hF hl
    have l9:=hd 9 (by kernel_rfl)
    clear hd
    simp only[Ev.putAll,Act.put,setIfInBounds_toArray,set_cons_zero,set_cons_succ] at hK ⊢
    have HB:=HF.out.1
    obtain⟨va,vc,Lb,h9,hvb,hob⟩:=HF.out.2.1 l9
    rw[h9] at hK ⊢
    have hb:=Below.refl W.heap.size W
    clear h9
    go_simp
    obtain⟨_,E9,E10,E11,E12⟩:=HF.out
    exact hK.out _ _ ⟨hid (step HB.out hb),(fun h=>by obtain⟨va,vc,Lb,h1,h2,h3⟩:=E9 h;exact⟨va,vc,Lb,h1,h2,h3.later hb⟩),(fun _=>⟨va,vc,Lb,rfl,hvb,hob⟩),(fun h=>by obtain⟨g,d,t,s,m,u,h1,h2,h3⟩:=E11 h;exact⟨g,d,t,s,m,u,h1,h2,h3.later hb⟩),(fun h=>by obtain⟨⟨g,va,vc,Lb,h1,h2,h3,h4,h5⟩,h6⟩:=E12 h;exact⟨⟨g,va,vc,Lb,h1,h2,h3.later hb,h4,h5.later hb⟩,h6⟩)⟩
   refine Ev.AllEv.cons rfl (fun l v W hF hl hd K hK=>?_) ?_
   ·have HF:=hid hF
    have HL:=hid hl
    clear hF hl
    clear hd
    simp only[Ev.putAll,Act.put,setIfInBounds_toArray,set_cons_zero,set_cons_succ] at hK ⊢
    have HB:=HF.out.1
    go_simp
    have hb:=newAlloc W (.cells #[.int .i64 0,.int .i64 0,.int .i64 0,.int .i64 0,.slice none 0 0,.int .i64 0,.int .i64 0,.int .i64 0] 97)
    obtain⟨_,E9,E10,E11,E12⟩:=HF.out
    exact hK.out _ _ ⟨hid (step HB.out hb),(fun h=>by obtain⟨va,vc,Lb,h1,h2,h3⟩:=E9 h;exact⟨va,vc,Lb,h1,h2,h3.later hb⟩),(fun h=>by obtain⟨va,vc,Lb,h1,h2,h3⟩:=E10 h;exact⟨va,vc,Lb,h1,h2,h3.later hb⟩),(fun _=>⟨W.heap.size,0,0,0,0,.slice none 0 0,rfl,HB.out.size,BoxL.new W 0 0 0 0 (.slice none 0 0) 0 0 0 _ rfl⟩),(fun h=>absurd (E12 h).2 (by rw[HL.out];decide))⟩
   refine Ev.AllEv.cons rfl (fun l v W hF hl hd K hK=>?_) ?_
   ·have HF:=hid hF
    have HL:=hid hl
    clear hF hl
    have l10:=hd 10 (by kernel_rfl)
    have l11:=hd 11 (by kernel_rfl)
    clear hd
    simp only[Ev.putAll,Act.put,setIfInBounds_toArray,set_cons_zero,set_cons_succ] at hK ⊢
    have HB:=HF.out.1
    obtain⟨va,vc,Lb,h10,hvb,hob⟩:=HF.out.2.2.1 l10
    obtain⟨g,d0,t0,s0,m0,u0,hg,hge,hq⟩:=HF.out.2.2.2.1 l11
    rw[h10,hg] at hK ⊢
    have HQ0:=hid hq
    obtain⟨x0,x1,x2,x3,x4,x5,x6,x7⟩:=hq.c
    have xf:=hq.fz
    have HG:=hid hg
    have HVB:=hid hvb
    have HOB:=hid hob
    clear h10 hg hq hvb hob
    go_simp
    obtain⟨_,E9,E10,E11,E12⟩:=HF.out
    exact hK.out undef _ ⟨hid (below_putL HB.out hge),(fun h=>by obtain⟨va,vc,Lb,h1,h2,h3⟩:=E9 h;exact⟨va,vc,Lb,h1,h2,h3.other grown_putL HQ0.out.ex (by decide) (by decide)⟩),(fun h=>by obtain⟨va,vc,Lb,h1,h2,h3⟩:=E10 h;exact⟨va,vc,Lb,h1,h2,h3.other grown_putL HQ0.out.ex (by decide) (by decide)⟩),(fun _=>⟨g,xd,xv,xs,xt,.slice va Lb.length vc,HG.out,hge,HQ0.out.put⟩),(fun _=>⟨⟨g,va,vc,Lb,HG.out,hge,HQ0.out.put,HVB.out,HOB.out.other grown_putL HQ0.out.ex (by decide) (by decide)⟩,l11⟩)⟩
   exact Ev.AllEv.nil
  case hend=>
   intro l v W hF hall
   obtain⟨HB,E9,E10,E11,E12⟩:=hF
   simp only[Ev.putAll,Act.put,setIfInBounds_toArray,set_cons_zero,set_cons_succ]
   obtain⟨⟨g,va,vc,Lb,h7,hge,hbl,hvb,hob⟩, -⟩:=E12 (hall 12)
   rw[h7]
   have HBL:=hid hbl
   have HVB:=hid hvb
   have HOB:=hid hob
   have HGE:=hid hge
   clear E9 E10 E11 E12 h7 hall hbl hvb hob hge hHeld
   generalize v 9=u39
   generalize v 10=u40
   clear v l
   obtain⟨V6,rfl⟩: ∃V6,V6=W:=⟨_,rfl⟩
   have HX6:=hid (HX5.out.later HB.out)
   have HB6:=hid (step HB5.out HB.out)
   have HVL:Hid (Lb.length=BS.length):=hid (by rw[<-HVB.out,valsB_length])
   have CWK:=hid (fun W (hb:Below V6.heap.size V6 W)=>Walk_any xv xs xt (xd+1) _ Lb W (RdX.own cellsB_length (HOB.out.later hb).row) (by have:=HVL.out;have:=HBAT9.out;omega))
   rw[HVB.out] at CWK
   have ew:IntKind.i64.wrap (xd+1)=xd+1:=by have:=HD01.out;rw[IntKind.wrap_i64];omega
   obtain⟨er,hER⟩: ∃er,walkF ⟨xv,xs,xt⟩ (startF (xd+1)) BS=er:=⟨_,rfl⟩
   rw[hER] at CWK
   have HER:=hid hER
   clear hER
   unfold tipVal WalksT at CWK
   unfold tipVal at CWK
   have HLL:=hid (show True from trivial)
   generalize hLn:Lb.length=Ln at HBL CWK HOB
   have HLN:=hid hLn
   clear hLn
   obtain⟨x0,x1,x2,x3,x4,x5,x6,x7⟩:=HBL.out.c
   obtain⟨et,es,em⟩:=er
   dsimp only at CWK
   go_upto_region 15 with (go_at_call 67;refine(CWK.out _ (Below.refl _ _)).mono ?_;rintro e w7 ⟨rfl,hb7⟩;have HB7:=hid (step HB6.out hb7);have HX7:=hid (HX6.out.later hb7);have HL7:=hid (HBL.out.later hb7);have HO7:=hid (HOB.out.later hb7);clear hb7 x0 x1 x2 x3 x4 x5 x6 x7;obtain⟨x0,x1,x2,x3,x4,x5,x6,x7⟩:=HL7.out.c;have xf:=HL7.out.fz)
   have HGN:Hid (w.heap.size≠g):=hid (by have:=HX5.out.lt;have:=HGE.out;omega)
   have HGB:Hid (w.heap.size<=g):=hid (by have:=HX5.out.lt;have:=HGE.out;omega)
   have HX8:=hid (HX7.out.gr (grown_three (e:=et) (f:=es) (l:=em)) HGN.out)
   have HB8:=hid (below_three (e:=et) (f:=es) (l:=em) HB7.out HGB.out)
   have HL8:=hid (HL7.out.three (e:=et) (f:=es) (l:=em))
   have HO8:=hid (HO7.out.other (grown_three (e:=et) (f:=es) (l:=em)) HL7.out.ex (by decide) (by decide))
   clear x0 x1 x2 x3 x4 x5 x6 x7 xf
   generalize ((w7.setCell ⟨g,5,none⟩ (.int .i64 et)).setCell ⟨g,6,none⟩ (.int .i64 es)).setCell ⟨g,7,none⟩ (.int .i64 em)=W8 at HX8 HB8 HL8 HO8 ⊢
   obtain⟨x0,x1,x2,x3,x4,x5,x6,x7⟩:=HL8.out.c
   obtain⟨z0,z1,z2,z3,z4,z5,z6,z7⟩:=HX8.out.c
   have zf:=HX8.out.fz
   have HBF:=hid (below_putL (d:=xd) (t:=xv) (s:=xs) (m:=xt) (u:=.slice va Ln vc) (e:=et) (f:=es) (l:=em) (b:=w.heap.size) HB8.out (Nat.le_refl _))
   have HOF:=hid ((HO8.out.other (grown_putL (d:=xd) (t:=xv) (s:=xs) (m:=xt) (u:=.slice va Ln vc) (e:=et) (f:=es) (l:=em) (b:=w.heap.size)) HX8.out.ex (by decide) (by decide)).lower (base':=w.heap.size) (by have:=HX5.out.lt;omega))
   unfold putL at HBF HOF
   go_wp2
   refine bodyPost_ret (by simp [results,Try.results52,go_sem,z0,z1,z2,z3,z4,z5,z6,z7]<;>rfl) rfl ⟨va,vc,Lb,?_,?_,?_,HBF.out⟩
   ·rw[HE.out,HPLAN.out]
    dsimp only
    rw[HER.out,HLN.out]
    rfl
   ·rw[HE.out,HPLAN.out]
    exact HVB.out
   ·rw[HLN.out]
    exact HOF.out
end Pl
end Go.Proofs.Ytbpmfjjbfiiiaaa
