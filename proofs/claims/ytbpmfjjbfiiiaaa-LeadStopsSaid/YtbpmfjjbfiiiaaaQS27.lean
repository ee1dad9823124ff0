/- Texts laid together by program. -/
import Derived.Test.YtbpmfjjbfiiiaaaQS21
import Derived.Test.YtbpmfjjbfiiiaaaQS26
/- What a plan has: its slots, its ends; promises by numbers may be. No program is named here. -/
set_option linter.unusedVariables false
set_option maxRecDepth 8000
set_option linter.unusedSimpArgs false
namespace Go.Proofs.Ytbpmfjjbfiiiaaa
open Lib (hid)
open Go.RowKit
namespace Pl
open Cm Ac

theorem walkF_time: ∀(l:List BatV) (s:TipV) (t:Int),s.time<=(walkF s t l).time
 | [],s,t=>Int.le_refl _
 | b::l,s,t=>by
  rw[walkF]
  refine Int.le_trans ?_ (walkF_time l _ _)
  split
  ·show s.time<=max s.time b.time
   omega
  ·exact Int.le_refl _
structure PlanAt (l:List PromV) (R:PlanV):Prop where
 most: ∀p∈l,p.done<=R.done
 has: ∃p∈l,p.done=R.done
 len:R.bats.length<=9
 reach: ∀c∈cand l,c.2.slot - R.done<=(R.bats.length:Int)
 win: ∀c∈cand l,∀n:Nat,c.2.slot - R.done - 1=(n:Int)-> ∃w∈cand l,w.2.slot=c.2.slot/\R.bats[n]?=some w.2.bat/\ ∀c'∈cand l,c'.2.slot=c.2.slot->c'.2.ballot<=w.2.ballot
 time:R.time<=R.last
theorem plan_at {l:List PromV} (hok:okS [] l=true) (h0:l.length≠0):PlanAt l (planF (sortP l)):=by
 obtain⟨hall,hdis, -⟩:=(okS_iff l []).1 hok
 have hperm:=sortP_perm l
 have hmem: ∀z,z∈l ↔ z∈sortP l:=fun z=>hperm.mem_iff.symm
 have hall2: ∀p∈sortP l,mayP p=true:=fun p hp=>hall p ((hmem p).2 hp)
 have hcm: ∀c,c∈cand (sortP l) ↔ c∈cand l:=fun c=>by
  rw[mem_cand,mem_cand]
  constructor
  ·rintro ⟨p,hp,h⟩;exact⟨p,(hmem p).2 hp,h⟩
  ·rintro ⟨p,hp,h⟩;exact⟨p,(hmem p).1 hp,h⟩
 obtain⟨p',r',hs⟩: ∃p' r',sortP l=p'::r':=by
  have:(sortP l).length ≠0:=by rw[sortP_length];exact h0
  match sortP l,this with
  | p::r,_=>exact⟨p,r,rfl⟩
 obtain⟨x,hx⟩: ∃x,newF p' r'=x:=⟨_,rfl⟩
 have hxm:x∈sortP l:=by rw[hs,<-hx];exact newF_mem r' p'
 have hxo:=mayP_ok (hall2 x hxm)
 have hmost: ∀q∈sortP l,q.done<=x.done:=fun q hq=>by rw[<-hx];exact newF_most r' p' q (by rw[<-hs];exact hq)
 have hB:=bestB_is hall2 (sortP_rise l) hxo.d0 hmost
 have e2:planF (sortP l)=(let b:=batsF (sortP l) x.done;let e:=walkF ⟨x.tv,x.ts,x.time⟩ (startF (x.done+1)) b;(⟨x.done,x.tv,x.ts,x.time,b,e.tv,e.ts,e.time⟩:PlanV)):=by
  rw[<-hx,hs]
  rfl
 rw[e2]
 have hc9:(bestB x.done newB (sortP l)).count <=9:=by
  rcases hB.some_ with q | ⟨c,hc,q⟩
  ·omega
  ·obtain⟨z,hz,_,hv⟩:=mem_cand.1 hc
   have h1:=((mayP_ok (hall2 z hz)).votes c.2 hv).most
   have h2:=hmost z hz
   omega
 have hc0:=hB.c0
 have hlen:(batsF (sortP l) x.done).length =(bestB x.done newB (sortP l)).count.toNat :=by
  unfold batsF
  simp only[List.length_map,List.length_take,hB.len]
  omega
 refine⟨fun p hp=>hmost p ((hmem p).1 hp),⟨x,(hmem x).2 hxm,rfl⟩,batsF_len _ _,fun c hc=>?_,fun c hc n hn=>?_,walkF_time _ _ _⟩
 ·have:=hB.most c ((hcm c).2 hc)
  show c.2.slot - x.done<=((batsF (sortP l) x.done).length :Int)
  rw[hlen]
  omega
 ·have hm:=hB.most c ((hcm c).2 hc)
  have hn':c.2.slot - x.done - 1=(n:Int):=hn
  have hn9:n<9:=by omega
  have hnc:n<(bestB x.done newB (sortP l)).count.toNat :=by omega
  have ht:x.done+1+(n:Int)=c.2.slot:=by omega
  have hxd:=hxo.d0
  rcases hB.row n hn9 with ⟨b1,b2⟩ | ⟨w,hw,b1,b2,b3⟩
  ·exact absurd ht.symm (b2 c ((hcm c).2 hc))
  ·refine⟨w,(hcm w).1 hw,by omega,?_,fun c' hc' q=>?_⟩
   ·show(batsF (sortP l) x.done)[n]?= _
    unfold batsF
    rw[List.getElem?_map,List.getElem?_take_of_lt hnc,List.getElem?_eq_getElem (by rw[hB.len];exact hn9)]
    have e:(bestB x.done newB (sortP l)).row[n]'(by rw[hB.len];exact hn9)=w.2:=by
     rw[<-b2,List.getD_eq_getElem?_getD,List.getElem?_eq_getElem (by rw[hB.len];exact hn9),Option.getD_some]
    rw[e,Option.map_some]
    unfold batOf
    rw[if_neg (by omega)]
   ·have:=b3 c' ((hcm c').2 hc') (by omega)
    omega
theorem votesN_mem {d:Int} {l:List VtV} : ∀(n:Nat) (x:VoteV),x∈votesN d l n-> ∃k v,k<n/\v∈l/\x=oneN d k v
 | 0,x,h=>by cases h
 | n+1,x,h=>by
  rw[votesN,List.mem_append] at h
  rcases h with h | h
  ·obtain⟨k,v,h1,h2,h3⟩:=votesN_mem n x h
   exact⟨k,v,by omega,h2,h3⟩
  ·unfold atN at h
   split at h
   ·cases h
   ·rename_i v hv
    rw[List.mem_singleton] at h
    exact⟨n,v,by omega,List.mem_of_find?_eq_some hv,h⟩
theorem votesN_rise (d:Int) (l:List VtV): ∀n,(votesN d l n).Pairwise fun x y=>x.slot<y.slot
 | 0=>List.Pairwise.nil
 | n+1=>by
  rw[votesN]
  refine List.pairwise_append.2 ⟨votesN_rise d l n,?_,fun x hx y hy=>?_⟩
  ·unfold atN
   split<;>simp
  ·obtain⟨k,v,h1,_,rfl⟩:=votesN_mem n x hx
   unfold atN at hy
   split at hy
   ·cases hy
   ·rw[List.mem_singleton] at hy
    rw[hy]
    show d+((k:Int)+1)<d+((n:Int)+1)
    omega
theorem votesN_length (d:Int) (l:List VtV): ∀n,(votesN d l n).length <=n
 | 0=>Nat.le_refl _
 | n+1=>by
  rw[votesN,List.length_append]
  have:=votesN_length d l n
  have h2:(atN d l n).length <=1:=by unfold atN;split<;>simp
  omega
theorem mayVs_of {d:Int} : ∀(l:List VoteV) (b:Int),(∀v∈l,VoteOk d v/\b<v.slot)->l.Pairwise (fun x y=>x.slot<y.slot)->mayVs d b l=true
 | [],_,_,_=>rfl
 | x::l,b,h,hr=>by
  obtain⟨h1,h2⟩:=List.pairwise_cons.1 hr
  obtain⟨h3,h4⟩:=h x List.mem_cons_self
  rw[mayVs,Bool.and_eq_true,voteOk_iff]
  exact⟨⟨h4,h3.most,h3.high,h3.b0,h3.b1,h3.may⟩,mayVs_of l x.slot (fun v hv=>⟨(h v (List.mem_cons_of_mem _ hv)).1,h1 v hv⟩) h2⟩
theorem batG_okP (A:List UInt8) (len:Nat): ∀(F I:Nat) (G:List ReqV),okR [] G=true->G.length<=3->okR [] (batG A len F I G)=true/\(batG A len F I G).length <=3
 | 0,_,G,h,h3=>⟨h,h3⟩
 | F+1,I,G,h,h3=>by
  rw[batG]
  split
  ·rename_i q
   split
   ·exact batG_okP A len F (I+5) G h h3
   ·rename_i c
    refine batG_okP A len F (I+5) _ (okR_push [] h (reqOf_may _ _ _ _ _ (bAtB_lt A (I+1))) ?_) (by simp;omega)
    rw[List.nil_append]
    simpa using c
  ·exact⟨h,h3⟩
theorem batchF_mayP (A:List UInt8):mayB (batchF A)=true:=by
 unfold batchF
 split
 ·rfl
 ·split
  ·rfl
  ·have h:=batG_okP A A.length A.length 4 [] rfl (by decide)
   have h0:=bAtB_lt A 3
   exact mayB_mk (by omega) (by omega) (by omega) (by omega) h.2 h.1
structure ToldB (t:ToldV):Prop where
 d:0<=t.done
 v:0<=t.view
 s:0<=t.slot
 t0:0<=t.time
 t1:t.time<256
 b: ∀v∈t.votes,0<=v.ballot/\v.ballot<256
theorem oneN_ok {d:Int} (hd:0<=d/\d<8) {k:Nat} (hk:k<9) {v:VtV} (hb:0<=v.ballot/\v.ballot<256):VoteOk d (oneN d k v):=by
 refine⟨?_,?_,?_,?_,?_,batchF_mayP _⟩
 ·show d<d+((k:Int)+1);omega
 ·show d+((k:Int)+1)<=d+9;omega
 ·show d+((k:Int)+1)<=_;omega
 ·show 0<=v.ballot % 9;omega
 ·show v.ballot % 9<=_;omega
theorem promN_may {k:Nat} (hk:k<7) {t:ToldV} (h:ToldB t):mayP (promN (k:Int) t)=true:=by
 have hd:0<=t.done % 8/\t.done % 8<8:=by have:=h.d;omega
 have e1:=h.v
 have e2:=h.s
 have e3:=h.t0
 have e4:=h.t1
 unfold mayP headP highF promN
 simp only[Bool.and_eq_true,decide_eq_true_eq]
 refine⟨⟨⟨⟨⟨⟨by omega,by omega⟩,by omega,by omega⟩,⟨by omega,by omega⟩,by omega,by omega⟩,by omega,by omega⟩,votesN_length _ _ 9⟩,mayVs_of _ _ (fun v hv=>?_) (votesN_rise _ _ 9)⟩
 obtain⟨j,x,h1,h2,rfl⟩:=votesN_mem 9 v hv
 have:=oneN_ok hd h1 (h.b x h2)
 exact⟨this,this.low⟩
end Pl
end Go.Proofs.Ytbpmfjjbfiiiaaa

/- What a lead's steps keep. No program is named here. -/
set_option linter.unusedVariables false
set_option maxRecDepth 8000
set_option linter.unusedSimpArgs false
namespace Go.Proofs.Ytbpmfjjbfiiiaaa
open Lib (hid)
open Go.RowKit
namespace Ld
open Cm Ac Pl Vw

theorem okS_snoc {l:List PromV} {p:PromV} (h:okS [] l=true) (hm:mayP p=true) (hn: ∀q∈l,q.who≠p.who):okS [] (l++ [p])=true:=by
 obtain⟨h1,h2, -⟩:=(okS_iff l []).1 h
 refine(okS_iff _ []).2 ⟨fun x hx=>?_,?_,fun x _ y hy=>by cases hy⟩
 ·rcases List.mem_append.1 hx with q | q
  ·exact h1 x q
  ·rw[List.mem_singleton] at q;rw[q];exact hm
 ·rw[List.pairwise_append]
  refine⟨h2,List.pairwise_singleton _ _,fun a ha b hb=>?_⟩
  rw[List.mem_singleton] at hb
  rw[hb]
  exact hn a ha
theorem make_plan {l:List PromV} (h:okS [] l=true) (h0:l.length≠0):makeF l=(planF (sortP l),0):=by
 unfold makeF
 rw[if_neg h0,if_neg (by rw[h];decide)]
structure MakeOk (l:List PromV):Prop where
 d0:0<=(makeF l).1.done
 d1:(makeF l).1.done <=2305843009213693952
 l9:(makeF l).1.bats.length <=9
 e:(makeF l).2=0
theorem make_ok {l:List PromV} (h:okS [] l=true) (h0:l.length≠0):MakeOk l:=by
 have hp:=plan_at h h0
 have e:=make_plan h h0
 obtain⟨p,hpm,hpd⟩:=hp.has
 have ho:=mayP_ok (((okS_iff l []).1 h).1 p hpm)
 have h1:=ho.d0
 have h2:=ho.d1
 refine⟨?_,?_,?_,by rw[e]⟩
 ·rw[e];show 0<=(planF (sortP l)).done;omega
 ·rw[e];show(planF (sortP l)).done <=_;omega
 ·rw[e];exact hp.len
theorem quorum_le (n:Int):quorumF n<=4:=by
 unfold quorumF
 split
 ·rename_i h
  simp [someF,withinF] at h
  omega
 ·omega
end Ld
end Go.Proofs.Ytbpmfjjbfiiiaaa
