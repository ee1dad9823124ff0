/- Texts laid together by program. -/
import Derived.Test.YtheenjkmglmihaaQ15
import Derived.Test.YtheenjkmglmihaaQT5
import Derived.Maps.AppendAt
import Derived.Deep.AppendLies
/- Slices that read as lists, whatever their elements are: f x: the cells of one element, sz of them. No program is named here. -/
set_option linter.unusedVariables false
set_option maxRecDepth 8000
set_option linter.unusedSimpArgs false
namespace Go.Proofs.Ytheenjkmglmihaa
open Lib (hid)
open Go.RowKit

section
variable {α : Type}
variable {sz : Nat} {f : α → List Value}
theorem own_new (w:World) (e:TypeId) (sz base H:Nat) (hH:w.heap.size=H) (hb:base<=H):(w.alloc (.cells #[] e)).ownsRow base e sz (.slice (some ⟨H,0,none⟩) 0 0) 0 []:=by
 subst hH
 have h:=World.ownsRow_lit (base:=w.heap.size) (e:=e) (size:=sz) w #[] 0 (Nat.le_refl _) (by unfold maxLen;omega) (by simp)
 refine⟨h.1,?_⟩
 rcases h.2 with q | ⟨g,cap,cur,h1,h2,r⟩
 ·exact .inl q
 ·exact .inr ⟨g,cap,cur,h1,Nat.le_trans hb h2,r⟩
end
end Go.Proofs.Ytheenjkmglmihaa

/- What package plan answers, as plain functions over promises. No program is named here. -/
set_option linter.unusedVariables false
set_option maxRecDepth 8000
set_option linter.unusedSimpArgs false
namespace Go.Proofs.Ytheenjkmglmihaa
open Lib (hid)
open Go.RowKit
namespace Pl
open Cm Ac

theorem okS_perm {l m:List PromV} (h:l.Perm m):okS [] l=okS [] m:=by
 have key: ∀ {l m:List PromV},l.Perm m->okS [] l=true->okS [] m=true:=fun {l m} h q=>by
  obtain⟨h1,h2, -⟩:=(okS_iff l []).1 q
  exact(okS_iff m []).2 ⟨fun x hx=>h1 x (h.mem_iff.2 hx),(h.pairwise_iff (fun {a b} r e=>r e.symm)).1 h2,fun x _ y hy=>by cases hy⟩
 cases q:okS [] l
 ·cases q':okS [] m
  ·rfl
  ·rw[key h.symm q'] at q
   cases q
 ·exact(key h q).symm
theorem sorted_unique: ∀ {l m:List PromV},l.Perm m->l.Pairwise (fun a b=>a.who<b.who)->m.Pairwise (fun a b=>a.who<b.who)->l=m
 | [],m,h,_,_=>(List.nil_perm.1 h).symm
 | x::l,[],h,_,_=>absurd h.length_eq (by simp)
 | x::l,y::m,h,h1,h2=>by
  obtain⟨a1,a2⟩:=List.pairwise_cons.1 h1
  obtain⟨b1,b2⟩:=List.pairwise_cons.1 h2
  have hx:x∈y::m:=h.mem_iff.1 List.mem_cons_self
  have hy:y∈x::l:=h.mem_iff.2 List.mem_cons_self
  have e:x=y:=by
   rcases List.mem_cons.1 hx with e | hx
   ·exact e
   ·rcases List.mem_cons.1 hy with e | hy
    ·exact e.symm
    ·have:=b1 x hx
     have:=a1 y hy
     omega
  subst e
  rw[sorted_unique (List.Perm.cons_inv h) a2 b2]
theorem makeF_perm {l m:List PromV} (h:l.Perm m):makeF l=makeF m:=by
 unfold makeF
 rw[h.length_eq,okS_perm h]
 split
 ·rfl
 ·split
  ·rfl
  ·rename_i q
   rw[Bool.not_eq_false] at q
   rw[sorted_unique (((sortP_perm l).trans h).trans (sortP_perm m).symm) (sortP_strict (by rw[okS_perm h];exact q)) (sortP_strict q)]
end Pl
end Go.Proofs.Ytheenjkmglmihaa

/- What a plan has: its slots, its ends; promises by numbers may be. No program is named here. -/
set_option linter.unusedVariables false
set_option maxRecDepth 8000
set_option linter.unusedSimpArgs false
namespace Go.Proofs.Ytheenjkmglmihaa
open Lib (hid)
open Go.RowKit
namespace Pl
open Cm Ac

theorem walkF_time: ∀(l:List BatV) (s:TipV) (t:Int),s.time<=(walkF s t l).time
 | [],s,t=>Int.le_refl _
 | b::l,s,t=>by
  rw[walkF]
  refine Int.le_trans ?_ (walkF_time l _ _)
  split
  ·show s.time<=max s.time b.time
   omega
  ·exact Int.le_refl _
structure PlanAt (l:List PromV) (R:PlanV):Prop where
 most: ∀p∈l,p.done<=R.done
 has: ∃p∈l,p.done=R.done
 len:R.bats.length<=9
 reach: ∀c∈cand l,c.2.slot - R.done<=(R.bats.length:Int)
 win: ∀c∈cand l,∀n:Nat,c.2.slot - R.done - 1=(n:Int)-> ∃w∈cand l,w.2.slot=c.2.slot/\R.bats[n]?=some w.2.bat/\ ∀c'∈cand l,c'.2.slot=c.2.slot->c'.2.ballot<=w.2.ballot
 time:R.time<=R.last
theorem plan_at {l:List PromV} (hok:okS [] l=true) (h0:l.length≠0):PlanAt l (planF (sortP l)):=by
 obtain⟨hall,hdis, -⟩:=(okS_iff l []).1 hok
 have hperm:=sortP_perm l
 have hmem: ∀z,z∈l ↔ z∈sortP l:=fun z=>hperm.mem_iff.symm
 have hall2: ∀p∈sortP l,mayP p=true:=fun p hp=>hall p ((hmem p).2 hp)
 have hcm: ∀c,c∈cand (sortP l) ↔ c∈cand l:=fun c=>by
  rw[mem_cand,mem_cand]
  constructor
  ·rintro ⟨p,hp,h⟩;exact⟨p,(hmem p).2 hp,h⟩
  ·rintro ⟨p,hp,h⟩;exact⟨p,(hmem p).1 hp,h⟩
 obtain⟨p',r',hs⟩: ∃p' r',sortP l=p'::r':=by
  have:(sortP l).length ≠0:=by rw[sortP_length];exact h0
  match sortP l,this with
  | p::r,_=>exact⟨p,r,rfl⟩
 obtain⟨x,hx⟩: ∃x,newF p' r'=x:=⟨_,rfl⟩
 have hxm:x∈sortP l:=by rw[hs,<-hx];exact newF_mem r' p'
 have hxo:=mayP_ok (hall2 x hxm)
 have hmost: ∀q∈sortP l,q.done<=x.done:=fun q hq=>by rw[<-hx];exact newF_most r' p' q (by rw[<-hs];exact hq)
 have hB:=bestB_is hall2 (sortP_rise l) hxo.d0 hmost
 have e2:planF (sortP l)=(let b:=batsF (sortP l) x.done;let e:=walkF ⟨x.tv,x.ts,x.time⟩ (startF (x.done+1)) b;(⟨x.done,x.tv,x.ts,x.time,b,e.tv,e.ts,e.time⟩:PlanV)):=by
  rw[<-hx,hs]
  rfl
 rw[e2]
 have hc9:(bestB x.done newB (sortP l)).count <=9:=by
  rcases hB.some_ with q | ⟨c,hc,q⟩
  ·omega
  ·obtain⟨z,hz,_,hv⟩:=mem_cand.1 hc
   have h1:=((mayP_ok (hall2 z hz)).votes c.2 hv).most
   have h2:=hmost z hz
   omega
 have hc0:=hB.c0
 have hlen:(batsF (sortP l) x.done).length =(bestB x.done newB (sortP l)).count.toNat :=by
  unfold batsF
  simp only[List.length_map,List.length_take,hB.len]
  omega
 refine⟨fun p hp=>hmost p ((hmem p).1 hp),⟨x,(hmem x).2 hxm,rfl⟩,batsF_len _ _,fun c hc=>?_,fun c hc n hn=>?_,walkF_time _ _ _⟩
 ·have:=hB.most c ((hcm c).2 hc)
  show c.2.slot - x.done<=((batsF (sortP l) x.done).length :Int)
  rw[hlen]
  omega
 ·have hm:=hB.most c ((hcm c).2 hc)
  have hn':c.2.slot - x.done - 1=(n:Int):=hn
  have hn9:n<9:=by omega
  have hnc:n<(bestB x.done newB (sortP l)).count.toNat :=by omega
  have ht:x.done+1+(n:Int)=c.2.slot:=by omega
  have hxd:=hxo.d0
  rcases hB.row n hn9 with ⟨b1,b2⟩ | ⟨w,hw,b1,b2,b3⟩
  ·exact absurd ht.symm (b2 c ((hcm c).2 hc))
  ·refine⟨w,(hcm w).1 hw,by omega,?_,fun c' hc' q=>?_⟩
   ·show(batsF (sortP l) x.done)[n]?= _
    unfold batsF
    rw[List.getElem?_map,List.getElem?_take_of_lt hnc,List.getElem?_eq_getElem (by rw[hB.len];exact hn9)]
    have e:(bestB x.done newB (sortP l)).row[n]'(by rw[hB.len];exact hn9)=w.2:=by
     rw[<-b2,List.getD_eq_getElem?_getD,List.getElem?_eq_getElem (by rw[hB.len];exact hn9),Option.getD_some]
    rw[e,Option.map_some]
    unfold batOf
    rw[if_neg (by omega)]
   ·have:=b3 c' ((hcm c').2 hc') (by omega)
    omega
theorem votesN_mem {d:Int} {l:List VtV} : ∀(n:Nat) (x:VoteV),x∈votesN d l n-> ∃k v,k<n/\v∈l/\x=oneN d k v
 | 0,x,h=>by cases h
 | n+1,x,h=>by
  rw[votesN,List.mem_append] at h
  rcases h with h | h
  ·obtain⟨k,v,h1,h2,h3⟩:=votesN_mem n x h
   exact⟨k,v,by omega,h2,h3⟩
  ·unfold atN at h
   split at h
   ·cases h
   ·rename_i v hv
    rw[List.mem_singleton] at h
    exact⟨n,v,by omega,List.mem_of_find?_eq_some hv,h⟩
theorem votesN_rise (d:Int) (l:List VtV): ∀n,(votesN d l n).Pairwise fun x y=>x.slot<y.slot
 | 0=>List.Pairwise.nil
 | n+1=>by
  rw[votesN]
  refine List.pairwise_append.2 ⟨votesN_rise d l n,?_,fun x hx y hy=>?_⟩
  ·unfold atN
   split<;>simp
  ·obtain⟨k,v,h1,_,rfl⟩:=votesN_mem n x hx
   unfold atN at hy
   split at hy
   ·cases hy
   ·rw[List.mem_singleton] at hy
    rw[hy]
    show d+((k:Int)+1)<d+((n:Int)+1)
    omega
theorem votesN_length (d:Int) (l:List VtV): ∀n,(votesN d l n).length <=n
 | 0=>Nat.le_refl _
 | n+1=>by
  rw[votesN,List.length_append]
  have:=votesN_length d l n
  have h2:(atN d l n).length <=1:=by unfold atN;split<;>simp
  omega
theorem mayVs_of {d:Int} : ∀(l:List VoteV) (b:Int),(∀v∈l,VoteOk d v/\b<v.slot)->l.Pairwise (fun x y=>x.slot<y.slot)->mayVs d b l=true
 | [],_,_,_=>rfl
 | x::l,b,h,hr=>by
  obtain⟨h1,h2⟩:=List.pairwise_cons.1 hr
  obtain⟨h3,h4⟩:=h x List.mem_cons_self
  rw[mayVs,Bool.and_eq_true,voteOk_iff]
  exact⟨⟨h4,h3.most,h3.high,h3.b0,h3.b1,h3.may⟩,mayVs_of l x.slot (fun v hv=>⟨(h v (List.mem_cons_of_mem _ hv)).1,h1 v hv⟩) h2⟩
theorem batG_okP (A:List UInt8) (len:Nat): ∀(F I:Nat) (G:List ReqV),okR [] G=true->G.length<=3->okR [] (batG A len F I G)=true/\(batG A len F I G).length <=3
 | 0,_,G,h,h3=>⟨h,h3⟩
 | F+1,I,G,h,h3=>by
  rw[batG]
  split
  ·rename_i q
   split
   ·exact batG_okP A len F (I+5) G h h3
   ·rename_i c
    refine batG_okP A len F (I+5) _ (okR_push [] h (reqOf_may _ _ _ _ _ (bAtB_lt A (I+1))) ?_) (by simp;omega)
    rw[List.nil_append]
    simpa using c
  ·exact⟨h,h3⟩
theorem batchF_mayP (A:List UInt8):mayB (batchF A)=true:=by
 unfold batchF
 split
 ·rfl
 ·split
  ·rfl
  ·have h:=batG_okP A A.length A.length 4 [] rfl (by decide)
   have h0:=bAtB_lt A 3
   exact mayB_mk (by omega) (by omega) (by omega) (by omega) h.2 h.1
structure ToldB (t:ToldV):Prop where
 d:0<=t.done
 v:0<=t.view
 s:0<=t.slot
 t0:0<=t.time
 t1:t.time<256
 b: ∀v∈t.votes,0<=v.ballot/\v.ballot<256
theorem oneN_ok {d:Int} (hd:0<=d/\d<8) {k:Nat} (hk:k<9) {v:VtV} (hb:0<=v.ballot/\v.ballot<256):VoteOk d (oneN d k v):=by
 refine⟨?_,?_,?_,?_,?_,batchF_mayP _⟩
 ·show d<d+((k:Int)+1);omega
 ·show d+((k:Int)+1)<=d+9;omega
 ·show d+((k:Int)+1)<=_;omega
 ·show 0<=v.ballot % 9;omega
 ·show v.ballot % 9<=_;omega
theorem promN_may {k:Nat} (hk:k<7) {t:ToldV} (h:ToldB t):mayP (promN (k:Int) t)=true:=by
 have hd:0<=t.done % 8/\t.done % 8<8:=by have:=h.d;omega
 have e1:=h.v
 have e2:=h.s
 have e3:=h.t0
 have e4:=h.t1
 unfold mayP headP highF promN
 simp only[Bool.and_eq_true,decide_eq_true_eq]
 refine⟨⟨⟨⟨⟨⟨by omega,by omega⟩,by omega,by omega⟩,⟨by omega,by omega⟩,by omega,by omega⟩,by omega,by omega⟩,votesN_length _ _ 9⟩,mayVs_of _ _ (fun v hv=>?_) (votesN_rise _ _ 9)⟩
 obtain⟨j,x,h1,h2,rfl⟩:=votesN_mem 9 v hv
 have:=oneN_ok hd h1 (h.b x h2)
 exact⟨this,this.low⟩
theorem promsK_mem {l:List ToldV} : ∀(n:Nat) (p:PromV),p∈promsK l n-> ∃k,k<n/\p=promN (k:Int) (l.getD k zeroT)
 | 0,p,h=>by cases h
 | n+1,p,h=>by
  rw[promsK,List.mem_append,List.mem_singleton] at h
  rcases h with h | h
  ·obtain⟨k,h1,h2⟩:=promsK_mem n p h
   exact⟨k,by omega,h2⟩
  ·exact⟨n,by omega,h⟩
theorem promsK_dis (l:List ToldV): ∀n,(promsK l n).Pairwise fun a b=>a.who≠b.who
 | 0=>List.Pairwise.nil
 | n+1=>by
  rw[promsK]
  refine List.pairwise_append.2 ⟨promsK_dis l n,by simp,fun x hx y hy=>?_⟩
  obtain⟨k,h1,rfl⟩:=promsK_mem n x hx
  rw[List.mem_singleton] at hy
  rw[hy]
  show(k:Int)≠(n:Int)
  omega
theorem promsN_ok {l:List ToldV} (h: ∀t∈l,ToldB t):okS [] (promsN l)=true:=by
 rw[okS_iff]
 refine⟨fun p hp=>?_,promsK_dis l _,fun x _ y hy=>by cases hy⟩
 obtain⟨k,h1,rfl⟩:=promsK_mem _ p hp
 refine promN_may (by omega) ?_
 have hk:k<l.length:=by omega
 rw[List.getD_eq_getElem?_getD,List.getElem?_eq_getElem hk,Option.getD_some]
 exact h _ (List.getElem_mem hk)
def cntV (t:Int) (n:Nat) (l:List VoteV):Nat:=l.foldl (fun n v=>if v.slot=t then n+1 else n) n
def cntP (t:Int) (n:Nat) (l:List PromV):Nat:=l.foldl (fun n p=>cntV t n p.votes) n
theorem cntV_take (t:Int) (n:Nat) (l:List VoteV) (i:Nat) (h:i<l.length):cntV t n (l.take (i+1))=if l[i].slot =t then cntV t n (l.take i)+1 else cntV t n (l.take i):=by
 unfold cntV
 rw[List.take_succ_eq_append_getElem h,List.foldl_append]
 rfl
theorem cntP_take (t:Int) (n:Nat) (l:List PromV) (i:Nat) (h:i<l.length):cntP t n (l.take (i+1))=cntV t (cntP t n (l.take i)) l[i].votes :=by
 unfold cntP
 rw[List.take_succ_eq_append_getElem h,List.foldl_append]
 rfl
theorem cntV_eq (t:Int): ∀(l:List VoteV) (n:Nat),cntV t n l=n+(l.filter fun v=>decide (v.slot=t)).length
 | [],n=>rfl
 | v::l,n=>by
  show cntV t (if v.slot=t then n+1 else n) l= _
  rw[cntV_eq t l,List.filter_cons]
  by_cases h:v.slot=t
  ·rw[if_pos h,decide_eq_true h,if_pos rfl,List.length_cons];omega
  ·rw[if_neg h,decide_eq_false h,if_neg Bool.false_ne_true]
theorem cntP_eq (t:Int): ∀(l:List PromV) (n:Nat),cntP t n l=n+((cand l).filter fun c=>decide (c.2.slot=t)).length
 | [],n=>rfl
 | p::l,n=>by
  show cntP t (cntV t n p.votes) l= _
  rw[cntP_eq t l,cntV_eq]
  show _=n+((p.votes.map (fun v=>(p.who,v))++cand l).filter _).length
  rw[List.filter_append,List.length_append,List.filter_map,List.length_map]
  show n+(p.votes.filter fun v=>decide (v.slot=t)).length +_= _
  rw[show(p.votes.filter ((fun c:Int × VoteV=>decide (c.2.slot=t)) ∘ fun v=>(p.who,v)))=p.votes.filter (fun v=>decide (v.slot=t)) from rfl]
  omega
theorem alone_one {l:List PromV} {t:Int} (h:cntP t 0 l=1) {x y:Int × VoteV} (hx:x∈cand l) (hy:y∈cand l) (ex:x.2.slot=t) (ey:y.2.slot=t):x=y:=by
 rw[cntP_eq,Nat.zero_add] at h
 have hx':x∈(cand l).filter fun c=>decide (c.2.slot=t):=List.mem_filter.2 ⟨hx,decide_eq_true ex⟩
 have hy':y∈(cand l).filter fun c=>decide (c.2.slot=t):=List.mem_filter.2 ⟨hy,decide_eq_true ey⟩
 obtain⟨c,hc⟩:=List.length_eq_one_iff.1 h
 rw[hc,List.mem_singleton] at hx' hy'
 rw[hx',hy']
end Pl
end Go.Proofs.Ytheenjkmglmihaa

/- The statements' alone. -/
set_option linter.unusedVariables false
set_option maxRecDepth 8000
set_option linter.unusedSimpArgs false
namespace Go.Proofs.Ytheenjkmglmihaa
open Lib (hid)
open Go.RowKit
namespace Pl
open Cm Ac

set_option maxHeartbeats 8000000 in
theorem alone_any (v:Value) (L:List PromC) (x:VoteC) (w:World) (h:RdP w v L) (hN:L.length<=12) (h9: ∀p∈L,p.votes.length<=9):
  Calls Try.prog 16 #[v,voteVal x] w (SaysB (decide (cntP x.slot 0 (valsP L)=1)) w):=by
 have hl0:=valsP_length L
 obtain⟨a,cap,rfl⟩:=h.form
 obtain⟨_,_,hv,hlc,hcm, -⟩:=h.row.ex
 cases hv
 have HA:=hid (fun i hi=>rdp_at h.row i hi)
 have HR:=hid h.votes
 have H9:=hid h9
 have HG:=hid (fun i (hi:i<L.length) hi'=>valsP_get L i hi hi')
 obtain⟨t,ht⟩: ∃t,x.slot=t:=⟨_,rfl⟩
 rw[ht]
 have HTK:=hid (fun i hi=>cntP_take t 0 (valsP L) i hi)
 have HEND:=hid (show(valsP L).take L.length=valsP L by rw[<-hl0];exact List.take_length)
 clear h h9
 generalize valsP L=V at HG HTK HEND hl0 ⊢
 obtain⟨N,hn⟩: ∃N,L.length=N:=⟨_,rfl⟩
 have HN:=hid hn
 rw[hn] at hlc hl0 hN HEND ⊢
 have HV:=hid hl0
 clear hn hl0
 obtain⟨xs,xb,⟨xf,xv,xtv,xts,xt,xr⟩,xa,xc⟩:=x
 obtain rfl:xs=t:=ht
 unfold voteVal VoteC.u
 dsimp only
 generalize xr.length=xn at*
 have HB0:=hid (newAlloc w (.cells #[.int .i64 xs,.int .i64 xb,.bool xf,.int .i64 xv,.int .i64 xtv,.int .i64 xts,.int .i64 xt,.slice xa xn xc] 49))
 have HX0:Hid (∀w',Below (w.alloc (.cells #[.int .i64 xs,.int .i64 xb,.bool xf,.int .i64 xv,.int .i64 xtv,.int .i64 xts,.int .i64 xt,.slice xa xn xc] 49)).heap.size (w.alloc (.cells #[.int .i64 xs,.int .i64 xb,.bool xf,.int .i64 xv,.int .i64 xtv,.int .i64 xts,.int .i64 xt,.slice xa xn xc] 49)) w'->w'.cell? ⟨w.heap.size,0,none⟩=some (.int .i64 xs)):=hid (fun w' hb=>(box8p hb).1)
 go_enter Try.func16,Try.ntmps16
 go_upto_region 1 with fail
 generalize w.alloc (.cells #[.int .i64 xs,.int .i64 xb,.bool xf,.int .i64 xv,.int .i64 xtv,.int .i64 xts,.int .i64 xt,.slice xa xn xc] 49)=W at HB0 HX0 ⊢
 go_wp2
 go_loopw [5,6,7,8] (fun n i _ _ wr=> ∃(j c:Nat),j<=N/\i= .int .i64 (j:Int)/\n= .int .i64 (c:Int)/\Hid (Below W.heap.size W wr)/\Hid (c<=9*j/\cntP xs 0 (V.take j)=c)) (fun _ i _ _ _=>N - (intOf i).toNat)
 case atStart=>exact⟨0,0,by omega,rfl,rfl,hid (Below.refl _ _),hid ⟨by omega,rfl⟩⟩
 case round=>
  obtain⟨j,c,hj,rfl,rfl,HB,HC⟩:=hrel
  by_cases hlt:j<N
  case neg=>
   obtain rfl:j=N:=by omega
   have HF:Hid (cntP xs 0 V=c):=hid (by rw[<-HEND.out];exact HC.out.2)
   by_cases c1:c=1
   ·have d1:((c:Int)==1)=true:=by subst c1;rfl
    have HD:=hid (decide_eq_true (HF.out.trans c1))
    clear c1
    go_wp2
    go_ret
    exact⟨by rw[HD.out];rfl,step HB0.out HB.out⟩
   ·have d1:((c:Int)==1)=false:=by simp;omega
    have HD:=hid (decide_eq_false (fun q=>c1 (HF.out.symm.trans q): ¬cntP xs 0 V=1))
    clear c1
    go_wp2
    go_ret
    exact⟨by rw[HD.out];rfl,step HB0.out HB.out⟩
  have hjl:j<L.length:=by rw[HN.out];exact hlt
  have hjv:j<V.length:=by rw[HV.out];exact hlt
  obtain⟨b,o,rfl,hc⟩:=HA.out j hjl
  have htk:=HTK.out j hjv
  rw[HG.out j hjl hjv,HC.out.2] at htk
  have hr:=HR.out L[j] (mem_get hjl)
  have h9:=H9.out L[j] (mem_get hjl)
  obtain⟨p,hp⟩: ∃p,L[j]=p:=⟨_,rfl⟩
  have hcc: ∀wx,Below w.heap.size w wx->wx.cell? ⟨b,o+j*6+5,none⟩=some p.u:=fun wx hb=>by
   obtain⟨-, -, -, -, -,c5⟩:=hc wx hb
   rw[<-hp]
   exact c5
  rw[hp] at htk hr h9
  clear hc hp
  obtain⟨pw,pd,pv,ps,pt,l,pa,pc⟩:=p
  unfold PromC.u at hr hcc
  unfold PromC.val at htk
  dsimp only at htk hr hcc h9
  have HRV:=hid (fun i hi=>rdv_at hr.row i hi)
  obtain⟨_,_,hv,hlc2,hcm2, -⟩:=hr.row.ex
  cases hv
  have HTV:=hid (fun i hi=>cntV_take xs c (valsV l) i hi)
  have HGV:=hid (fun i (hi:i<l.length) hi'=>valsV_get l i hi hi')
  have hvl:=valsV_length l
  have HTE:Hid (cntP xs 0 (V.take (j+1))=cntV xs c ((valsV l).take l.length)):=hid (by rw[htk,<-hvl,List.take_length])
  generalize valsV l=VL at HTV HGV hvl HTE
  obtain⟨K,hk⟩: ∃K,l.length=K:=⟨_,rfl⟩
  have HK:=hid hk
  rw[hk] at hlc2 hvl HTE hcc h9
  have HVK:=hid hvl
  have HCC:=hid hcc
  clear hk hvl hr htk hjl hjv hcc
  have hj0:(0:Int)<=(j:Int):=by omega
  have hj1:(j:Int)<(N:Int):=by omega
  have HST:Hid (c<=9*j+0/\cntV xs c (VL.take 0)=c):=hid ⟨by have:=HC.out.1;omega,rfl⟩
  obtain⟨c0,hc0⟩: ∃c0,c0=c:=⟨_,rfl⟩
  rw[<-hc0] at HTV HTE
  have HST2:Hid (c<=9*j+0/\cntV xs c0 (VL.take 0)=c):=hid (by rw[hc0];exact HST.out)
  clear hc0 HST HC
  obtain⟨wo,rfl⟩: ∃wo,wo=wr:=⟨_,rfl⟩
  go_wp2
  go_loopw [5,7,14] (fun n i _ wr=> ∃(k c:Nat),k<=K/\i= .int .i64 (k:Int)/\n= .int .i64 (c:Int)/\Hid (Below W.heap.size W wr)/\Hid (c<=9*j+k/\cntV xs c0 (VL.take k)=c)) (fun _ i _ _=>K - (intOf i).toNat)
  case atStart=>exact⟨0,c,by omega,rfl,rfl,HB,HST2⟩
  case round=>
   obtain⟨k,ci,hk,rfl,rfl,HBI,HCI⟩:=hrel
   have s5:=HCC.out _ (step HB0.out HBI.out)
   have x0:=HX0.out _ HBI.out
   by_cases hlk:k<K
   case neg=>
    obtain rfl:k=K:=by omega
    have HNX:Hid (ci<=9*(j+1)/\cntP xs 0 (V.take (j+1))=ci):=hid ⟨by have:=HCI.out.1;omega,by rw[HTE.out];exact HCI.out.2⟩
    go_wp2
    go_roundw
    case rel=>exact⟨j+1,ci,by omega,by go_num,rfl,HBI,HNX⟩
    case measure=>simp [intOf];omega
   have hkl:k<l.length:=by rw[HK.out];exact hlk
   have hkv:k<VL.length:=by rw[HVK.out];exact hlk
   obtain⟨b2,o2,rfl,hc2⟩:=HRV.out k hkl
   obtain⟨q0, -⟩:=hc2 _ (step HB0.out HBI.out)
   have htv:=HTV.out k hkv
   rw[HGV.out k hkl hkv,HCI.out.2] at htv
   obtain⟨s,hs⟩: ∃s,l[k].slot =s:=⟨_,rfl⟩
   rw[show(l[k].val).slot =s from hs] at htv
   rw[hs] at q0
   clear hc2 hs hkl hkv
   have hk0:(0:Int)<=(k:Int):=by omega
   have hk1:(k:Int)<(K:Int):=by omega
   have HTX:=hid htv
   clear htv
   by_cases e:s=xs
   ·have de:(s==xs)=true:=by simpa using e
    have HNX:Hid (ci+1<=9*j+(k+1)/\cntV xs c0 (VL.take (k+1))=ci+1):=hid ⟨by have:=HCI.out.1;omega,by rw[HTX.out,if_pos e]⟩
    have ew:IntKind.i64.wrap ((ci:Int)+1)=(ci:Int)+1:=by have:=HCI.out.1;rw[IntKind.wrap_i64];omega
    clear e
    go_upto_region 8 with fail
    go_quiet (fail)
    go_wp2
    go_roundw
    case rel=>exact⟨k+1,ci+1,by omega,by go_num,by simp,hid (below_drewB HBI.out nq),HNX⟩
    case measure=>simp [intOf];omega
   ·have de:(s==xs)=false:=by simpa using e
    have HNX:Hid (ci<=9*j+(k+1)/\cntV xs c0 (VL.take (k+1))=ci):=hid ⟨by have:=HCI.out.1;omega,by rw[HTX.out,if_neg e]⟩
    clear e
    go_upto_region 8 with fail
    go_quiet (fail)
    go_wp2
    go_roundw
    case rel=>exact⟨k+1,ci,by omega,by go_num,rfl,hid (below_drewB HBI.out nq),HNX⟩
    case measure=>simp [intOf];omega
end Pl
end Go.Proofs.Ytheenjkmglmihaa
