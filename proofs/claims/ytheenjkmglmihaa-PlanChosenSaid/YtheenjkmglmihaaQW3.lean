/- Texts laid together by program. -/
import Derived.Test.YtheenjkmglmihaaQW2
import Derived.Test.YtheenjkmglmihaaQT6
/- A row of promises of one's own: its head, one vote's slice written over, what lies elsewhere grown. -/
set_option linter.unusedVariables false
set_option maxRecDepth 8000
set_option linter.unusedSimpArgs false
namespace Go.Proofs.Ytheenjkmglmihaa
open Lib (hid)
open Go.RowKit
namespace Pl
open Cm Ac

theorem own_take {w:World} {base:Nat} {e:TypeId} {ga n cap:Nat} {L:List PromC} (h:w.ownsRow base e 6 (.slice (some ⟨ga,0,none⟩) n cap) n (flatX cellsP L)) (hn:L.length=n) (k:Nat) (hk:k<=n):
  w.ownsRow base e 6 (.slice (some ⟨ga,0,none⟩) k cap) k (flatX cellsP (L.take k)):=by
 have hl:(L.take k).length =k:=by rw[List.length_take];omega
 refine⟨by rw[flatX_length cellsP_length,hl],?_⟩
 rcases h.2 with ⟨q,_⟩ | ⟨g,cap',cur,hv,h1,h2,h3,h4,h5,h6⟩
 ·cases q
 ·cases hv
  refine .inr ⟨ga,cap,cur,rfl,h1,h2,by omega,h4,h5,?_⟩
  have e1:flatX cellsP L=flatX cellsP (L.take k)++flatX cellsP (L.drop k):=by rw[<-flatX_append,List.take_append_drop]
  have e2:(flatX cellsP (L.take k)).length =k*6:=by rw[flatX_length cellsP_length,hl]
  have e3:cur.toList.take (k*6)=(cur.toList.take (n*6)).take (k*6):=by rw[List.take_take,Nat.min_eq_left (by omega)]
  rw[e3,h6,e1,<-e2,List.take_left]
theorem OwnPs.take {w:World} {base ga n cap:Nat} {L:List PromC} (h:OwnPs base w (.slice (some ⟨ga,0,none⟩) n cap) L) (hn:L.length=n) (k:Nat) (hk:k<=n):
  OwnPs base w (.slice (some ⟨ga,0,none⟩) k cap) (L.take k):=by
 have hl:(L.take k).length =k:=by rw[List.length_take];omega
 have hr:=h.row
 rw[hn] at hr
 exact⟨by rw[hl];exact own_take hr hn k hk,fun x hx=>h.votes x (List.mem_of_mem_take hx)⟩
def PromC.give (p:PromC) (M:List VoteC) (va:Option Addr) (vc:Nat):PromC:= { p with votes:=M,va:=va,vc:=vc }
theorem OwnPs.heap {w:World} {base ga k cap:Nat} {G:List PromC} (h:OwnPs base w (.slice (some ⟨ga,0,none⟩) k cap) G): ∃cur:Array Value,w.heap[ga]?=some (.cells cur 29)/\base<=ga:=by
 rcases h.row.2 with ⟨q,_⟩ | ⟨g,cap',cur,hv,h1,h2, -⟩
 ·cases q
 ·cases hv
  exact⟨cur,h2,h1⟩
theorem OwnPs.put {w:World} {base ga k cap:Nat} {G:List PromC} (h:OwnPs base w (.slice (some ⟨ga,0,none⟩) k cap) G) (hG:G.length=k) (j:Nat) (hj:j<G.length) {M:List VoteC} {va:Option Addr} {vc:Nat}
  (hM:OwnV base w (.slice va M.length vc) M):OwnPs base (w.setCell ⟨ga,j*6+5,none⟩ (.slice va M.length vc)) (.slice (some ⟨ga,0,none⟩) k cap) (G.set j (G[j].give M va vc)):=by
 obtain⟨cur0,hc0, -⟩:=h.heap
 have hg:=grown_set1 w ga (j*6+5) (.slice va M.length vc)
 have hvot: ∀ {u:Value} {N:List VoteC},OwnV base w u N->OwnV base (w.setCell ⟨ga,j*6+5,none⟩ (.slice va M.length vc)) u N:=fun hN=>hN.otherP hg hc0 (by decide) (by decide)
 refine⟨?_,fun x hx=>?_⟩
 ·have e1:flatX cellsP (G.set j (G[j].give M va vc))=(flatX cellsP G).set (j*6+5) (.slice va M.length vc):=(flatX_set cellsP_length 5 (.slice va M.length vc) (by omega) (G[j].give M va vc) G j hj rfl).symm
  rw[e1]
  refine⟨by rw[List.length_set,List.length_set];exact h.row.1,?_⟩
  rcases h.row.2 with ⟨q,_⟩ | ⟨g,cap',cur,hv,h1,h2,h3,h4,h5,h6⟩
  ·cases q
  ·cases hv
   refine .inr ⟨ga,cap,cur.setIfInBounds (j*6+5) (.slice va M.length vc),by rw[List.length_set],h1,set_atB h2 _ _,by rw[List.length_set];exact h3,h4,by rw[Array.size_setIfInBounds];exact h5,?_⟩
   rw[List.length_set,Array.toList_setIfInBounds,List.take_set,h6]
 ·rcases List.mem_or_eq_of_mem_set hx with q | q
  ·exact hvot (h.votes x q)
  ·rw[q]
   exact hvot hM
theorem OwnPs.gr {w w':World} {base ga k cap q:Nat} {u:Value} {G:List PromC} (h:OwnPs base w (.slice (some ⟨ga,0,none⟩) k cap) G) (hg:w.grownBy w' u.ownBlock) (hne: ∀g,u.ownBlock=some g->q<=g) (hq:ga<q)
  (hv: ∀x∈G,OwnV base w' x.u x.votes):OwnPs base w' (.slice (some ⟨ga,0,none⟩) k cap) G:=
 ⟨Rw.own_keep h.row fun g hg'=>by
  have e:ga=g:=by simpa [Value.ownBlock] using hg'
  subst e
  exact hg.block ga (Rw.own_lt h.row ga rfl).2 (fun z=>by have:=hne ga z.symm;omega),hv⟩
theorem promN_low {i:Int} {t:ToldV} {y:VoteV} (h:y∈(promN i t).votes):y.ballot<9:=by
 obtain⟨k,v,_,_,rfl⟩:=votesN_mem 9 y h
 show v.ballot % 9<9
 omega
theorem told_ok {w:World} {v:Value} {T:List ToldC} (h:RdD w v T): ∀t∈valsD T,ToldB t:=by
 intro t ht
 obtain⟨x,hx,rfl⟩:=List.mem_map.1 ht
 have ho:=h.ok x hx
 refine⟨ho.d.1,ho.v.1,ho.s.1,ho.t.1,ho.t.2,fun v hv=>?_⟩
 obtain⟨y,hy,rfl⟩:=List.mem_map.1 hv
 exact⟨(ho.rd.ok y hy).b0,(ho.rd.ok y hy).b1⟩
theorem ToldOk.later {w w':World} {x:ToldC} (h:ToldOk w x) (hb:Below w.heap.size w w'):ToldOk w' x:=⟨h.d,h.v,h.s,h.t,h.rd.later hb⟩
structure StC (n0 nW:Nat) (w:World) (ga gx k cap:Nat) (XC:Array Value) (x0:VoteC) (wr:World) (G:List PromC) (qv:Value) (Q:List PromC):Prop where
 B:Below n0 w wr
 lo:n0<=nW
 WW:nW<=wr.heap.size
 Or:OwnPs n0 wr (.slice (some ⟨ga,0,none⟩) k cap) G
 Qr:wr.ownsRow nW 29 6 qv Q.length (flatX cellsP Q)
 QO: ∀x∈Q,OwnV n0 wr x.u x.votes
 X:HeapAt wr gx (.cells XC 47)
 XO:OwnR n0 wr x0
 gg:ga<gx/\gx<nW
theorem StC.later {n0 nW:Nat} {w:World} {ga gx k cap:Nat} {XC:Array Value} {x0:VoteC} {wr wr':World} {G:List PromC} {qv:Value} {Q:List PromC} (h:StC n0 nW w ga gx k cap XC x0 wr G qv Q) (hb:Below wr.heap.size wr wr') (hn:n0<=wr.heap.size) (hs:Below n0 w wr'):StC n0 nW w ga gx k cap XC x0 wr' G qv Q:=
 ⟨hs,h.lo,Nat.le_trans h.WW hb.size,h.Or.later hb,Rw.own_below h.Qr hb,fun x hx=>(h.QO x hx).later hb,h.X.later hb,h.XO.later hb,h.gg⟩
theorem StC.put {n0 nW:Nat} {w:World} {ga gx k cap:Nat} {XC:Array Value} {x0:VoteC} {wr:World} {G:List PromC} {qv:Value} {Q:List PromC} (h:StC n0 nW w ga gx k cap XC x0 wr G qv Q) (hG:G.length=k) (j:Nat) (hj:j<G.length) {M:List VoteC} {va:Option Addr} {vc:Nat}
  (hM:OwnV n0 wr (.slice va M.length vc) M):StC n0 nW w ga gx k cap XC x0 (wr.setCell ⟨ga,j*6+5,none⟩ (.slice va M.length vc)) (G.set j (G[j].give M va vc)) qv Q:=by
 obtain⟨cur0,hc0,hba⟩:=h.Or.heap
 have hg:=grown_set1 wr ga (j*6+5) (.slice va M.length vc)
 refine⟨h.B.setCell (p:=⟨ga,j*6+5,none⟩) hba _,h.lo,Nat.le_trans h.WW hg.size,h.Or.put hG j hj hM,?_,fun x hx=>(h.QO x hx).otherP hg hc0 (by decide) (by decide),?_,own_set h.XO hg hc0 (by decide),h.gg⟩
 ·exact Rw.own_keep h.Qr fun q hq=>hg.block q (Rw.own_lt h.Qr q hq).2 (fun z=>by have:=(Rw.own_lt h.Qr q hq).1;have:=h.gg;cases z;omega)
 ·exact(hg.block gx (get_ltB h.X) (fun z=>by have:=h.gg;cases z;omega)).trans h.X
theorem StC.push {n0 nW:Nat} {w:World} {ga gx k cap:Nat} {XC:Array Value} {x0:VoteC} {wr w6:World} {G:List PromC} {qv v6:Value} {Q:List PromC} {o:Obj} (h:StC n0 nW w ga gx k cap XC x0 wr G qv Q) (hn:n0<=wr.heap.size) (p:PromC) (hp:OwnV n0 wr p.u p.votes)
  (hg:(wr.alloc o).grownBy w6 qv.ownBlock) (ho:w6.ownsRow nW 29 6 v6 (Q++ [p]).length (flatX cellsP (Q++ [p]))):StC n0 nW w ga gx k cap XC x0 w6 G v6 (Q++ [p]):=by
 have hb:=newAlloc wr o
 have hQ:=Rw.own_below h.Qr hb
 have hB:Below n0 w (wr.alloc o):=h.B.alloc hn o
 have hlo: ∀q,qv.ownBlock=some q->nW<=q:=fun q hq=>(Rw.own_lt h.Qr q hq).1
 refine⟨hB.grown hg (by have:=hb.size;omega) (fun q hq=>Nat.le_trans h.lo (hlo q hq)),h.lo,Nat.le_trans h.WW (Nat.le_trans hb.size hg.size),?_,ho,fun x hx=>?_,?_,?_,h.gg⟩
 ·exact OwnPs.gr (q:=nW) (h.Or.later hb) hg hlo (by have:=h.gg;omega) (fun x hx=>own_vP ((h.Or.votes x hx).later hb) hQ hg)
 ·rcases List.mem_append.1 hx with z | z
  ·exact own_vP ((h.QO x z).later hb) hQ hg
  ·rw[List.mem_singleton] at z
   subst z
   exact own_vP (hp.later hb) hQ hg
 ·have hx:=h.X.later hb
  exact(hg.block gx (get_ltB hx) (fun z=>by have:=hlo gx z.symm;have:=h.gg;omega)).trans hx
 ·exact Rw.own_other (h.XO.later hb) hg (own_typesD hQ (h.XO.later hb) (by decide))
theorem gv_same {P O:Nat->PromV} {G:List PromC} {j:Nat} (h: ∀i (hi:i<G.length),G[i].val =if i<j then P i else O i) (e:P j=O j): ∀i (hi:i<G.length),G[i].val =if i<j+1 then P i else O i:=fun i hi=>by
 rw[h i hi]
 by_cases a:i<j
 ·rw[if_pos a,if_pos (by omega)]
 ·rw[if_neg a]
  by_cases b:i=j
  ·subst b;rw[if_pos (by omega),e]
  ·rw[if_neg (by omega)]
theorem gv_set {P O:Nat->PromV} {G:List PromC} {j:Nat} (h: ∀i (hi:i<G.length),G[i].val =if i<j then P i else O i) {y:PromC} (e:y.val=P j): ∀i (hi:i<(G.set j y).length),(G.set j y)[i].val =if i<j+1 then P i else O i:=fun i hi=>by
 have hi2:i<G.length:=by rw[List.length_set] at hi;exact hi
 rw[List.getElem_set]
 by_cases b:j=i
 ·subst b;rw[if_pos rfl,if_pos (by omega),e]
 ·rw[if_neg b,h i hi2]
  by_cases a:i<j
  ·rw[if_pos a,if_pos (by omega)]
  ·rw[if_neg a,if_neg (by omega)]
structure OrigF (O:Nat->PromV) (k:Nat) (B:Int):Prop where
 dis: ∀i j,i<j->j<k->(O i).who ≠(O j).who
 low: ∀i,i<k-> ∀y∈(O i).votes,y.ballot<B
 n9: ∀i,i<k->(O i).votes.length <=9
def origN (l:List ToldV) (i:Nat):PromV:=(promsN l).getD i (promN 0 zeroT)
theorem orig_of {l:List ToldV} (ht: ∀t∈l,ToldB t) {k:Nat} (hk:k<=(promsN l).length) {B:Int} (hB:9<=B):OrigF (origN l) k B:=by
 have hg: ∀i (h:i<k),origN l i=(promsN l)[i]:=fun i h=>by
  unfold origN
  rw[List.getD_eq_getElem?_getD,List.getElem?_eq_getElem (by omega),Option.getD_some]
 have hall:=((okS_iff _ []).1 (promsN_ok ht)).1
 refine⟨fun i j h1 h2=>?_,fun i h y hy=>?_,fun i h=>?_⟩
 ·rw[hg i (by omega),hg j h2]
  exact List.pairwise_iff_getElem.1 (promsK_dis l _) i j (show i<(promsN l).length by omega) (show j<(promsN l).length by omega) h1
 ·rw[hg i h] at hy
  obtain⟨j,h1,h2⟩:=promsK_mem _ _ (List.getElem_mem (show i<(promsN l).length by omega))
  have e:(promsN l)[i]'(by omega)=promN (j:Int) (l.getD j zeroT):=h2
  rw[e] at hy
  have:=promN_low hy
  omega
 ·rw[hg i h]
  exact(mayP_ok (hall _ (List.getElem_mem _))).n9
end Pl
end Go.Proofs.Ytheenjkmglmihaa
