/- Texts laid together by program. -/
import Derived.Test.YtbpmfjjbfiiiaaaQS14
/- Rows of one's own that begin somewhere in their block: what an append does; which blocks a call may change. No program is named here. -/
set_option linter.unusedVariables false
set_option maxRecDepth 8000
set_option linter.unusedSimpArgs false
namespace Go.Proofs.Ytbpmfjjbfiiiaaa
open Lib (hid)
open Go.RowKit
namespace Ld
open Cm

structure Chg (S:Nat->Prop) (w w':World):Prop where
 os:w'.os=w.os
 tape:w'.tape=w.tape
 output:w'.output=w.output
 size:w.heap.size<=w'.heap.size
 block: ∀k,k<w.heap.size-> ¬S k->w'.heap[k]?=w.heap[k]?
section
variable {S S' : Nat → Prop} {w w' w'' : World}
theorem Chg.refl (S:Nat->Prop) (w:World):Chg S w w:=⟨rfl,rfl,rfl,Nat.le_refl _,fun _ _ _=>rfl⟩
theorem Chg.of (h:Below w.heap.size w w'):Chg S w w':=⟨h.os,h.tape,h.output,h.size,fun k hk _=>h.block k hk⟩
theorem Chg.trans (h:Chg S w w') (k:Chg S' w' w'') (hS: ∀i,S' i->S i\/w.heap.size<=i):Chg S w w'':=
 ⟨k.os.trans h.os,k.tape.trans h.tape,k.output.trans h.output,Nat.le_trans h.size k.size,fun i hi hn=>(k.block i (Nat.lt_of_lt_of_le hi h.size) fun q=>by
  rcases hS i q with r | r
  ·exact hn r
  ·omega).trans (h.block i hi hn)⟩
theorem Chg.below (h:Chg S w w') (k:Below w'.heap.size w' w''):Chg S w w'':=h.trans (Chg.of (S:=fun _=>False) k) (fun _ q=>q.elim)
theorem Chg.from_ (k:Below w.heap.size w w') (h:Chg S w' w''):Chg S w w'':=(Chg.of k).trans h (fun _ q=>.inl q)
theorem Chg.grown {r:Option Nat} (h:Chg S w w') (k:w'.grownBy w'' r) (hr: ∀i,r=some i->S i\/w.heap.size<=i):Chg S w w'':=
 h.trans (S':=fun i=>r=some i) ⟨k.os,k.tape,k.output,k.size,fun i hi hn=>k.block i hi (fun q=>hn q.symm)⟩ hr
theorem Chg.set (h:Chg S w w') (g j:Nat) (u:Value) (hg:S g\/w.heap.size<=g):Chg S w (w'.setCell ⟨g,j,none⟩ u):=
 h.trans (S':=fun i=>i=g) ⟨rfl,rfl,rfl,by simp [World.setCell],fun i _ hn=>Below.heap_setCell _ _ _ _ hn⟩ (fun i q=>by subst q;exact hg)
theorem Chg.mono (h:Chg S w w') (hS: ∀i,S i->S' i):Chg S' w w':=⟨h.os,h.tape,h.output,h.size,fun k hk hn=>h.block k hk (fun q=>hn (hS k q))⟩
theorem Chg.toBelow {B:Nat} (h:Chg S w w') (hB:B<=w.heap.size) (hS: ∀i,S i->B<=i):Below B w w':=
 ⟨h.os,h.tape,h.output,h.size,fun k hk=>h.block k (by omega) (fun q=>by have:=hS k q;omega)⟩
theorem Chg.at_ {g:Nat} {o:Obj} (h:Chg S w w') (k:HeapAt w g o) (hn: ¬S g):HeapAt w' g o:=(h.block g (get_ltB k) hn).trans k
end

def OwnO (w:World) (base:Nat) (e:TypeId) (size:Nat) (v:Value) (n:Nat) (xs:List Value):Prop:=
  xs.length=n*size/\
  ((v= .slice none 0 0/\n=0)\/
   ∃g off cap cur,v= .slice (some ⟨g,off,none⟩) n cap/\base<=g/\w.heap[g]?=some (.cells cur e)/\n<=cap/\cap<=maxLen/\off+cap*size<=cur.size/\(cur.toList.drop off).take (n*size)=xs)
section
variable {w w' : World} {base size n : Nat} {e : TypeId} {v : Value} {xs : List Value}
theorem OwnO.of (h:w.ownsRow base e size v n xs):OwnO w base e size v n xs:=by
 refine⟨h.1,?_⟩
 rcases h.2 with q | ⟨g,cap,cur,rfl,h1,h2,h3,h4,h5,h6⟩
 ·exact .inl q
 ·exact .inr ⟨g,0,cap,cur,rfl,h1,h2,h3,h4,by omega,by simpa using h6⟩
theorem OwnO.nil (w:World) (base:Nat) (e:TypeId) (size:Nat):OwnO w base e size (.slice none 0 0) 0 []:=OwnO.of (World.ownsRow_nil _ _ _ _)
theorem OwnO.form (h:OwnO w base e size v n xs): ∃a c,v= .slice a n c:=by
 rcases h.2 with ⟨rfl,rfl⟩ | ⟨g,off,cap,cur,rfl,_⟩
 ·exact⟨_,_,rfl⟩
 ·exact⟨_,_,rfl⟩
theorem OwnO.lt (h:OwnO w base e size v n xs) (g:Nat) (hg:v.ownBlock=some g):base<=g/\g<w.heap.size:=by
 rcases h.2 with ⟨rfl,_⟩ | ⟨g',off,cap,cur,rfl,h1,h2,_⟩
 ·cases hg
 ·have:g'=g:=by simpa [Value.ownBlock] using hg
  subst this
  exact⟨h1,get_ltB h2⟩
theorem OwnO.keep (h:OwnO w base e size v n xs) (hb: ∀g,v.ownBlock=some g->w'.heap[g]?=w.heap[g]?):OwnO w' base e size v n xs:=by
 refine⟨h.1,?_⟩
 rcases h.2 with q | ⟨g,off,cap,cur,rfl,h1,h2,h3⟩
 ·exact .inl q
 ·exact .inr ⟨g,off,cap,cur,rfl,h1,(hb g rfl).trans h2,h3⟩
theorem OwnO.later (h:OwnO w base e size v n xs) (hb:Below w.heap.size w w'):OwnO w' base e size v n xs:=h.keep fun g hg=>hb.block g (h.lt g hg).2
theorem OwnO.lower {base':Nat} (h:OwnO w base e size v n xs) (hb:base'<=base):OwnO w base' e size v n xs:=by
 refine⟨h.1,?_⟩
 rcases h.2 with q | ⟨g,off,cap,cur,rfl,h1,r⟩
 ·exact .inl q
 ·exact .inr ⟨g,off,cap,cur,rfl,Nat.le_trans hb h1,r⟩
theorem OwnO.ne (h:OwnO w base e size v n xs) {g:Nat} {cs:Array Value} {t:TypeId} (hg:w.heap[g]?=some (.cells cs t)) (hne:e≠t):v.ownBlock≠some g:=by
 intro q
 rcases h.2 with ⟨rfl,_⟩ | ⟨g1,off,cap,cur,rfl,_,q1,_⟩
 ·cases q
 have r1:g1=g:=by simpa [Value.ownBlock] using q
 subst r1
 rw[q1] at hg
 injection hg with hg
 injection hg with _ hg
 exact hne hg
theorem OwnO.apart {b2 s2 n2:Nat} {e2:TypeId} {v2:Value} {ys:List Value} (h:OwnO w base e size v n xs) (h2:OwnO w b2 e2 s2 v2 n2 ys) (hne:e≠e2):Rw.Apart v v2:=by
 intro g hu hv
 rcases h2.2 with ⟨rfl,_⟩ | ⟨g2,off,cap2,cur2,rfl,_,q2,_⟩
 ·cases hv
 have r2:g2=g:=by simpa [Value.ownBlock] using hv
 subst r2
 exact h.ne q2 hne hu
theorem OwnO.cellAt {g off cap:Nat} (h:OwnO w base e size (.slice (some ⟨g,off,none⟩) n cap) n xs) (j:Nat) (hj:j<n*size):w.cell? ⟨g,off+j,none⟩=xs[j]?:=by
 rcases h.2 with ⟨q,_⟩ | ⟨g1,off1,cap1,cur,hv,_,q1,_,_,_,ht⟩
 ·cases q
 cases hv
 rw[cell_at q1,<-ht,List.getElem?_take,if_pos hj,List.getElem?_drop]
 simp
theorem OwnO.open_ {g off cap:Nat} (h:OwnO w base e size (.slice (some ⟨g,off,none⟩) n cap) n xs) (j:Nat):w.frozen? ⟨g,j,none⟩=false:=by
 rcases h.2 with ⟨q,_⟩ | ⟨g1,off1,cap1,cur,hv,_,q1,_⟩
 ·cases q
 cases hv
 exact frozen_at q1 j
end

section
variable {α : Type} {sz : Nat} {f : α → List Value}
theorem RdX.ownO (hf: ∀x,(f x).length =sz) {w:World} {base:Nat} {e:TypeId} {v:Value} {l:List α} (h:OwnO w base e sz v l.length (flatX f l)):RdX sz f w v l:=by
 rcases h.2 with ⟨rfl,hn⟩ | ⟨g,off,cap,cur,rfl,hb,hg,hn,hc,hs,ht⟩
 ·have:l= []:=List.length_eq_zero_iff.1 hn
  subst this
  exact RdX.nil w
 ·refine⟨some ⟨g,off,none⟩,cap,rfl,hn,hc,(fun q=>by cases q),fun x hx hp=>?_⟩
  cases hx
  refine⟨rfl,fun i hi k u hu=>?_⟩
  have hk:k<sz:=by rw[<-hf l[i]];exact(List.getElem?_eq_some_iff.1 hu).1
  have a1:=h.cellAt (i*sz+k) (by
   have:i*sz+sz<=l.length*sz:=by rw[<-Nat.succ_mul];exact Nat.mul_le_mul_right _ hi
   omega)
  rw[flatX_get hf l i hi k hk] at a1
  exact a1.trans hu
theorem RdX.chg {S:Nat->Prop} {w w':World} {v:Value} {l:List α} (h:RdX sz f w v l) (hc:Chg S w w') (hn: ∀k,v.ownBlock=some k-> ¬S k):RdX sz f w' v l:=by
 obtain⟨a,cap,rfl,h1,h2,h3,h4⟩:=h.ex
 refine⟨a,cap,rfl,h1,h2,h3,fun x hx hp=>?_⟩
 subst hx
 obtain⟨hs,hc'⟩:=h4 x rfl hp
 refine⟨hs,fun i hi k u hu=>?_⟩
 have c:=hc' i hi k u hu
 have hl:x.block<w.heap.size:=lt_of_cell (a:=⟨x.block,x.off+(i*sz+k),none⟩) c
 exact(World.cell?_of_block (a:=⟨x.block,x.off+(i*sz+k),none⟩) (hc.block x.block hl (hn _ rfl))).trans c
end

section
variable {P : Program} (w : World)
theorem run_append_O (base:Nat) (t ty e:TypeId) (i:TypeInfo) (z:Value) (size bytes:Nat) (ht:P.underlying t=some (.slice e)) (hi:P.info? e=some i) (hz:i.zero=some z)
  (hsize:i.size=size) (hby:i.bytes=bytes) (hzs:z.cells.size=size) (hsz:0<size)
  (v:Value) (n:Nat) (xs:List Value) (hown:OwnO w base e size v n xs)
  (a:Addr) (m c:Nat) (news:List Value) (hl:news.length=m*size) (hnews: ∀j u,news[j]?=some u->w.cell? (a.add j)=some u) (h1: ∀u∈news,u.oneCell'=true)
  (hm0:0<m) (h63:n+m<=maxLen) (hbytes:(n+m)*bytes<=140737488355328) (hbase:base<=w.heap.size):
  ∃v' w',(Builtin.append_ #[t,t] ty #[v,.slice (some a) m c]).run P w= .ok v' w'/\OwnO w' base e size v' (n+m) (xs++news)/\w.grownBy w' v.ownBlock/\(v'.ownBlock=v.ownBlock\/v'.ownBlock=some w.heap.size):=by
 subst hsize
 subst hby
 have hsmall:n+m<=9223372036854775807:=by simp only[maxLen] at h63;omega
 have hlen:(xs++news).length =(n+m)*i.size:=by rw[List.length_append,hown.1,hl,Nat.add_mul]
 have fresh: ∀(old:Nat),old<n+m-> ∀(row:Option Nat),
   OwnO (w.drew.alloc (.cells (xs.toArray++news.toArray++Builtin.zeroCells z.cells (grownCap w (n+m) old e - (n+m))) e)) base e i.size
    (.slice (some ⟨w.heap.size,0,none⟩) (n+m) (grownCap w (n+m) old e)) (n+m) (xs++news)/\
   w.grownBy (w.drew.alloc (.cells (xs.toArray++news.toArray++Builtin.zeroCells z.cells (grownCap w (n+m) old e - (n+m))) e)) row:=by
  intro old ho row
  have hge:=grownCap_ge w (n+m) old e
  have hcm:grownCap w (n+m) old e<=maxLen:=grownCap_le_maxLen w (n+m) old e h63
  refine⟨⟨hlen,.inr ⟨w.heap.size,0,_,_,rfl,hbase,heap_alloc_new w.drew _,hge,hcm,?_,?_⟩⟩,⟨rfl,rfl,rfl,by simp,fun k hk _=>heap_alloc_old w.drew _ hk⟩⟩
  ·refine Nat.le_of_eq ?_
   simp only[Array.size_append,List.size_toArray,size_zeroCells,hzs,hown.1,hl,<-Nat.add_mul,Nat.zero_add]
   congr 1
   omega
  ·simp only[Array.toList_append,List.append_assoc,List.drop_zero]
   rw[<-List.append_assoc,<-hlen]
   exact List.take_left
 rcases hown.2 with ⟨rfl,rfl⟩ | ⟨g,off,cap,cur,rfl,hbg,hg,hnc,hcm,hcs,htake⟩
 ·have hx:xs= []:=List.eq_nil_of_length_eq_zero (by simpa using hown.1)
  subst hx
  have hr:=run_append_nil (P:=P) w t ty e i z ht hi hz a m c news hl hnews (by omega) (by omega) (by have hb:=hbytes;simp only[Nat.zero_add] at hb;omega)
  have hgr:=fresh 0 (by omega) (Value.ownBlock (.slice none 0 0))
  simp only[Nat.zero_add,List.nil_append,Array.empty_append] at hgr ⊢
  exact⟨_,_,hr,hgr.1,hgr.2,.inr rfl⟩
 ·by_cases hroom:n+m<=cap
  ·have hcap:(n+m)*i.size<=cap*i.size:=Nat.mul_le_mul_right _ hroom
   have hnm:(n+m)*i.size=n*i.size+m*i.size:=Nat.add_mul _ _ _
   have hfit:off+n*i.size+news.length<=cur.size:=by rw[hl];omega
   have hf:=run_firstCells_some (P:=P) w i.size m a m c news hl hnews
   have hst:=run_storeCells_at P g (off+n*i.size) e news 0 cur w hg (by simpa using hfit) h1
   simp only[Nat.add_zero] at hst
   have hr:(Builtin.append_ #[t,t] ty #[.slice (some ⟨g,off,none⟩) n cap,.slice (some a) m c]).run P w=
     .ok (.slice (some ⟨g,off,none⟩) (n+m) cap) (w.setRow g (cur.toList.take (off+n*i.size)++news++cur.toList.drop (off+n*i.size+news.length)).toArray):=by
    simp [Builtin.append_,run_underlying ht,sizeOf,typeInfo,hi,Builtin.lenOf,hroom,hf,Addr.add_lit,hst]
   have hcl:cur.toList.length=cur.size:=Array.length_toList
   refine⟨_,_,hr,⟨hlen,.inr ⟨g,off,cap,_,rfl,hbg,setRow_heap w g cur _ e _ hg,hroom,hcm,?_,?_⟩⟩,⟨rfl,rfl,rfl,by simp,fun k _ hk=>setRow_other w g k _ (fun e=>hk (by simp [Value.ownBlock,e]))⟩,.inl rfl⟩
   ·simp only[List.size_toArray,List.length_append,List.length_take,List.length_drop,Array.length_toList]
    omega
   ·have e1:(cur.toList.take (off+n*i.size)).drop off=xs:=by
     rw[<-htake,List.drop_take]
     congr 1
     omega
    have e2:(cur.toList.take (off+n*i.size)).length =off+n*i.size:=by rw[List.length_take];omega
    show List.take ((n+m)*i.size) (List.drop off (cur.toList.take (off+n*i.size)++news++cur.toList.drop (off+n*i.size+news.length)))=xs++news
    rw[List.append_assoc,List.drop_append_of_le_length (by omega),e1,<-List.append_assoc,<-hlen]
    exact List.take_left
  ·have holds: ∀j u,xs[j]?=some u->w.cell? ((⟨g,off,none⟩:Addr).add j)=some u:=fun j u hu=>by
    have hj:j<n*i.size:=by rw[<-hown.1];exact(List.getElem?_eq_some_iff.1 hu).1
    rw[Addr.add_lit]
    exact(hown.cellAt j hj).trans hu
   have hr:=run_append_grow (P:=P) w t ty e i z ht hi hz ⟨g,off,none⟩ n cap xs hown.1 holds a m c news hl hnews (by omega) (by omega) (growslice_fits (by omega) hbytes)
   have hgr:=fresh cap (by omega) (Value.ownBlock (.slice (some ⟨g,off,none⟩) n cap))
   exact⟨_,_,hr,hgr.1,hgr.2,.inr rfl⟩
theorem wp_append_O {o:Oper} {a:Act} {K:Act->World->Prop} {Q:Exit->Act->World->Prop} (s x:Operand) (t:TypeId)
  (ho:o.op= .call { callee:=.builtin .append,args:=#[s,x],argTypes:=#[t,t] })
  (base:Nat) (e:TypeId) (i:TypeInfo) (z:Value) (size bytes:Nat) (ht:P.underlying t=some (.slice e)) (hi:P.info? e=some i) (hz:i.zero=some z)
  (hsize:i.size=size) (hby:i.bytes=bytes) (hzs:z.cells.size=size) (hsz:0<size)
  (v:Value) (n:Nat) (xs:List Value) (hs:a.eval s=v) (hown:OwnO w base e size v n xs)
  (ad:Addr) (m c:Nat) (news:List Value) (hx:a.eval x= .slice (some ad) m c) (hl:news.length=m*size) (hnews: ∀j u,news[j]?=some u->w.cell? (ad.add j)=some u) (h1: ∀u∈news,u.oneCell'=true)
  (hm0:0<m) (h63:n+m<=maxLen) (hbytes:(n+m)*bytes<=140737488355328) (hbase:base<=w.heap.size)
  (h: ∀v' w',OwnO w' base e size v' (n+m) (xs++news)->w.grownBy w' v.ownBlock->(v'.ownBlock=v.ownBlock\/v'.ownBlock=some w.heap.size)->K (a.put o.dst v') w'):o.wp P a w K Q:=by
 obtain⟨v',w',hr,h2,h3,h4⟩:=run_append_O (P:=P) w base t o.type e i z size bytes ht hi hz hsize hby hzs hsz v n xs hown ad m c news hl hnews h1 hm0 h63 hbytes hbase
 unfold Oper.wp execOp
 simp only[ho,resolve,invoke,builtin,Sem.run_bind,Sem.run_pure,Result.andThen_ok,List.map_toArray,List.map_cons,List.map_nil,hs,hx,hr]
 exact h v' w' h2 h3 h4
end
section
variable {P : Program}
theorem step_append_O {ops:Array Oper} {o:Oper} {a:Act} {K:Act->World->Prop} {Q:Exit->Act->World->Prop} {E:Prop} {w:World} (hgd:o.guard=none) (s x:Operand) (t:TypeId)
  (ho:o.op= .call { callee:=.builtin .append,args:=#[s,x],argTypes:=#[t,t] })
  (base:Nat) (e:TypeId) (i:TypeInfo) (z:Value) (size bytes:Nat) (ht:P.underlying t=some (.slice e)) (hi:P.info? e=some i) (hz:i.zero=some z)
  (hsize:i.size=size) (hby:i.bytes=bytes) (hzs:z.cells.size=size) (hsz:0<size)
  (v:Value) (n:Nat) (xs:List Value) (hs:a.eval s=v) (hown:OwnO w base e size v n xs)
  (ad:Addr) (m c:Nat) (news:List Value) (hx:a.eval x= .slice (some ad) m c) (hl:news.length=m*size) (hnews: ∀j u,news[j]?=some u->w.cell? (ad.add j)=some u) (h1: ∀u∈news,u.oneCell'=true)
  (hm0:0<m) (h63:n+m<=maxLen) (hbytes:(n+m)*bytes<=140737488355328) (hbase:base<=w.heap.size)
  (h: ∀v' w',OwnO w' base e size v' (n+m) (xs++news)->w.grownBy w' v.ownBlock->(v'.ownBlock=v.ownBlock\/v'.ownBlock=some w.heap.size)->K (a.put o.dst v') w'):
  if Region.wanted o (yielded ops a.tmps)=true then Oper.wp P o a w K Q else E:=by
 have hw:Region.wanted o (yielded ops a.tmps)=true:=by simp [Region.wanted,hgd]
 rw[if_pos hw]
 exact wp_append_O w s x t ho base e i z size bytes ht hi hz hsize hby hzs hsz v n xs hs hown ad m c news hx hl hnews h1 hm0 h63 hbytes hbase h
end
end Ld
end Go.Proofs.Ytbpmfjjbfiiiaaa

/- What package view answers, as plain functions over numbers. No program is named here. -/
set_option linter.unusedVariables false
set_option maxRecDepth 8000
set_option linter.unusedSimpArgs false
namespace Go.Proofs.Ytbpmfjjbfiiiaaa
open Lib (hid)
open Go.RowKit
namespace Vw

def Tells (v:Value) (w:World) (e:Ending) (w':World):Prop:=e= .returned v/\w=w'
def TellsB (v:Value) (w:World) (e:Ending) (w':World):Prop:=e= .returned v/\Below w.heap.size w w'
theorem Tells.b {v:Value} {w:World} {e:Ending} {w':World} (h:Tells v w e w'):TellsB v w e w':=by
 obtain⟨h1,rfl⟩:=h
 exact⟨h1,Below.refl _ _⟩
def withinF (v a b:Int):Bool:=decide (a<=v) && decide (v<=b)
def hiF (v:Int):Bool:=withinF v 0 2305843009213693952
def someF (n:Int):Bool:=withinF n 1 7
def quorumF (n:Int):Int:=if someF n then n / 2+1 else 0
end Vw
end Go.Proofs.Ytbpmfjjbfiiiaaa

/- What package lead answers, as plain functions over a plain state. No program is named here. -/
set_option linter.unusedVariables false
set_option maxRecDepth 8000
set_option linter.unusedSimpArgs false
namespace Go.Proofs.Ytbpmfjjbfiiiaaa
open Lib (hid)
open Go.RowKit
namespace Ld
open Cm Ac Pl Vw

structure LedV where
 n:Int
 ph:Int
 view:Int
 hd:List Bool
 ps:List PromV
 bats:List BatV
 next:Int
 tv:Int
 ts:Int
 time:Int
def none7:List Bool:= [false,false,false,false,false,false,false]
def idleL (n v:Int):LedV:=⟨n,0,v,none7,[],[],0,0,0,0⟩
def askL (n v:Int):LedV:=⟨n,1,v,none7,[],[],0,0,0,0⟩
def beginF (s:LedV) (v:Int):LedV × Int:=if highF v 0=true then (askL s.n v,0) else (s,1)
def takeF (s:LedV):LedV:=
 ⟨s.n,2,s.view,s.hd,[],(makeF s.ps).1.bats,(makeF s.ps).1.done +1+((makeF s.ps).1.bats.length :Int),(makeF s.ps).1.ev,(makeF s.ps).1.es,(makeF s.ps).1.last⟩
def markF (s:LedV) (p:PromV):LedV:=⟨s.n,s.ph,s.view,s.hd.set p.who.toNat true,s.ps++ [p],s.bats,s.next,s.tv,s.ts,s.time⟩
def hearF (s:LedV) (p:PromV):LedV × Bool × Int:=
 if s.ph=1 then
  if mayP p=true/\p.who<s.n then
   if s.hd.getD p.who.toNat false=false then
    if ((s.ps.length+1:Nat):Int)<quorumF s.n then (markF s p,false,0) else (takeF (markF s p),true,0)
   else (s,false,7)
  else (s,false,1)
 else (s,false,11)
def batL (s:LedV) (time:Int) (rs:List ReqV):BatV:=⟨false,s.view,s.tv,s.ts,time,rs⟩
def pushF (s:LedV) (time:Int) (rs:List ReqV):LedV:=⟨s.n,s.ph,s.view,s.hd,s.ps,s.bats++ [batL s time rs],s.next+1,s.view,s.next,max s.time time⟩
def addF (s:LedV) (done time:Int) (rs:List ReqV):LedV × Int × Int:=
 if s.ph=2 then
  if highF done 0=true/\mayB (batL s time rs)=true then
   if s.next<=done+3/\s.next<=2305843009213693952 then (pushF s time rs,s.next,0)
   else (s,0,5)
  else (s,0,1)
 else (s,0,11)
def firstF (s:LedV):Int:=s.next - (s.bats.length:Int)
def votesAt (view:Int):Int->List BatV->List VoteV
 | _,[]=> []
 | t,b::l=>⟨t,view,b⟩::votesAt view (t+1) l
def startS (s:LedV) (done:Int):Int:=max (firstF s) (done+1)
def slotsF (s:LedV) (done:Int):List VoteV:=
 if s.next<=done then [] else votesAt s.view (startS s done) ((s.bats.drop (startS s done - firstF s).toNat).take (done+4 - startS s done).toNat)
def cutF (s:LedV) (done:Int):LedV:=⟨s.n,s.ph,s.view,s.hd,s.ps,s.bats.drop (done - firstF s+1).toNat,s.next,s.tv,s.ts,s.time⟩
def trimF2 (s:LedV) (done:Int):LedV:=
 if s.ph=2 then
  if s.next<=done then idleL s.n s.view else if firstF s<=done then cutF s done else s
 else s
theorem votesAt_length (view:Int): ∀(l:List BatV) (t:Int),(votesAt view t l).length =l.length
 | [],t=>rfl
 | b::l,t=>by rw[votesAt,List.length_cons,votesAt_length view l,List.length_cons]
theorem votesAt_get (view:Int): ∀(l:List BatV) (t:Int) (i:Nat) (h:i<l.length),(votesAt view t l)[i]?=some ⟨t+(i:Int),view,l[i]⟩
 | b::l,t,0,h=>by simp [votesAt]
 | b::l,t,i+1,h=>by
  have:=votesAt_get view l (t+1) i (by simpa using h)
  rw[votesAt,List.getElem?_cons_succ,this]
  simp only[List.getElem_cons_succ]
  congr 2
  omega
theorem votesAt_snoc (view:Int) (b:BatV): ∀(l:List BatV) (t:Int),votesAt view t (l++ [b])=votesAt view t l++ [⟨t+(l.length:Int),view,b⟩]
 | [],t=>by simp [votesAt]
 | x::l,t=>by
  rw[List.cons_append,votesAt,votesAt_snoc view b l,votesAt,List.cons_append]
  simp only[List.length_cons]
  congr 4
  omega
end Ld
end Go.Proofs.Ytbpmfjjbfiiiaaa
