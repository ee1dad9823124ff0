/- Texts laid together by program. -/
import Derived.Test.YtlaomehfhooiaaaQ17
import Derived.ProofKit
import Derived.OpenShut
import Derived.Deep.Strs
import Derived.Deep.Slices
import Derived.Lib.SmallJoins
/- Arguments that are batches, tips, opened. -/
set_option linter.unusedVariables false
set_option maxRecDepth 8000
set_option linter.unusedSimpArgs false
namespace Go.Proofs.Ytlaomehfhooiaaa
open Lib (hid)
open Go.RowKit Go.ChangeShapes Go.WideShapes Go.Deep
namespace Cm

theorem list_ofB {α:Type} {P:Nat->α->Prop} : ∀n,(∀i,i<n-> ∃g,P i g)-> ∃l:List α,l.length=n/\ ∀i (h:i<l.length),P i l[i]
 | 0,_=>⟨[],rfl,fun i h=>absurd h (Nat.not_lt_zero _)⟩
 | n+1,h=>by
  obtain⟨l,hl,hp⟩:=list_ofB n (fun i hi=>h i (by omega))
  obtain⟨g,hg⟩:=h n (by omega)
  refine⟨l++ [g],by simp [hl],fun i hi=>?_⟩
  rw[List.length_append,List.length_singleton,hl] at hi
  by_cases q:i<n
  ·rw[List.getElem_append_left (by omega)]
   exact hp i (by omega)
  ·obtain rfl:i=n:=by omega
   rw[List.getElem_append_right (by omega)]
   simpa [hl] using hg
section
variable {H : Type} {enc : TypeId × Value → H} {W : World} {base : Nat} {sp : Nat → Bool} {held : Bool}
theorem trod_struct5B {P:Program} {t:TypeId} {f0 f1 f2 f3 f4:Field} {fuel:Nat} {cs:List Value} {x:DataW H × List MemPlace} (ht:P.underlying t=some (.struct #[f0,f1,f2,f3,f4])) (h:DataW.trod enc P W base sp held fuel t cs=some x):
  ∃y0 y1 y2 y3 y4 n,cs.length=P.cellsOf t/\DataW.trod enc P W base sp held n f0.type ((cs.drop f0.offset).take (P.cellsOf f0.type))=some y0/\
   DataW.trod enc P W base sp held n f1.type ((cs.drop f1.offset).take (P.cellsOf f1.type))=some y1/\DataW.trod enc P W base sp held n f2.type ((cs.drop f2.offset).take (P.cellsOf f2.type))=some y2/\
   DataW.trod enc P W base sp held n f3.type ((cs.drop f3.offset).take (P.cellsOf f3.type))=some y3/\DataW.trod enc P W base sp held n f4.type ((cs.drop f4.offset).take (P.cellsOf f4.type))=some y4:=by
 obtain⟨xs,n,_,rfl,hl,hlen,hf⟩:=DataW.trod_struct ht h
 match xs,hlen with
 | [y0,y1,y2,y3,y4],_=>exact⟨y0,y1,y2,y3,y4,n,hl,by simpa using hf 0 f0 rfl,by simpa using hf 1 f1 rfl,by simpa using hf 2 f2 rfl,by simpa using hf 3 f3 rfl,by simpa using hf 4 f4 rfl⟩
theorem tip_cells {fuel:Nat} {cs:List Value} {x:DataW H × List MemPlace} (h:DataW.trod enc Try.prog W base sp held fuel 23 cs=some x):
  ∃p:Int × Int,cs= [.int .i64 p.1,.int .i64 p.2]:=by
 have hce:Try.prog.cellsOf 23=2:=by kernel_rfl
 obtain⟨y0,y1,n',_,hlen,t0,t1⟩:=trod_struct2 Try.underlying23 h
 rw[hce] at hlen
 match cs,hlen with
 | [c0,c1],_=>
  obtain⟨d,e0,_⟩:=DataW.trod_int Try.underlying3 t0
  obtain⟨m,e1,_⟩:=DataW.trod_int Try.underlying3 t1
  have e0':c0= .int .i64 d:=by injection e0
  have e1':c1= .int .i64 m:=by injection e1
  exact⟨(d,m),by rw[e0',e1']⟩
def tipA2 (p:Int × Int):Value:=tipVal p.1 p.2
theorem open_tip {r:Reach} {b0:Nat} {v:Value} {d:DataW H} {p:List MemPlace} (hv:Value.okWide Try.prog W r b0 23 v) (h:DataW.Trod enc Try.prog W base sp held 23 v d p): ∃c:Int × Int,v=tipA2 c:=by
 obtain⟨cs,rfl,hs⟩:=okWide_struct Try.underlying23 hv
 obtain⟨m,hm⟩:=h
 obtain⟨c,hc⟩:=tip_cells hm
 exact⟨c,by unfold tipA2 tipVal;congr 1;apply Array.ext';simpa [Value.cells] using hc⟩
end

section
variable {H : Type} {enc : TypeId × Value → H} {W : World}
theorem req_cellsB {fuel:Nat} {cs:List Value} {x:DataW H × List MemPlace} (h:DataW.trod enc Try.prog W 0 (fun _=>true) true fuel 44 cs=some x): ∃r:ReqV,cs=cellsR r:=req_cells h
theorem reqs_of {fuel:Nat} {cs:List Value} {x:DataW H × List MemPlace} (h:DataW.trod enc Try.prog W 0 (fun _=>true) true fuel 24 cs=some x): ∃v l,cs= [v]/\RdR W v l:=by
 rcases open_slice Try.underlying24 h with ⟨h0,_⟩ | ⟨ad,len,cap,m,n,D,Pl,h0,_,hl,hm,hmm,_,hi⟩
 ·exact⟨_,[],h0,RdX.nil W⟩
 ·have hce:Try.prog.cellsOf 44=5:=by kernel_rfl
  have hm':m=cap:=by rw[hmm];rfl
  subst hm'
  clear hmm
  have key: ∀i,i<len-> ∃g:ReqV,∀k u,(cellsR g)[k]?=some u->W.cell? (ad.add (i*5+k))=some u:=by
   intro i hil
   obtain⟨cs',hc,ht⟩:=hi i (by omega)
   rw[hce] at hc
   obtain⟨y,rfl⟩:=req_cellsB ht
   obtain⟨_,hcl,hat⟩:=World.cells?_some hc
   refine⟨y,fun k u hk=>?_⟩
   have hks:k<(cellsR y).length :=(List.getElem?_eq_some_iff.1 hk).1
   have a0:=hat k (by rw[cellsR_length] at hks;exact hks)
   rw[Go.Deep.add_add] at a0
   rw[<-hk,<-a0]
  obtain⟨l,hll,hp⟩:=list_ofB len key
  refine⟨_,l,h0,some ad,m,by rw[hll],by omega,hm,(fun q=>by cases q),fun x hx hne=>?_⟩
  cases hx
  obtain⟨b,o,spot⟩:=ad
  have hpos:0<l.length:=List.length_pos_iff.2 hne
  have h0l:0<(cellsR l[0]).length :=by rw[cellsR_length];omega
  have hc:=hp 0 hpos 0 _ (List.getElem?_eq_getElem h0l)
  have hspot:spot=none:=by simpa [Addr.add] using World.cell?_spot hc
  subst hspot
  refine⟨rfl,fun i hil k u hu=>?_⟩
  have hadd: ∀j,(⟨b,o,none⟩:Addr).add j=⟨b,o+j,none⟩:=fun j=>by unfold Addr.add;split<;>simp_all
  have:=hp i hil k u hu
  rw[hadd] at this
  exact this
theorem list6B {α:Type} {cs:List α} (h:cs.length=6): ∃c0 c1 c2 c3 c4 c5,cs= [c0,c1,c2,c3,c4,c5]:=by
 match cs,h with
 | [c0,c1,c2,c3,c4,c5],_=>exact⟨c0,c1,c2,c3,c4,c5,rfl⟩
theorem bat_cells {fuel:Nat} {cs:List Value} {x:DataW H × List MemPlace} (h:DataW.trod enc Try.prog W 0 (fun _=>true) true fuel 26 cs=some x):
  ∃(b:BatV) (v:Value),cs= [.bool b.fill,.int .i64 b.view,.int .i64 b.tv,.int .i64 b.ts,.int .i64 b.time,v]/\RdR W v b.reqs:=by
 have hce:Try.prog.cellsOf 26=6:=by kernel_rfl
 have hct:Try.prog.cellsOf 23=2:=by kernel_rfl
 have hcr:Try.prog.cellsOf 24=1:=by kernel_rfl
 obtain⟨y0,y1,y2,y3,y4,n',hlen,t0,t1,t2,t3,t4⟩:=trod_struct5B Try.underlying26 h
 rw[hce] at hlen
 obtain⟨c0,c1,c2,c3,c4,c5,rfl⟩:=list6B hlen
 obtain⟨d,e0,_⟩:=DataW.trod_bool Try.underlying4 t0
 obtain⟨m,e1,_⟩:=DataW.trod_int Try.underlying3 t1
 obtain⟨p,hp⟩:=tip_cells t2
 rw[hct] at hp
 obtain⟨q,e3,_⟩:=DataW.trod_int Try.underlying3 t3
 obtain⟨v,l,e4,hl⟩:=reqs_of t4
 rw[hcr] at e4
 have e0':c0= .bool d:=by injection e0
 have e1':c1= .int .i64 m:=by injection e1
 have e2': [c2,c3]= [.int .i64 p.1,.int .i64 p.2]:=hp
 have e3':c4= .int .i64 q:=by injection e3
 have e4':c5=v:=by injection e4
 have e5:c2= .int .i64 p.1:=by injection e2'
 have e6:c3= .int .i64 p.2:=by injection e2' with _ h;injection h
 exact⟨⟨d,m,p.1,p.2,q,l⟩,v,by rw[e0',e1',e5,e6,e3',e4'],hl⟩
def batA (a:BatV × Value):Value:=batVal a.1 a.2
def batOkA (w:World) (a:BatV × Value):Prop:=RdR w a.2 a.1.reqs
theorem open_bat {r:Reach} {b0:Nat} {v:Value} {d:DataW H} {p:List MemPlace} (hv:Value.okWide Try.prog W r b0 26 v) (h:DataW.Trod enc Try.prog W 0 (fun _=>true) true 26 v d p): ∃a:BatV × Value,v=batA a/\batOkA W a:=by
 obtain⟨cs,rfl,hs⟩:=okWide_struct Try.underlying26 hv
 obtain⟨m,hm⟩:=h
 obtain⟨c,u,hc,hu⟩:=bat_cells hm
 exact⟨(c,u),by unfold batA batVal;congr 1;apply Array.ext';simpa [Value.cells] using hc,hu⟩
end
end Cm
end Go.Proofs.Ytlaomehfhooiaaa

/- What the statements of layer 12 ask besides: a row laid as it stands; batches that may not be. -/
set_option linter.unusedVariables false
set_option maxRecDepth 8000
set_option linter.unusedSimpArgs false
namespace Go.Proofs.Ytlaomehfhooiaaa
open Lib (hid)
open Go.RowKit
namespace Cm

theorem rdr_block {W:World} {g:Nat} {cs:Array Value} {t:TypeId} {l:List ReqV} (h:HeapAt W g (.cells cs t)) (hc:cs.toList=flatX cellsR l) (hm:l.length<=maxLen):RdR W (.slice (some ⟨g,0,none⟩) l.length l.length) l:=by
 refine⟨some ⟨g,0,none⟩,l.length,rfl,Nat.le_refl _,hm,(fun q=>by cases q),fun x hx hp=>?_⟩
 cases hx
 refine⟨rfl,fun i hi k u hu=>?_⟩
 have hk:k<5:=by rw[<-cellsR_length l[i]];exact(List.getElem?_eq_some_iff.1 hu).1
 rw[Nat.zero_add,cell_at h,<-Array.getElem?_toList,hc,flatX_get cellsR_length l i hi k hk]
 exact hu
theorem PutB_none (b:BatV) (u:Value) (w:World) (h:RdR w u b.reqs) (hm:mayB b=false):Calls Try.prog 8 #[batVal b u] w (fun e w'=> ∃a c,e= .returned (.tuple #[.slice a 0 c,.int .i64 1])/\Below w.heap.size w w'):=by
 refine(PutB_any b u w h).mono fun e w' q=>?_
 unfold putB at q
 rw[hm,if_neg (by simp)] at q
 obtain⟨v,he,ho,hb⟩:=q
 obtain⟨a,c,rfl⟩:=Rw.own_form ho
 exact⟨a,c,he,hb⟩
theorem not_two (f:Bool) (v t s m:Int) (r:ReqV):mayB ⟨false,v,t,s,m,[r,r]⟩=false:=by
 rw[show mayB ⟨false,v,t,s,m,[r,r]⟩=(highF v 0 && highF t 0 && highF s 0 && highF m 0 && reqsF [r,r]) from rfl]
 have:reqsF [r,r]=false:=by simp [reqsF,okR,hasC]
 rw[this,Bool.and_false]
theorem not_four (v t s m:Int) (l:List ReqV) (h:l.length=4):mayB ⟨false,v,t,s,m,l⟩=false:=by
 rw[show mayB ⟨false,v,t,s,m,l⟩=(highF v 0 && highF t 0 && highF s 0 && highF m 0 && reqsF l) from rfl]
 have:reqsF l=false:=by simp [reqsF,h]
 rw[this,Bool.and_false]
theorem not_nought (v t s m c:Int) (d:CmdV):mayB ⟨false,v,t,s,m,[⟨c,0,d⟩]⟩=false:=by
 rw[show mayB ⟨false,v,t,s,m,[⟨c,0,d⟩]⟩=(highF v 0 && highF t 0 && highF s 0 && highF m 0 && reqsF [⟨c,0,d⟩]) from rfl]
 have:reqsF [⟨c,0,d⟩]=false:=by simp [reqsF,okR,mayR,highF]
 rw[this,Bool.and_false]
theorem not_fill (v t s m:Int) (l:List ReqV) (h:m≠0):mayB ⟨true,v,t,s,m,l⟩=false:=by
 simp [mayB,h]
theorem not_view (t s m:Int) (l:List ReqV):mayB ⟨false, -1,t,s,m,l⟩=false:=by
 simp [mayB,highF]
theorem not_slot (v t m:Int) (l:List ReqV):mayB ⟨false,v,t,2305843009213693953,m,l⟩=false:=by
 simp [mayB,highF]
theorem HeapAt.set {w:World} {g i:Nat} {cs:Array Value} {t:TypeId} (h:HeapAt w g (.cells cs t)) (u:Value):HeapAt (w.setCell ⟨g,i,none⟩ u) g (.cells (cs.setIfInBounds i u) t):=set_atB h i u
theorem HeapAt.lt {w:World} {g:Nat} {o:Obj} (h:HeapAt w g o):g<w.heap.size:=get_ltB h
theorem own_set {w:World} {base g i n:Nat} {e:TypeId} {sz:Nat} {v:Value} {xs:List Value} (h:w.ownsRow base e sz v n xs) (hne:v.ownBlock≠some g) (u:Value):(w.setCell ⟨g,i,none⟩ u).ownsRow base e sz v n xs:=
 Rw.own_keep h fun k hk=>Below.heap_setCell _ _ _ _ (by intro q;exact hne (by rw[hk];congr 1))
theorem step_append_ownB {P:Program} {w:World} {ops:Array Oper} {o:Oper} {a:Act} {K:Act->World->Prop} {Q:Exit->Act->World->Prop} {E:Prop} (hgd:o.guard=none) (s x:Operand) (t:TypeId)
  (ho:o.op= .call { callee:=.builtin .append,args:=#[s,x],argTypes:=#[t,t] })
  (base:Nat) (e:TypeId) (i:TypeInfo) (z:Value) (size bytes:Nat) (ht:P.underlying t=some (.slice e)) (hi:P.info? e=some i) (hz:i.zero=some z)
  (hsize:i.size=size) (hby:i.bytes=bytes) (hzs:z.cells.size=size) (hsz:0<size)
  (v:Value) (n:Nat) (xs:List Value) (hs:a.eval s=v) (hown:w.ownsRow base e size v n xs)
  (ad:Addr) (m c:Nat) (news:List Value) (hx:a.eval x= .slice (some ad) m c) (hl:news.length=m*size) (hnews: ∀j u,news[j]?=some u->w.cell? (ad.add j)=some u) (h1: ∀u∈news,u.oneCell'=true)
  (h63:n+m<=maxLen) (hbytes:(n+m)*bytes<=140737488355328) (hbase:base<=w.heap.size)
  (h: ∀v' w',w'.ownsRow base e size v' (n+m) (xs++news)->w.grownBy w' v.ownBlock->(v'= .slice none 0 0 ↔ v= .slice none 0 0/\m=0)->K (a.put o.dst v') w'):
  if Region.wanted o (yielded ops a.tmps)=true then Oper.wp P o a w K Q else E:=by
 have hw:Region.wanted o (yielded ops a.tmps)=true:=by simp [Region.wanted,hgd]
 rw[if_pos hw]
 exact wp_append_own w s x t ho base e i z size bytes ht hi hz hsize hby hzs hsz v n xs hs hown ad m c news hx hl hnews h1 h63 hbytes hbase h
end Cm
end Go.Proofs.Ytlaomehfhooiaaa
