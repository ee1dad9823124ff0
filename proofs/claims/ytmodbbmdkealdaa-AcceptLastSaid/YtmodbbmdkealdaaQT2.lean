/- Texts laid together by program. -/
import Derived.Test.YtmodbbmdkealdaaQT1
import Derived.ProofKit
import Derived.OpenShut
import Derived.Deep.Strs
import Derived.Deep.Slices
import Derived.Lib.SmallJoins
import Derived.SizedLaws
/- What the statements of layer 14 ask besides: what votes leave as it was, what a trim leaves. -/
set_option linter.unusedVariables false
set_option maxRecDepth 8000
set_option linter.unusedSimpArgs false
namespace Go.Proofs.Ytmodbbmdkealdaa
open Lib (hid)
open Go.RowKit
namespace Ac
open Cm

theorem _root_.Go.Proofs.Ytmodbbmdkealdaa.Cm.batG_ok (A:List UInt8) (len:Nat): ∀(F I:Nat) (G:List ReqV),okR [] G=true->G.length<=3->okR [] (batG A len F I G)=true/\(batG A len F I G).length <=3
 | 0,_,G,h,h3=>⟨h,h3⟩
 | F+1,I,G,h,h3=>by
  rw[batG]
  split
  ·rename_i q
   split
   ·exact batG_ok A len F (I+5) G h h3
   ·rename_i c
    refine batG_ok A len F (I+5) _ (okR_push [] h (reqOf_may _ _ _ _ _ (bAtB_lt A (I+1))) ?_) (by simp;omega)
    rw[List.nil_append]
    simpa using c
  ·exact⟨h,h3⟩
theorem _root_.Go.Proofs.Ytmodbbmdkealdaa.Cm.batchF_may (A:List UInt8):mayB (batchF A)=true:=by
 unfold batchF
 split
 ·rfl
 ·split
  ·rfl
  ·have h:=batG_ok A A.length A.length 4 [] rfl (by decide)
   have h0:=bAtB_lt A 3
   exact mayB_mk (by omega) (by omega) (by omega) (by omega) h.2 h.1
theorem OwnV.keep {base g:Nat} {w w':World} {v:Value} {L:List VoteC} (h:OwnV base w v L) (hg:w.grownBy w' (some g)) (hb:g<base):OwnV base w' v L:=
 ⟨Rw.own_keep h.row fun k hk=>hg.block k (Rw.own_lt h.row k hk).2 (fun q=>by cases q;have:=(Rw.own_lt h.row _ hk).1;omega),fun x hx=>(h.reqs x hx).keep hg hb⟩
theorem RdV.sub {w:World} {base:Nat} {u v:Value} {L M:List VoteC} (h:RdV w u L) (ho:w.ownsRow base 49 8 v M.length (flatX cellsV M)) (hs: ∀x∈M,x∈L):RdV w v M:=
 ⟨RdX.own cellsV_length ho,fun x hx=>h.reqs x (hs x hx)⟩
theorem rise_len (hi:Int): ∀(l:List VoteV) (lo:Int),lo<=hi->(∀x∈l,lo<x.slot/\x.slot<=hi)->l.Pairwise (fun x y=>x.slot<y.slot)->(l.length:Int)<=hi - lo
 | [],lo,h,_,_=>by simp;omega
 | x::l,lo,h,h1,h2=>by
  obtain⟨p1,p2⟩:=List.pairwise_cons.1 h2
  have hx:=h1 x List.mem_cons_self
  have ih:=rise_len hi l x.slot hx.2 (fun y hy=>⟨p1 y hy,(h1 y (List.mem_cons_of_mem _ hy)).2⟩) p2
  rw[List.length_cons]
  omega
theorem good_len {s:AccV} (h:Good s):s.votes.length<=9:=by
 have:=rise_len (s.done+9) s.votes s.done (by omega) (fun x hx=>⟨h.list.low x hx,h.list.most x hx⟩) h.list.rise
 omega
theorem acc_done (s:AccV) (b t:Int) (x:BatV):(accF s b t x).1.done =s.done:=by
 unfold accF
 split
 ·rfl
 ·split
  ·rfl
  ·split<;>rfl
theorem acc_ballot (s:AccV) (b t:Int) (x:BatV) (k:Int) (h1:s.ballot<=k) (h2:b<=k):(accF s b t x).1.ballot <=k:=by
 unfold accF
 split
 ·exact h1
 ·split
  ·exact h1
  ·split
   ·exact h1
   ·exact h2
theorem trim_eq {s:AccV} (h:Good s) (h0:s.done=0) (d:Nat) (hd:d<100):trimF s (d:Int)=⟨s.ballot,(d:Int),s.votes.filter fun v=>decide ((d:Int)<v.slot)⟩:=by
 unfold trimF
 by_cases q:d=0
 ·subst q
  rw[if_pos (.inl (by omega))]
  have:s.votes.filter (fun v=>decide (((0:Nat):Int)<v.slot))=s.votes:=List.filter_eq_self.2 fun v hv=>by
   have:=h.list.low v hv
   simp
   omega
  rw[this]
  cases s
  simp at h0 ⊢
  exact h0
 ·rw[if_neg (by omega)]
theorem vals_filter (L:List VoteC) (d:Int):valsV (L.filter fun x=>decide (d<x.slot))=(valsV L).filter fun v=>decide (d<v.slot):=by
 unfold valsV
 rw[List.filter_map]
 rfl
theorem filter_take (L:List VoteC) (d:Int) (k:Nat) (hk:k<L.length):(L.take (k+1)).filter (fun x=>decide (d<x.slot))=(L.take k).filter (fun x=>decide (d<x.slot))++(if d<L[k].slot then [L[k]] else []):=by
 rw[List.take_succ_eq_append_getElem hk,List.filter_append]
 congr 1
 by_cases q:d<L[k].slot
 ·rw[if_pos q]
  simp [q]
 ·rw[if_neg q]
  simp [q]
end Ac
end Go.Proofs.Ytmodbbmdkealdaa

/- Arguments that are batches, tips, opened. -/
set_option linter.unusedVariables false
set_option maxRecDepth 8000
set_option linter.unusedSimpArgs false
namespace Go.Proofs.Ytmodbbmdkealdaa
open Lib (hid)
open Go.RowKit Go.ChangeShapes Go.WideShapes Go.Deep
namespace Cm

theorem list_ofB {α:Type} {P:Nat->α->Prop} : ∀n,(∀i,i<n-> ∃g,P i g)-> ∃l:List α,l.length=n/\ ∀i (h:i<l.length),P i l[i]
 | 0,_=>⟨[],rfl,fun i h=>absurd h (Nat.not_lt_zero _)⟩
 | n+1,h=>by
  obtain⟨l,hl,hp⟩:=list_ofB n (fun i hi=>h i (by omega))
  obtain⟨g,hg⟩:=h n (by omega)
  refine⟨l++ [g],by simp [hl],fun i hi=>?_⟩
  rw[List.length_append,List.length_singleton,hl] at hi
  by_cases q:i<n
  ·rw[List.getElem_append_left (by omega)]
   exact hp i (by omega)
  ·obtain rfl:i=n:=by omega
   rw[List.getElem_append_right (by omega)]
   simpa [hl] using hg
section
variable {H : Type} {enc : TypeId × Value → H} {W : World} {base : Nat} {sp : Nat → Bool} {held : Bool}
end

section
variable {H : Type} {enc : TypeId × Value → H} {W : World}
end
end Cm
end Go.Proofs.Ytmodbbmdkealdaa

/- Arguments that are slices of layer 14's acts, opened; their bytes within the form's reach. -/
set_option linter.unusedVariables false
set_option maxRecDepth 8000
set_option linter.unusedSimpArgs false
namespace Go.Proofs.Ytmodbbmdkealdaa
open Lib (hid)
open Go.RowKit Go.ChangeShapes Go.WideShapes Go.Deep
namespace Ac
open Cm

structure ActC where
 do_:Int
 ballot:Int
 slot:Int
 ns:List UInt8
 na:Option Addr
 nc:Nat
def ActC.u (a:ActC):Value:=.slice a.na a.ns.length a.nc
def cellsQ (a:ActC):List Value:= [.int .i64 a.do_,.int .i64 a.ballot,.int .i64 a.slot,a.u]
theorem cellsQ_length (a:ActC):(cellsQ a).length =4:=rfl
def ActOk (W:World) (a:ActC):Prop:=Rd W a.u a.ns/\a.ns.length<=140737488355328
section
variable {H : Type} {enc : TypeId × Value → H} {W : World}

theorem weightsAll_mem {P:Program} {e:TypeId} {d:DataW H} {n:Nat} (hn:n∈d.weights P e): ∀l:List (DataW H),d∈l->n∈DataW.weightsAll P e l
 | [],h=>by cases h
 | x::l,h=>by
  rw[DataW.weightsAll,List.mem_append]
  rcases List.mem_cons.1 h with rfl | h
  ·exact .inl hn
  ·exact .inr (weightsAll_mem hn l h)
theorem slice_ofW {α:Type} {sz:Nat} {f:α->List Value} {t e:TypeId} (hu:Try.prog.underlying t=some (.slice e)) (hce:Try.prog.cellsOf e=sz) (hsz:0<sz) (hf: ∀x,(f x).length =sz)
  (hel: ∀fuel cs x,DataW.trod enc Try.prog W 0 (fun _=>true) true fuel e cs=some x->(∀n∈x.1.weights Try.prog e,n<=reachBytes)-> ∃y:α,cs=f y)
  {fuel:Nat} {cs:List Value} {x:DataW H × List MemPlace} (h:DataW.trod enc Try.prog W 0 (fun _=>true) true fuel t cs=some x) (hw: ∀n∈x.1.weights Try.prog t,n<=reachBytes): ∃v l,cs= [v]/\RdX sz f W v l:=by
 rcases open_slice hu h with ⟨h0,_⟩ | ⟨ad,len,cap,m,n,D,Pl,h0,_,hl,hm,hmm,hx,hi⟩
 ·exact⟨_,[],h0,RdX.nil W⟩
 ·have hm':m=cap:=by rw[hmm];rfl
  subst hm'
  clear hmm
  have hwi: ∀i,i<len-> ∀n∈(D i).weights Try.prog e,n<=reachBytes:=fun i hil n hn=>by
   refine hw n ?_
   rw[hx]
   simp only[DataW.weights,hu,List.mem_cons,List.mem_append]
   exact .inr (.inl (weightsAll_mem hn _ (List.mem_map.2 ⟨i,List.mem_range.2 hil,rfl⟩)))
  have key: ∀i,i<len-> ∃g:α,∀k u,(f g)[k]?=some u->W.cell? (ad.add (i*sz+k))=some u:=by
   intro i hil
   obtain⟨cs',hc,ht⟩:=hi i (by omega)
   rw[hce] at hc
   obtain⟨y,rfl⟩:=hel _ _ _ ht (hwi i hil)
   obtain⟨_,hcl,hat⟩:=World.cells?_some hc
   refine⟨y,fun k u hk=>?_⟩
   have hks:k<(f y).length :=(List.getElem?_eq_some_iff.1 hk).1
   have a0:=hat k (by rw[hf] at hks;exact hks)
   rw[Go.Deep.add_add] at a0
   rw[<-hk,<-a0]
  obtain⟨l,hll,hp⟩:=list_ofB len key
  refine⟨_,l,h0,some ad,m,by rw[hll],by omega,hm,(fun q=>by cases q),fun x hx hne=>?_⟩
  cases hx
  obtain⟨b,o,spot⟩:=ad
  have hpos:0<l.length:=List.length_pos_iff.2 hne
  have h0l:0<(f l[0]).length :=by rw[hf];exact hsz
  have hc:=hp 0 hpos 0 _ (List.getElem?_eq_getElem h0l)
  have hspot:spot=none:=by simpa [Addr.add] using World.cell?_spot hc
  subst hspot
  refine⟨rfl,fun i hil k u hu=>?_⟩
  have hadd: ∀j,(⟨b,o,none⟩:Addr).add j=⟨b,o+j,none⟩:=fun j=>by unfold Addr.add;split<;>simp_all
  have:=hp i hil k u hu
  rw[hadd] at this
  exact this
theorem bytes_ofW {fuel:Nat} {cs:List Value} {x:DataW H × List MemPlace} (h:DataW.trod enc Try.prog W 0 (fun _=>true) true fuel 36 cs=some x) (hw: ∀n∈x.1.weights Try.prog 36,n<=reachBytes):
  ∃(a:Option Addr) (bs:List UInt8) (c:Nat),cs= [.slice a bs.length c]/\Rd W (.slice a bs.length c) bs/\bs.length<=140737488355328:=by
 rcases open_ints Try.underlying36 Try.underlying5 (by kernel_rfl) h with ⟨hcs,_⟩ | ⟨x',l,c,zs,hcs,_,hl,hm,hz,hdd,hcell,hwz⟩
 ·exact⟨none,[],0,hcs,(IsRow.rd (.inl ⟨rfl,rfl,rfl,rfl⟩:IsRow .u8 W none 0 0 [])).1,by simp⟩
 ·have hr:IsRow .u8 W (some x') l c zs:=.inr ⟨_,rfl,hl,hm,by simpa using hz,hcell,hwz⟩
  obtain⟨h1,h2⟩:=hr.rd
  have hb:Try.prog.bytesOf 5=1:=by kernel_rfl
  have hlen:l<=140737488355328:=by
   have:=hw ((lits .u8 (zs.take l):List (DataW H)).length +(lits .u8 (zs.drop l):List (DataW H)).length) (by
    rw[congrArg Prod.fst hdd]
    simp [DataW.weights,Try.underlying36,hb])
   have hrb:=reachBytes_lt
   simp [lits] at this
   simp at hz
   omega
  refine⟨some x',bytesOf zs l,c,?_,?_,?_⟩
  ·rw[hcs,h2]
  ·rw[h2];exact h1
  ·rw[h2];exact hlen
theorem act_cells (fuel:Nat) (cs:List Value) (x:DataW H × List MemPlace) (h:DataW.trod enc Try.prog W 0 (fun _=>true) true fuel 38 cs=some x) (hw: ∀n∈x.1.weights Try.prog 38,n<=reachBytes): ∃a: {a:ActC // ActOk W a},cs=cellsQ a.1:=by
 have hce:Try.prog.cellsOf 38=4:=by kernel_rfl
 have hcg:Try.prog.cellsOf 36=1:=by kernel_rfl
 obtain⟨xs,n',_,hx,hlen,hxl,hfi⟩:=DataW.trod_struct Try.underlying38 h
 match xs,hxl with
 | [y0,y1,y2,y3],_=>
  have t0:=hfi 0 _ rfl
  have t1:=hfi 1 _ rfl
  have t2:=hfi 2 _ rfl
  have t3:=hfi 3 _ rfl
  simp only[List.getElem?_cons_zero,List.getElem?_cons_succ] at t0 t1 t2 t3
  rw[hce] at hlen
  match cs,hlen with
  | [c0,c1,c2,c3],_=>
   obtain⟨d,e0,_⟩:=DataW.trod_int Try.underlying3 t0
   obtain⟨m,e1,_⟩:=DataW.trod_int Try.underlying3 t1
   obtain⟨q,e2,_⟩:=DataW.trod_int Try.underlying3 t2
   obtain⟨a,bs,c,e3,hr,hl⟩:=bytes_ofW t3 (fun n hn=>hw n (by
    rw[hx]
    simp only[DataW.weights,Try.underlying38,List.map_cons,List.map_nil,DataW.weightsEach,List.mem_append]
    exact .inr (.inr (.inr (.inl hn)))))
   change List.take (Try.prog.cellsOf 36) (List.drop 3 [c0,c1,c2,c3])= _ at e3
   rw[hcg] at e3
   have e0':c0= .int .i64 d:=by injection e0
   have e1':c1= .int .i64 m:=by injection e1
   have e2':c2= .int .i64 q:=by injection e2
   have e3':c3= .slice a bs.length c:=by injection e3
   exact⟨⟨⟨d,m,q,bs,a,c⟩,hr,hl⟩,by rw[e0',e1',e2',e3'];rfl⟩
theorem _root_.Go.Proofs.Ytmodbbmdkealdaa.RdX.mapQ {α β:Type} {sz:Nat} {f:β->List Value} (g:α->β) {w:World} {v:Value} {l:List α} (h:RdX sz (fun x=>f (g x)) w v l):RdX sz f w v (l.map g):=by
 obtain⟨a,cap,hv,h1,h2,h3,h4⟩:=h.ex
 refine⟨a,cap,by rw[List.length_map];exact hv,by rw[List.length_map];exact h1,h2,fun q=>by obtain⟨q1,q2⟩:=h3 q;subst q1;exact⟨rfl,q2⟩,fun x hx hp=>?_⟩
 obtain⟨hs,hc⟩:=h4 x hx (fun q=>hp (by rw[q];rfl))
 refine⟨hs,fun i hi k u hu=>?_⟩
 rw[List.length_map] at hi
 rw[List.getElem_map] at hu
 exact hc i hi k u hu
def ActsC:Type:=List ActC × Value
def actsVal (a:ActsC):Value:=a.2
def actsOk (w:World) (a:ActsC):Prop:=RdX 4 cellsQ w a.2 a.1/\ ∀x∈a.1,ActOk w x
theorem open_acts14 {r:Reach} {b0:Nat} {v:Value} {d:DataW H} {p:List MemPlace} (hv:Value.okWide Try.prog W r b0 22 v) (h:DataW.Trod enc Try.prog W 0 (fun _=>true) true 22 v d p) (hw: ∀n∈d.weights Try.prog 22,n<=reachBytes): ∃a:ActsC,v=actsVal a/\actsOk W a:=by
 obtain⟨a,len,cap,rfl⟩:=okWide_slice Try.underlying22 hv
 obtain⟨m,hm⟩:=h
 obtain⟨u,l,hu,hl⟩:=slice_ofW (f:=fun x: {a:ActC // ActOk W a} =>cellsQ x.1) Try.underlying22 (show Try.prog.cellsOf 38=4 by kernel_rfl) (by omega) (fun x=>cellsQ_length x.1) act_cells hm hw
 have:Value.slice a len cap=u:=by simpa [Value.cells] using hu
 subst this
 refine⟨(l.map Subtype.val,_),rfl,RdX.mapQ (f:=cellsQ) Subtype.val hl,fun x hx=>?_⟩
 obtain⟨y,_,rfl⟩:=List.mem_map.1 hx
 exact y.2
theorem acts_at {a:Option Addr} {n cap:Nat} {L:List ActC} (h:RdX 4 cellsQ W (.slice a n cap) L) (i:Nat) (hi:i<L.length):
  ∃b o,a=some ⟨b,o,none⟩/\ ∀w':World,Below W.heap.size W w'->w'.cell? ⟨b,o+i*4,none⟩=some (.int .i64 L[i].do_)/\w'.cell? ⟨b,o+i*4+1,none⟩=some (.int .i64 L[i].ballot)/\w'.cell? ⟨b,o+i*4+2,none⟩=some (.int .i64 L[i].slot)/\w'.cell? ⟨b,o+i*4+3,none⟩=some L[i].u :=by
 obtain⟨b,o,e,c⟩:=h.at i hi
 exact⟨b,o,e,fun w' hb=>⟨c w' hb 0 _ rfl,c w' hb 1 _ rfl,c w' hb 2 _ rfl,c w' hb 3 _ rfl⟩⟩
end
end Ac
end Go.Proofs.Ytmodbbmdkealdaa

/- Votes that were told, being written over. -/
set_option linter.unusedVariables false
set_option maxRecDepth 8000
set_option linter.unusedSimpArgs false
namespace Go.Proofs.Ytmodbbmdkealdaa
open Lib (hid)
open Go.RowKit
namespace Ac
open Cm

def Ovr (W:World) (vb:Nat) (L:List VoteC):Prop:=
 (∃cur,W.heap[vb]?=some (.cells cur 49)/\L.length*8<=cur.size/\ ∀k (hk:k<L.length),cur[k*8+7]?=some L[k].u)/\
 ∀x∈L,∀a,x.ua=some a->a.off=0/\a.spot=none/\ ∃cc,W.heap[a.block]?=some (.cells cc 53)/\x.bat.reqs.length*5<=cc.size
theorem Ovr.of {W:World} {base n vb cap:Nat} {L:List VoteC} (h:OwnV base W (.slice (some ⟨vb,0,none⟩) n cap) L):Ovr W vb L:=by
 obtain⟨h1,h2⟩:=h
 refine⟨?_,fun x hx a ha=>?_⟩
 ·obtain⟨hl,q⟩:=h1
  rcases q with ⟨q,_⟩ | ⟨g,cap',cur,e,hb,hg,hc,_,hs,ht⟩
  ·cases q
  ·cases e
   refine⟨cur,hg,by rw[hs];exact Nat.mul_le_mul_right 8 hc,fun k hk=>?_⟩
   have h8:=flatX_get cellsV_length L k hk 7 (by omega)
   rw[<-ht,List.getElem?_take,if_pos (by omega)] at h8
   rw[<-Array.getElem?_toList,h8]
   rfl
 ·obtain⟨hl,q⟩:=h2 x hx
  rcases q with ⟨q,_⟩ | ⟨g,cap',cur,e,hb,hg,hc,_,hs,ht⟩
  ·unfold VoteC.u at q
   rw[ha] at q
   cases q
  ·unfold VoteC.u at e
   rw[ha] at e
   cases e
   exact⟨rfl,rfl,cur,hg,by rw[hs];exact Nat.mul_le_mul_right 5 hc⟩
theorem Ovr.later {W W':World} {vb:Nat} {L:List VoteC} (h:Ovr W vb L) (hb:Below W.heap.size W W'):Ovr W' vb L:=by
 obtain⟨⟨cur,h1,h2,h3⟩,h4⟩:=h
 refine⟨⟨cur,cells_later h1 hb,h2,h3⟩,fun x hx a ha=>?_⟩
 obtain⟨q1,q2,cc,q3,q4⟩:=h4 x hx a ha
 exact⟨q1,q2,cc,cells_later q3 hb,q4⟩
theorem Ovr.setV {W:World} {vb:Nat} {L:List VoteC} (h:Ovr W vb L) (k:Nat) (u:Value):Ovr (W.setCell ⟨vb,k*8,none⟩ u) vb L:=by
 obtain⟨⟨cur,h1,h2,h3⟩,h4⟩:=h
 refine⟨⟨cur.setIfInBounds (k*8) u,set_atB h1 _ _,by simpa using h2,fun j hj=>?_⟩,fun x hx a ha=>?_⟩
 ·rw[Array.getElem?_setIfInBounds_ne (by omega)]
  exact h3 j hj
 ·obtain⟨q1,q2,cc,q3,q4⟩:=h4 x hx a ha
  refine⟨q1,q2,cc,(Below.heap_setCell _ _ _ _ (fun e=>?_)).trans q3,q4⟩
  have e:a.block=vb:=e
  rw[e,h1] at q3
  injection q3 with q3
  injection q3 with _ q3
  exact absurd q3 (by decide)
theorem Ovr.setR {W:World} {vb bb i:Nat} {L:List VoteC} {x:VoteC} (h:Ovr W vb L) (hx:x∈L) (ha:x.ua=some ⟨bb,0,none⟩) (u:Value):Ovr (W.setCell ⟨bb,i,none⟩ u) vb L:=by
 obtain⟨⟨cur,h1,h2,h3⟩,h4⟩:=h
 obtain⟨-, -,cb,r3,r4⟩:=h4 x hx _ ha
 refine⟨⟨cur,(Below.heap_setCell _ _ _ _ (fun e=>?_)).trans h1,h2,h3⟩,fun y hy a hya=>?_⟩
 ·have e:vb=bb:=e
  rw[e] at h1
  rw[show(⟨bb,0,none⟩:Addr).block =bb from rfl,h1] at r3
  injection r3 with r3
  injection r3 with _ r3
  exact absurd r3 (by decide)
 ·obtain⟨q1,q2,cc,q3,q4⟩:=h4 y hy a hya
  refine⟨q1,q2,?_⟩
  by_cases e:a.block=bb
  ·rw[e] at q3 ⊢
   exact⟨cc.setIfInBounds i u,set_atB q3 _ _,by simpa using q4⟩
  ·exact⟨cc,(Below.heap_setCell _ _ _ _ e).trans q3,q4⟩
theorem Ovr.slot {W:World} {vb:Nat} {L:List VoteC} (h:Ovr W vb L) (k:Nat) (hk:k<L.length):(∃u,W.cell? ⟨vb,k*8,none⟩=some u)/\W.cell? ⟨vb,k*8+7,none⟩=some L[k].u /\ ∀j,W.frozen? ⟨vb,j,none⟩=false:=by
 obtain⟨⟨cur,h1,h2,h3⟩, -⟩:=h
 exact⟨⟨_,by rw[cell_at h1];exact Array.getElem?_eq_getElem (by omega)⟩,by rw[cell_at h1];exact h3 k hk,frozen_at h1⟩
theorem Ovr.seq {W:World} {vb:Nat} {L:List VoteC} (h:Ovr W vb L) {x:VoteC} (hx:x∈L) (j:Nat) (hj:j<x.bat.reqs.length) (hn:x.ua=none->x.bat.reqs.length=0): ∃bb,x.ua=some ⟨bb,0,none⟩/\(∃u,W.cell? ⟨bb,j*5+1,none⟩=some u)/\ ∀i,W.frozen? ⟨bb,i,none⟩=false:=by
 cases hu:x.ua with
 | none=>have:=hn hu;omega
 | some a=>
  obtain⟨q1,q2,cc,q3,q4⟩:=h.2 x hx a hu
  obtain⟨bb,o,sp⟩:=a
  simp only at q1 q2 q3
  subst q1 q2
  exact⟨bb,rfl,⟨_,by rw[cell_at q3];exact Array.getElem?_eq_getElem (by omega)⟩,frozen_at q3⟩
theorem OwnR.nought {base:Nat} {w:World} {x:VoteC} (h:OwnR base w x) (hu:x.ua=none):x.bat.reqs.length=0:=by
 rcases h.2 with ⟨_,q⟩ | ⟨g,cap',cur,e,_⟩
 ·exact q
 ·unfold VoteC.u at e
  rw[hu] at e
  cases e
theorem OwnR.ge {base bb:Nat} {w:World} {x:VoteC} (h:OwnR base w x) (hu:x.ua=some ⟨bb,0,none⟩):base<=bb:=by
 refine(Rw.own_lt h bb ?_).1
 unfold VoteC.u
 rw[hu]
 rfl
theorem OwnV.ge {base n vb cap:Nat} {w:World} {L:List VoteC} (h:OwnV base w (.slice (some ⟨vb,0,none⟩) n cap) L):base<=vb:=(Rw.own_lt h.row vb rfl).1
theorem prom_up (s:AccV) (b:Int):s.ballot<=(promF s b).1.ballot /\s.done<=(promF s b).1.done :=by
 unfold promF
 split
 ·exact⟨Int.le_refl _,Int.le_refl _⟩
 ·split
  ·exact⟨Int.le_refl _,Int.le_refl _⟩
  ·refine⟨?_,Int.le_refl _⟩
   show s.ballot<=b
   omega
theorem acc_up (s:AccV) (b t:Int) (x:BatV):s.ballot<=(accF s b t x).1.ballot /\s.done<=(accF s b t x).1.done :=by
 unfold accF
 split
 ·exact⟨Int.le_refl _,Int.le_refl _⟩
 ·split
  ·exact⟨Int.le_refl _,Int.le_refl _⟩
  ·split
   ·exact⟨Int.le_refl _,Int.le_refl _⟩
   ·refine⟨?_,Int.le_refl _⟩
    show s.ballot<=b
    omega
theorem trim_up (s:AccV) (d:Int):s.ballot<=(trimF s d).ballot /\s.done<=(trimF s d).done :=by
 unfold trimF
 split
 ·exact⟨Int.le_refl _,Int.le_refl _⟩
 ·refine⟨Int.le_refl _,?_⟩
  show s.done<=d
  omega
theorem rise_at {l:List VoteV} (h:l.Pairwise fun x y=>x.slot<y.slot) (i j:Nat) (hij:i<j) (hj:j<l.length):(l[i]'(by omega)).slot <l[j].slot :=
 List.pairwise_iff_getElem.1 h i j (by omega) hj hij
end Ac
end Go.Proofs.Ytmodbbmdkealdaa
