/- Texts laid together by program. -/
import Derived.Test.YtmodbbmdkealdaaV9
import Derived.Deep.MidRow
/- Contract of package accept: Trim. -/
set_option linter.unusedVariables false
set_option maxRecDepth 8000
set_option linter.unusedSimpArgs false
namespace Go.Proofs.Ytmodbbmdkealdaa
open Lib (hid)
open Go.RowKit
namespace Ac
open Cm

theorem infoV:(Try.prog.info? 49).map (fun i=>(i.zero,i.size,i.bytes))=some (some (voteVal zeroC),8,80):=by kernel_rfl
theorem infoV9:(Try.prog.info? 60).map (·.size)=some 72:=by kernel_rfl
theorem aggV (w:World):(isAgg 49).run Try.prog w= .ok true w:=by kernel_rfl
theorem index_votes (M:List VoteC) (hM:M.length=9) (i:Nat) (hi:i<M.length) (w:World):
  (Instr.index 60 (.agg (flatX cellsV M).toArray) (.int .i64 (i:Int))).run Try.prog w= .ok (voteVal M[i]) w:=by
 have h1:(0:Int)<=(i:Int)/\(i:Int)<((9:Nat):Int):=by omega
 obtain⟨iv,hiv, -,hs, -⟩:=info_partsA infoV
 have hsz:(sizeOf 49).run Try.prog w= .ok 8 w:=by simp [sizeOf,typeInfo,hiv,hs]
 have hx:(flatX cellsV M).toArray.extract (i*8) (i*8+8)=(cellsV M[i]).toArray :=by
  apply Array.ext_getElem?
  intro k
  rw[Array.getElem?_extract]
  have hl:(flatX cellsV M).length =M.length*8:=flatX_length cellsV_length M
  by_cases hk:k<8
  ·rw[List.getElem?_toArray,List.getElem?_toArray,<-flatX_get cellsV_length M i hi k hk,if_pos (by simp [hl];omega)]
  ·rw[if_neg (by simp;omega),List.getElem?_toArray,List.getElem?_eq_none (by rw[cellsV_length];omega)]
 have hu:(underlying 60).run Try.prog w= .ok (.array 9 49) w:=run_underlying Try.underlying60 w
 simp only[Instr.index,asIntOf,Sem.run_bind,Sem.run_pure,Result.andThen_ok,hu,if_pos h1,part,hsz,aggV,Int.toNat_natCast,if_true,hx]
 rfl
def trimK (l:List VoteV) (d:Int) (k:Nat):List VoteV:=(List.range 9).map fun j=>if j<k/\(plc l j).slot <=d then zeroV else plc l j
theorem trimK_none (l:List VoteV) (d:Int):trimK l d 0=places l:=by
 unfold trimK places
 apply List.map_congr_left
 intro j _
 rw[if_neg (by omega)]
theorem trimK_all {l:List VoteV} {d e:Int} (he:0<=e) (h:GoodL d l):trimK l e 9=places (l.filter fun v=>decide (e<v.slot)):=by
 unfold trimK places
 apply List.map_congr_left
 intro j hj
 have hj9:=List.mem_range.1 hj
 rw[plc_trim he j d l h]
 by_cases q:(plc l j).slot <=e
 ·rw[if_pos ⟨hj9,q⟩,if_pos q]
 ·rw[if_neg (fun x=>q x.2),if_neg q]
theorem trimK_length (l:List VoteV) (d:Int) (k:Nat):(trimK l d k).length =9:=by simp [trimK]
theorem trimK_keep (l:List VoteV) (d:Int) (k:Nat) (hk:k<9) (h: ¬(plc l k).slot <=d):trimK l d (k+1)=trimK l d k:=by
 unfold trimK
 apply List.map_congr_left
 intro j _
 by_cases e:j=k
 ·subst e
  rw[if_neg (fun q=>h q.2),if_neg (fun q=>h q.2)]
 ·by_cases q:j<k/\(plc l j).slot <=d
  ·rw[if_pos q,if_pos ⟨by omega,q.2⟩]
  ·rw[if_neg q,if_neg (fun r=>q ⟨by omega,r.2⟩)]
theorem trimK_get (l:List VoteV) (d:Int) (k j:Nat) (h:j<(trimK l d k).length):(trimK l d k)[j]=if j<k/\(plc l j).slot <=d then zeroV else plc l j:=by simp [trimK]
theorem trimK_drop (l:List VoteV) (d:Int) (k:Nat) (hk:k<9) (h:(plc l k).slot <=d):trimK l d (k+1)=(trimK l d k).set k zeroV:=by
 apply List.ext_getElem
 ·simp [trimK]
 ·intro j h1 h2
  rw[List.getElem_set,trimK_get]
  by_cases e:k=j
  ·subst e
   rw[if_pos rfl,if_pos ⟨by omega,h⟩]
  ·rw[if_neg e,trimK_get]
   by_cases q:j<k/\(plc l j).slot <=d
   ·rw[if_pos q,if_pos ⟨by omega,q.2⟩]
   ·rw[if_neg q,if_neg (fun r=>q ⟨by omega,r.2⟩)]
structure MidA (w:World) (g m:Nat) (b d:Int) (L:List VoteV):Prop where
 ex: ∃M:List VoteC,w.heap[g]?=some (.cells (accCells b d M) 62)/\valsV M=L/\ ∀x∈M,OwnR m w x
 gm:g<m
 mw:m<=w.heap.size
theorem MidA.lt {w:World} {g m:Nat} {b d:Int} {L:List VoteV} (h:MidA w g m b d L):g<w.heap.size:=Nat.lt_of_lt_of_le h.gm h.mw
theorem MidA.later {w w':World} {g m:Nat} {b d:Int} {L:List VoteV} (h:MidA w g m b d L) (hb:Below w.heap.size w w'):MidA w' g m b d L:=by
 obtain⟨M,h1,h2,h3⟩:=h.ex
 exact⟨⟨M,(hb.block _ h.lt).trans h1,h2,fun x hx=>(h3 x hx).later hb⟩,h.gm,Nat.le_trans h.mw hb.size⟩
theorem MidA.put {w:World} {g m:Nat} {b d:Int} {L:List VoteV} (h:MidA w g m b d L) (hL:L.length=9) (p:Nat) (hp:p<9):MidA (set8 w g (2+p*8) zeroC) g m b d (L.set p zeroV):=by
 obtain⟨M,h3,h4,h5⟩:=h.ex
 have hl:M.length=9:=by rw[<-valsV_length,h4,hL]
 refine⟨⟨M.set p zeroC,set8_at h3 p (by omega) zeroC,by rw[valsV_set,h4];rfl,fun x hx=>?_⟩,h.gm,Nat.le_trans h.mw (set8_grown w g _ _).size⟩
 rcases List.mem_or_eq_of_mem_set hx with q | q
 ·exact(h5 x q).keep (set8_grown w g _ _) h.gm
 ·rw[q];exact OwnR.zero _ _
theorem MidA.cells {w:World} {g m:Nat} {b d:Int} {L:List VoteV} (h:MidA w g m b d L) (hL:L.length=9) (p:Nat) (hp:p<9) (k:Nat) (hk:k<8): ∃u,w.cell? ⟨g,2+p*8+k,none⟩=some u:=by
 obtain⟨M,h3,h4, -⟩:=h.ex
 have hl:M.length=9:=by rw[<-valsV_length,h4,hL]
 rw[cell_at h3,accCells_get _ _ M p (by omega) k hk]
 exact⟨_,List.getElem?_eq_getElem (by rw[cellsV_length];exact hk)⟩
theorem MidA.open_ {w:World} {g m:Nat} {b d:Int} {L:List VoteV} (h:MidA w g m b d L) (j:Nat):w.frozen? ⟨g,j,none⟩=false:=by
 obtain⟨M,h3, -, -⟩:=h.ex
 exact frozen_at h3 j
def DidT (g m:Nat) (s:AccV) (w:World) (e:Ending) (w':World):Prop:=e= .returned (.tuple #[])/\HasA w' g m s/\w.grownBy w' (some g)
set_option maxHeartbeats 4000000 in
theorem Trim_any (g m:Nat) (s:AccV) (d:Int) (w:World) (h:HasA w g m s) (hs:Good s):
  Calls Try.prog 16 #[.pointer (some ⟨g,0,none⟩),.int .i64 d] w (DidT g m (trimF s d) w):=by
 have c1:=h.c1
 have cf:=h.open_ 1
 have HH:=hid h
 have HG:=hid hs
 clear h hs
 obtain⟨s',hE⟩: ∃s',trimF s d=s':=⟨_,rfl⟩
 rw[hE]
 unfold trimF at hE
 by_cases h1:d<=s.done
 ·rw[if_pos (.inl h1)] at hE
  subst hE
  have d1:decide (d<=s.done)=true:=decide_eq_true h1
  clear h1
  go_enter Try.func16,Try.ntmps16
  go_wp2
  refine bodyPost_ret (by simp [results,Try.results16,go_sem]<;>rfl) rfl ⟨rfl,HH.out,World.grownBy.refl _ _⟩
 have d1:decide (d<=s.done)=false:=decide_eq_false h1
 by_cases h2:2305843009213693952<d
 ·rw[if_pos (.inr h2)] at hE
  subst hE
  have d2:decide (2305843009213693952<d)=true:=decide_eq_true h2
  clear h1 h2
  go_enter Try.func16,Try.ntmps16
  go_wp2
  refine bodyPost_ret (by simp [results,Try.results16,go_sem]<;>rfl) rfl ⟨rfl,HH.out,World.grownBy.refl _ _⟩
 have d2:decide (2305843009213693952<d)=false:=decide_eq_false h2
 rw[if_neg (by omega)] at hE
 have HD0:Hid (0<=d):=hid (by have:=HG.out.d0;omega)
 have HE:=hid hE
 clear h1 h2 hE
 obtain⟨M,hM1,hM2,hM3⟩:=HH.out.ex
 have hl:M.length=9:=by rw[<-valsV_length,hM2,places_length]
 have hm1:=HH.out.putD d M hM1
 have hld:(w.setCell ⟨g,1,none⟩ (.int .i64 d)).rangeAt g 2 (flatX cellsV M):=fun j v hj=>by
  rw[cell_at hm1]
  unfold accCells
  rw[List.getElem?_toArray,Nat.add_comm 2 j,List.getElem?_cons_succ,List.getElem?_cons_succ]
  exact hj
 have HLD:=hid hld
 have HIN:Hid ((Try.prog.info? 60).map (·.size)=some (flatX cellsV M).length):=hid (by rw[infoV9,flatX_length cellsV_length,hl])
 clear hld
 have HX:Hid (∀(i:Nat) (hi:i<9) (w:World),(Instr.index 60 (.agg (flatX cellsV M).toArray) (.int .i64 (i:Int))).run Try.prog w= .ok (voteVal (M[i]'(by omega))) w):=hid fun i hi w=>index_votes M hl i (by omega) w
 have HMI:Hid (MidA (w.setCell ⟨g,1,none⟩ (.int .i64 d)) g m s.ballot d (places s.votes)):=hid ⟨⟨M,hm1,hM2,fun x hx=>(hM3 x hx).keep (grown_setA w g 1 _) HH.out.gm⟩,HH.out.gm,Nat.le_trans HH.out.mw (grown_setA w g 1 (.int .i64 d)).size⟩
 have HGW:Hid (w.grownBy (w.setCell ⟨g,1,none⟩ (.int .i64 d)) (some g)):=hid (grown_setA w g 1 _)
 have HS:Hid (∀(i:Nat) (hi:i<9),(M[i]'(by omega)).slot =(plc s.votes i).slot):=hid fun i hi=>by
  have e:=valsV_get M i (by omega) (by rw[valsV_length];omega)
  have e2:(valsV M)[i]'(by rw[valsV_length];omega)=plc s.votes i:=by
   rw[<-places_get s.votes i (by rw[places_length];exact hi)]
   congr 1
  rw[e2] at e
  rw[e]
  rfl
 clear hM1 hM2 hM3 hm1
 go_enter Try.func16,Try.ntmps16
 go_upto_region 2 with fail
 clear c1 cf d1 d2
 generalize w.setCell ⟨g,1,none⟩ (.int .i64 d)=W1 at HLD HMI HGW ⊢
 go_wp2_with (refine wpList_load_mid rfl 60 _ rfl g 2 rfl (flatX cellsV M) _ HLD.out Try.underlying60 rfl HIN.out ?_)
 go_loopw [4,5,28] (fun _ _ i wr=> ∃k:Nat,k<=9/\i= .int .i64 (k:Int)/\Hid (MidA wr g m s.ballot d (trimK s.votes d k))/\Hid (w.grownBy wr (some g))) (fun _ _ i _=>9 - (intOf i).toNat)
 case atStart=>exact⟨0,by omega,rfl,by rw[trimK_none];exact HMI,HGW⟩
 case round=>
  obtain⟨k,hk,rfl,HMK,HGK⟩:=hrel
  by_cases hlt:k<9
  ·have hix:=HX.out k hlt wr
   have hsl:=HS.out k hlt
   generalize (M[k]'(by omega))=x at hix hsl
   obtain⟨x1,x2,⟨x3,x4,x5,x6,x7,x8⟩,xa,xc⟩:=x
   unfold voteVal VoteC.u at hix
   dsimp only at hix hsl
   by_cases q:(plc s.votes k).slot <=d
   ·have d0:decide (x1<=d)=true:=by rw[hsl];exact decide_eq_true q
    have HQ:=hid (trimK_drop s.votes d k hlt q)
    clear q hsl
    go_upto_region 5 with fail
    have hc2:=cell_at (alloc_atB wr (.cells #[.int .i64 x1,.int .i64 x2,.bool x3,.int .i64 x4,.int .i64 x5,.int .i64 x6,.int .i64 x7,.slice xa x8.length xc] 49) _ rfl) 0
    have HB2:=hid (newAlloc wr (.cells #[.int .i64 x1,.int .i64 x2,.bool x3,.int .i64 x4,.int .i64 x5,.int .i64 x6,.int .i64 x7,.slice xa x8.length xc] 49))
    generalize wr.alloc (.cells #[.int .i64 x1,.int .i64 x2,.bool x3,.int .i64 x4,.int .i64 x5,.int .i64 x6,.int .i64 x7,.slice xa x8.length xc] 49)=W2 at hc2 HB2 ⊢
    simp at hc2
    clear hix
    have hM2:=HMK.out.later HB2.out
    have cf:=hM2.open_
    have hx:=fun j (hj:j<8)=>hM2.cells (trimK_length _ _ _) k hlt j hj
    obtain⟨o0,m0⟩: ∃u,W2.cell? ⟨g,2+k*8,none⟩=some u:=hx 0 (by omega)
    obtain⟨o1,m1⟩:=hx 1 (by omega)
    obtain⟨o2,m2⟩:=hx 2 (by omega)
    obtain⟨o3,m3⟩:=hx 3 (by omega)
    obtain⟨o4,m4⟩:=hx 4 (by omega)
    obtain⟨o5,m5⟩:=hx 5 (by omega)
    obtain⟨o6,m6⟩:=hx 6 (by omega)
    obtain⟨o7,m7⟩:=hx 7 (by omega)
    have HM3:=hid (hM2.put (trimK_length _ _ _) k hlt)
    rw[<-HQ.out] at HM3
    have HG3:=hid ((gr_below HGK.out HB2.out).trans (set8_grown W2 g (2+k*8) zeroC))
    unfold set8 zeroC VoteC.u at HM3 HG3
    unfold zeroB at HM3 HG3
    dsimp only[List.length_nil] at HM3 HG3
    clear hM2 hx HMK HGK HB2
    have q0:(0:Int)<=(k:Int):=by omega
    have q9:(k:Int)<9:=by omega
    go_wp2
    go_roundw
    case rel=>exact⟨k+1,by omega,by go_num,HM3,HG3⟩
    case measure=>simp [intOf];omega
   ·have d0:decide (x1<=d)=false:=by rw[hsl];exact decide_eq_false q
    have HQ:=hid (trimK_keep s.votes d k hlt q)
    clear q hsl
    go_upto_region 5 with fail
    have hc2:=cell_at (alloc_atB wr (.cells #[.int .i64 x1,.int .i64 x2,.bool x3,.int .i64 x4,.int .i64 x5,.int .i64 x6,.int .i64 x7,.slice xa x8.length xc] 49) _ rfl) 0
    have HB2:=hid (newAlloc wr (.cells #[.int .i64 x1,.int .i64 x2,.bool x3,.int .i64 x4,.int .i64 x5,.int .i64 x6,.int .i64 x7,.slice xa x8.length xc] 49))
    generalize wr.alloc (.cells #[.int .i64 x1,.int .i64 x2,.bool x3,.int .i64 x4,.int .i64 x5,.int .i64 x6,.int .i64 x7,.slice xa x8.length xc] 49)=W2 at hc2 HB2 ⊢
    simp at hc2
    clear hix
    have HM3:=hid (HMK.out.later HB2.out)
    rw[<-HQ.out] at HM3
    have HG3:=hid (gr_below HGK.out HB2.out)
    clear HMK HGK HB2
    go_wp2
    go_roundw
    case rel=>exact⟨k+1,by omega,by go_num,HM3,HG3⟩
    case measure=>simp [intOf];omega
  ·obtain rfl:k=9:=by omega
   go_wp2
   go_end0
   obtain⟨⟨M',a1,a2,a3⟩,b1,b2⟩:=HMK.out
   refine⟨rfl,?_,HGK.out⟩
   rw[<-HE.out]
   exact⟨⟨M',a1,by rw[a2,trimK_all HD0.out HG.out.list],a3⟩,b1,b2⟩
end Ac
end Go.Proofs.Ytmodbbmdkealdaa

/- Rows that grow, what stays told by blocks; rows of unlike elements lie apart. No program is named here. -/
set_option linter.unusedVariables false
set_option maxRecDepth 8000
set_option linter.unusedSimpArgs false
namespace Go.Proofs.Ytmodbbmdkealdaa
open Lib (hid)
open Go.RowKit
namespace Cm

section
variable {α : Type} {sz : Nat} {f : α → List Value}
theorem wpList_append_grD (hf: ∀x,(f x).length =sz) (hsz:0<sz) {P:Program} {ops:Array Oper} {rest:List Oper} {o:Oper} {a:Act} {Q:Exit->Act->World->Prop} {W:World} (hgd:o.guard=none) (s x:Operand) (t:TypeId)
  (ho:o.op= .call { callee:=.builtin .append,args:=#[s,x],argTypes:=#[t,t] })
  (e:TypeId) (i:TypeInfo) (z:Value) (bytes:Nat) (ht:P.underlying t=some (.slice e)) (hi:P.info? e=some i) (hz:i.zero=some z) (hsize:i.size=sz) (hby:i.bytes=bytes) (hzs:z.cells.size=sz)
  (cs:Array Value) (y:α) (hcs:cs.toList=f y) (h1: ∀u∈f y,u.oneCell'=true) (M:List α) (base:Nat) (m:Value) (hs:a.eval s=m) (hx:a.eval x= .slice (some ⟨W.heap.size,0,none⟩) 1 1)
  (hown:W.ownsRow base e sz m M.length (flatX f M)) (h63:M.length+1<=maxLen) (hlen:(M.length+1)*bytes<=140737488355328) (hbase:base<=W.heap.size)
  (h: ∀v' w',w'.ownsRow base e sz v' (M++ [y]).length (flatX f (M++ [y]))->(W.alloc (.cells cs e)).grownBy w' m.ownBlock->(v'.ownBlock=m.ownBlock\/v'.ownBlock=some (W.alloc (.cells cs e)).heap.size)->wpList P ops Q rest (a.put o.dst v') w'):
  wpList P ops Q (o::rest) a (W.alloc (.cells cs e)):=by
 have hz1:(W.alloc (.cells cs e)).heap.size =W.heap.size+1:=by simp
 refine wpList_append_own_at (W.alloc (.cells cs e)) hgd s x t ho base e i z sz bytes ht hi hz hsize hby hzs hsz m M.length (flatX f M) hs (Rw.own_alloc hown _) ⟨W.heap.size,0,none⟩ 1 1 (f y) hx (by rw[hf];omega) ?_ h1 h63 hlen (by rw[hz1];omega) ?_
 ·rw[<-hcs]
  exact World.news_of_block (w:=W.alloc (.cells cs e)) (B:=W.heap.size) (cs:=cs) (t:=e) (fr:=(0,0)) (by show(W.heap.push _)[W.heap.size]?= _;simp)
 ·intro v' w' ho' hg _ hat
  refine h v' w' ?_ hg hat
  rw[List.length_append,flatX_snoc]
  exact ho'
end

theorem own_typesD {w:World} {b1 b2 s1 s2 n1 n2:Nat} {e1 e2:TypeId} {u v:Value} {xs ys:List Value} (h:w.ownsRow b1 e1 s1 u n1 xs) (h2:w.ownsRow b2 e2 s2 v n2 ys) (hne:e1≠e2):Rw.Apart u v:=by
 intro g hu hv
 rcases h.2 with ⟨rfl,_⟩ | ⟨g1,cap,cur,rfl,_,q1,_⟩
 ·cases hu
 rcases h2.2 with ⟨rfl,_⟩ | ⟨g2,cap2,cur2,rfl,_,q2,_⟩
 ·cases hv
 have r1:g1=g:=by simpa [Value.ownBlock] using hu
 have r2:g2=g:=by simpa [Value.ownBlock] using hv
 subst r1
 subst r2
 rw[q1] at q2
 injection q2 with q2
 injection q2 with _ q2
 exact hne q2
end Cm
end Go.Proofs.Ytmodbbmdkealdaa

/- Contract of package accept: Votes. -/
set_option linter.unusedVariables false
set_option maxRecDepth 8000
set_option linter.unusedSimpArgs false
namespace Go.Proofs.Ytmodbbmdkealdaa
open Lib (hid)
open Go.RowKit
namespace Ac
open Cm

def TellsV (l:List VoteV) (w:World) (e:Ending) (w':World):Prop:= ∃v L,e= .returned v/\valsV L=l/\OwnV w.heap.size w' v L/\Below w.heap.size w w'
theorem OwnV.push {base base':Nat} {wr w3 w6:World} {m v':Value} {L:List VoteC} {x:VoteC} (h:OwnV base wr m L) (hb:Below wr.heap.size wr w3)
  (hl:OwnR base' w3 x) (hbs:base<=base') (hg:w3.grownBy w6 m.ownBlock) (ho:w6.ownsRow base 49 8 v' (L++ [x]).length (flatX cellsV (L++ [x]))):OwnV base w6 v' (L++ [x]):=by
 have hm:=(h.later hb).row
 refine⟨ho,fun y hy=>?_⟩
 rcases List.mem_append.1 hy with q | q
 ·have hy':=(h.later hb).reqs y q
  exact Rw.own_other hy' hg (own_typesD hm hy' (by decide))
 ·rw[List.mem_singleton] at q
  subst q
  exact own_lowerX (Rw.own_other hl hg (own_typesD hm hl (by decide))) hbs
set_option maxHeartbeats 4000000 in
theorem Votes_any (g m:Nat) (s:AccV) (w:World) (h:HasA w g m s) (hs:Good s):
  Calls Try.prog 21 #[.pointer (some ⟨g,0,none⟩)] w (TellsV s.votes w):=by
 have HH:=hid h
 have HG:=hid hs
 have HD0:=hid hs.d0
 have HD1:=hid hs.d1
 obtain⟨d,hd⟩: ∃d,s.done=d:=⟨_,rfl⟩
 obtain⟨l,hl⟩: ∃l,s.votes=l:=⟨_,rfl⟩
 have HLL:Hid (GoodL d l):=hid (by rw[<-hd,<-hl];exact hs.list)
 have HMAY:Hid (∀x∈l,mayB x.bat=true):=hid (by rw[<-hl];exact hs.may)
 rw[hd] at HD0 HD1
 rw[hl]
 have HC:Hid (∀W,Below w.heap.size w W->W.cell? ⟨g,1,none⟩=some (.int .i64 d)/\ ∀p,p<9-> ∃x:VoteC,x.val=plc l p/\OwnR m W x/\ ∀W',Below W.heap.size W W'-> ∀k,k<8->W'.cell? ⟨g,2+p*8+k,none⟩=(cellsV x)[k]?):=hid fun W hb=>by
  have hA:=HH.out.later hb
  obtain⟨M,h1,h2,h3⟩:=hA.ex
  have hM:M.length=9:=by rw[<-valsV_length,h2,places_length]
  refine⟨by rw[<-hd];exact hA.c1,fun p hp=>⟨M[p]'(by omega),?_,h3 _ (List.getElem_mem _),fun W' hb' k hk=>?_⟩⟩
  ·have e:=valsV_get M p (by omega) (by rw[valsV_length];omega)
   rw[<-e,<-hl,<-places_get s.votes p (by rw[places_length];exact hp)]
   congr 1
  ·rw[cell_at (cells_later h1 hb')]
   exact accCells_get _ _ M p (by omega) k hk
 clear hd hl h hs HG HH
 obtain⟨i1,hi1,hz0,hz1,hz2⟩:=info_partsA infoV
 go_enter Try.func21,Try.ntmps21
 go_wp2
 go_loopw [3,4,5,8] (fun v _ _ i wr=> ∃(k:Nat) (L:List VoteC),k<=9/\i= .int .i64 (k:Int)/\L.length<=k/\Hid (valsV L=l.filter fun x=>decide (x.slot<=d+(k:Int)))/\Hid (OwnV w.heap.size wr v L)/\Hid (Below w.heap.size w wr)) (fun _ _ _ i _=>9 - (intOf i).toNat)
 case atStart=>exact⟨0,[],by omega,rfl,by simp,hid (by rw[all_none d l HLL.out];rfl),hid (OwnV.nil _ _),hid (Below.refl _ _)⟩
 case round=>
  obtain⟨k,L,hk,rfl,hLk,HV,HO,HB⟩:=hrel
  obtain⟨va,vc,hvv⟩:=HO.out.rd.form
  subst hvv
  by_cases hlt:k<9
  ·obtain⟨p,hp⟩: ∃p:Nat,(d+1+(k:Int)) % 9=(p:Int):=⟨((d+1+(k:Int)) % 9).toNat,by have:=HD0.out;omega⟩
   have hp9:p<9:=by omega
   have hw1:IntKind.i64.wrap (d+1)=d+1:=by have:=HD0.out;have:=HD1.out;rw[IntKind.wrap_i64];omega
   have hw2:IntKind.i64.wrap (d+1+(k:Int))=d+1+(k:Int):=by have:=HD0.out;have:=HD1.out;rw[IntKind.wrap_i64];omega
   have ht9:(d+1+(k:Int)).tmod 9=(p:Int):=by rw[Int.tmod_eq_emod_of_nonneg (by have:=HD0.out;omega)];exact hp
   have q0:(0:Int)<=(p:Int):=by omega
   have q9:(p:Int)<9:=by omega
   have HN:=hid (plc_next d HD0.out k p hlt hp l HLL.out)
   obtain⟨hc1,hx⟩:=HC.out _ HB.out
   obtain⟨x,hxv,hox,hxc⟩:=hx p hp9
   have HXV:=hid hxv
   have HOX:=hid hox
   have HXC:=hid hxc
   clear hx hxv hox hxc hp hp9
   obtain⟨x1,x2,⟨x3,x4,x5,x6,x7,x8⟩,xa,xc⟩:=x
   have HBZ:Hid (Below wr.heap.size wr (wr.alloc (.cells #[.int .i64 0,.int .i64 0,.bool false,.int .i64 0,.int .i64 0,.int .i64 0,.int .i64 0,.slice none 0 0] 49)).drew):=hid (newAlloc wr _).drew
   have b1:(wr.alloc (.cells #[.int .i64 0,.int .i64 0,.bool false,.int .i64 0,.int .i64 0,.int .i64 0,.int .i64 0,.slice none 0 0] 49)).drew.cell? ⟨g,1,none⟩=some (.int .i64 d):=(HC.out _ (step HB.out HBZ.out)).1
   have a0:(wr.alloc (.cells #[.int .i64 0,.int .i64 0,.bool false,.int .i64 0,.int .i64 0,.int .i64 0,.int .i64 0,.slice none 0 0] 49)).drew.cell? ⟨g,2+p*8,none⟩=some (.int .i64 x1):=HXC.out _ HBZ.out 0 (by omega)
   have a1:(wr.alloc (.cells #[.int .i64 0,.int .i64 0,.bool false,.int .i64 0,.int .i64 0,.int .i64 0,.int .i64 0,.slice none 0 0] 49)).drew.cell? ⟨g,2+p*8+1,none⟩=some (.int .i64 x2):=HXC.out _ HBZ.out 1 (by omega)
   have a2:(wr.alloc (.cells #[.int .i64 0,.int .i64 0,.bool false,.int .i64 0,.int .i64 0,.int .i64 0,.int .i64 0,.slice none 0 0] 49)).drew.cell? ⟨g,2+p*8+2,none⟩=some (.bool x3):=HXC.out _ HBZ.out 2 (by omega)
   have a3:(wr.alloc (.cells #[.int .i64 0,.int .i64 0,.bool false,.int .i64 0,.int .i64 0,.int .i64 0,.int .i64 0,.slice none 0 0] 49)).drew.cell? ⟨g,2+p*8+3,none⟩=some (.int .i64 x4):=HXC.out _ HBZ.out 3 (by omega)
   have a4:(wr.alloc (.cells #[.int .i64 0,.int .i64 0,.bool false,.int .i64 0,.int .i64 0,.int .i64 0,.int .i64 0,.slice none 0 0] 49)).drew.cell? ⟨g,2+p*8+4,none⟩=some (.int .i64 x5):=HXC.out _ HBZ.out 4 (by omega)
   have a5:(wr.alloc (.cells #[.int .i64 0,.int .i64 0,.bool false,.int .i64 0,.int .i64 0,.int .i64 0,.int .i64 0,.slice none 0 0] 49)).drew.cell? ⟨g,2+p*8+5,none⟩=some (.int .i64 x6):=HXC.out _ HBZ.out 5 (by omega)
   have a6:(wr.alloc (.cells #[.int .i64 0,.int .i64 0,.bool false,.int .i64 0,.int .i64 0,.int .i64 0,.int .i64 0,.slice none 0 0] 49)).drew.cell? ⟨g,2+p*8+6,none⟩=some (.int .i64 x7):=HXC.out _ HBZ.out 6 (by omega)
   have a7:(wr.alloc (.cells #[.int .i64 0,.int .i64 0,.bool false,.int .i64 0,.int .i64 0,.int .i64 0,.int .i64 0,.slice none 0 0] 49)).drew.cell? ⟨g,2+p*8+7,none⟩=some (.slice xa x8.length xc):=HXC.out _ HBZ.out 7 (by omega)
   have e0:wr.cell? ⟨g,2+p*8,none⟩=some (.int .i64 x1):=HXC.out _ (Below.refl _ _) 0 (by omega)
   have e1:wr.cell? ⟨g,2+p*8+1,none⟩=some (.int .i64 x2):=HXC.out _ (Below.refl _ _) 1 (by omega)
   have e2:wr.cell? ⟨g,2+p*8+2,none⟩=some (.bool x3):=HXC.out _ (Below.refl _ _) 2 (by omega)
   have e3:wr.cell? ⟨g,2+p*8+3,none⟩=some (.int .i64 x4):=HXC.out _ (Below.refl _ _) 3 (by omega)
   have e4:wr.cell? ⟨g,2+p*8+4,none⟩=some (.int .i64 x5):=HXC.out _ (Below.refl _ _) 4 (by omega)
   have e5:wr.cell? ⟨g,2+p*8+5,none⟩=some (.int .i64 x6):=HXC.out _ (Below.refl _ _) 5 (by omega)
   have e6:wr.cell? ⟨g,2+p*8+6,none⟩=some (.int .i64 x7):=HXC.out _ (Below.refl _ _) 6 (by omega)
   have e7:wr.cell? ⟨g,2+p*8+7,none⟩=some (.slice xa x8.length xc):=HXC.out _ (Below.refl _ _) 7 (by omega)
   have hz:=cells_later (alloc_atB wr (.cells #[.int .i64 0,.int .i64 0,.bool false,.int .i64 0,.int .i64 0,.int .i64 0,.int .i64 0,.slice none 0 0] 49) _ rfl) (Below.refl _ _).drew
   have z0:=cell_at hz 0
   have z1:=cell_at hz 1
   have z2:=cell_at hz 2
   have z3:=cell_at hz 3
   have z4:=cell_at hz 4
   have z5:=cell_at hz 5
   have z6:=cell_at hz 6
   have z7:=cell_at hz 7
   have zf:=frozen_at hz
   simp at z0 z1 z2 z3 z4 z5 z6 z7
   clear hz
   go_upto_region 7 with fail
   go_region
   clear a0 a1 a2 a3 a4 a5 a6 a7 e0 e1 e2 e3 e4 e5 e6 e7 z0 z1 z2 z3 z4 z5 z6 z7 zf b1 hc1 hw1 hw2 ht9 q0 q9 HBZ
   have hk2:=cells_later (alloc_atB wr (.cells #[.int .i64 x1,.int .i64 x2,.bool x3,.int .i64 x4,.int .i64 x5,.int .i64 x6,.int .i64 x7,.slice xa x8.length xc] 49) _ rfl) (Below.refl _ _).drew
   have HB2:Hid (Below wr.heap.size wr (wr.alloc (.cells #[.int .i64 x1,.int .i64 x2,.bool x3,.int .i64 x4,.int .i64 x5,.int .i64 x6,.int .i64 x7,.slice xa x8.length xc] 49)).drew):=hid (newAlloc wr _).drew
   generalize (wr.alloc (.cells #[.int .i64 x1,.int .i64 x2,.bool x3,.int .i64 x4,.int .i64 x5,.int .i64 x6,.int .i64 x7,.slice xa x8.length xc] 49)).drew =W2 at hk2 HB2 ⊢
   have c0:=cell_at hk2 0
   have c1:=cell_at hk2 1
   have c2:=cell_at hk2 2
   have c3:=cell_at hk2 3
   have c4:=cell_at hk2 4
   have c5:=cell_at hk2 5
   have c6:=cell_at hk2 6
   have c7:=cell_at hk2 7
   simp at c0 c1 c2 c3 c4 c5 c6 c7
   clear hk2
   by_cases h0:0<x1
   ·have d0:decide (0<x1)=true:=decide_eq_true h0
    have HNV:Hid (l.filter (fun v=>decide (v.slot<=d+((k+1:Nat):Int)))=l.filter (fun v=>decide (v.slot<=d+(k:Int)))++ [⟨x1,x2,⟨x3,x4,x5,x6,x7,x8⟩⟩]):=hid (by
     rw[HN.out,<-HXV.out]
     unfold VoteC.val
     dsimp only
     rw[if_pos h0])
    have HLN:Hid (x8.length<=1000):=hid (by
     have hm:(⟨x1,x2,⟨x3,x4,x5,x6,x7,x8⟩⟩:VoteV)∈l:=by
      rcases plc_mem l p with q | ⟨q,_⟩
      ·rw[<-HXV.out] at q
       have q2:x1=0:=congrArg VoteV.slot q
       omega
      ·rw[<-HXV.out] at q
       exact q
     have h3:=mayB_len (HMAY.out _ hm)
     show x8.length<=1000
     have h4:x8.length<=3:=h3
     omega)
    have HR2:Hid (RdR W2 (.slice xa x8.length xc) x8):=hid ((HOX.out.later HB2.out).rd)
    clear h0 HN HXV HXC HOX
    have hbw:=HB.out.size
    have hb2:=HB2.out.size
    have HLk:=hid hLk
    go_wp2_with (first
     | (go_at_call 28;refine(copyOf_any ⟨x1,x2,⟨x3,x4,x5,x6,x7,x8⟩,xa,xc⟩ W2 HR2.out HLN.out).mono ?_;rintro e W3 ⟨⟨y1,y2,⟨y3,y4,y5,y6,y7,y8⟩,ya,yc⟩,rfl,hy,hoy,hb⟩;have HY:=hid hy;have HOY:=hid hoy;have HB3:=hid (step HB2.out hb);have HM3:=hid (HO.out.later (step HB2.out hb)).row;have hb3:=hb.size;clear hy hoy hb;unfold voteVal VoteC.u;dsimp only)
     | (at_builtin;refine wpList_append_grD cellsV_length (by omega) rfl _ _ 33 rfl 49 i1 _ 80 Try.underlying33 hi1 hz0 hz1 hz2 rfl #[.int .i64 y1,.int .i64 y2,.bool y3,.int .i64 y4,.int .i64 y5,.int .i64 y6,.int .i64 y7,.slice ya y8.length yc] (⟨y1,y2,⟨y3,y4,y5,y6,y7,y8⟩,ya,yc⟩:VoteC) rfl (cellsV_one _) L w.heap.size (.slice va L.length vc) rfl rfl HM3.out (by unfold maxLen;omega) (by omega) (by omega) ?_;intro v6 w6 ho6 hg6 _;have HO6:Hid (OwnV w.heap.size w6 v6 (L++ [⟨y1,y2,⟨y3,y4,y5,y6,y7,y8⟩,ya,yc⟩])):=hid (HO.out.push (x:=⟨y1,y2,⟨y3,y4,y5,y6,y7,y8⟩,ya,yc⟩) (stepAlloc HB3.out _) (Rw.own_alloc HOY.out _) (by omega) hg6 ho6);have HB6:Hid (Below w.heap.size w w6):=hid ((step HB.out (stepAlloc HB3.out _)).grown hg6 (by simp;omega) (fun g hg=>(Rw.own_lt HM3.out g hg).1));clear ho6 hg6))
    go_roundw
    case rel=>exact⟨k+1,L++ [⟨y1,y2,⟨y3,y4,y5,y6,y7,y8⟩,ya,yc⟩],by omega,by go_num,by have:=HLk.out;simp;omega,hid (by rw[valsV_snoc,HV.out,HY.out,HNV.out];rfl),HO6,HB6⟩
    case measure=>simp [intOf];omega
   ·have d0:decide (0<x1)=false:=decide_eq_false h0
    have HNV:Hid (l.filter (fun v=>decide (v.slot<=d+((k+1:Nat):Int)))=l.filter (fun v=>decide (v.slot<=d+(k:Int)))):=hid (by
     rw[HN.out,<-HXV.out]
     unfold VoteC.val
     dsimp only
     rw[if_neg h0,List.append_nil])
    clear h0 HN HXV HXC HOX
    go_wp2
    go_roundw
    case rel=>exact⟨k+1,L,by omega,by go_num,by omega,hid (by rw[HV.out,HNV.out]),hid (HO.out.later HB2.out),hid (step HB.out HB2.out)⟩
    case measure=>simp [intOf];omega
  ·obtain rfl:k=9:=by omega
   go_wp2
   go_ret
   exact⟨_,L,rfl,by rw[HV.out,all_done d l HLL.out],HO.out,HB.out⟩
end Ac
end Go.Proofs.Ytmodbbmdkealdaa
