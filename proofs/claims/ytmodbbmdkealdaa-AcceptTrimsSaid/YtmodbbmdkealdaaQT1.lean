/- Texts laid together by program. -/
import Derived.Test.YtmodbbmdkealdaaQ8
import Derived.WalkKit
import Derived.ProofKit
import Derived.Laws.BytesArg
import Derived.WalkLawsBesides
import Derived.WalkSpells
import Derived.Lib.Hide
import Derived.Lib.AppendStr
import Derived.Laws.AppendOwnNone
import Derived.Laws.OwnMore
import Derived.Laws.BitsAllLaws
import Derived.Maps.AppendAt
import Derived.Deep.AppendLies
import Derived.Deep.MidRow
/- Byte lists in memory: what a slice of bytes reads as, and that it reads so later. No program is named here. -/
set_option linter.unusedVariables false
set_option maxRecDepth 8000
set_option linter.unusedSimpArgs false
namespace Go.Proofs.Ytmodbbmdkealdaa
open Lib (hid)
open Go.RowKit

def sub (bs:List UInt8) (t n:Nat):List UInt8:=(bs.drop t).take n
section
variable {P : Program} (w : World)
end

section
variable {P : Program} {w : World}
end

end Go.Proofs.Ytmodbbmdkealdaa

/- Slices that read as lists, whatever their elements are: f x: the cells of one element, sz of them. No program is named here. -/
set_option linter.unusedVariables false
set_option maxRecDepth 8000
set_option linter.unusedSimpArgs false
namespace Go.Proofs.Ytmodbbmdkealdaa
open Lib (hid)
open Go.RowKit

section
variable {α : Type}
variable {sz : Nat} {f : α → List Value}
theorem own_some {w:World} {base n cap:Nat} {e:TypeId} {a:Option Addr} {xs:List Value} (h:w.ownsRow base e sz (.slice a n cap) n xs) (h0:0<n): ∃g,a=some ⟨g,0,none⟩/\base<=g:=by
 rcases h.2 with ⟨q,hn⟩ | ⟨g,cap',cur,h1,h2,_⟩
 ·omega
 ·cases h1
  exact⟨g,rfl,h2⟩
end
end Go.Proofs.Ytmodbbmdkealdaa

/- What package accept answers, as plain functions: votes that rise by slots, nine places. No program is named here. -/
set_option linter.unusedVariables false
set_option maxRecDepth 8000
set_option linter.unusedSimpArgs false
namespace Go.Proofs.Ytmodbbmdkealdaa
open Lib (hid)
open Go.RowKit
namespace Ac
open Cm

def trimF (s:AccV) (d:Int):AccV:=
 if d<=s.done\/2305843009213693952<d then s else ⟨s.ballot,d,s.votes.filter fun v=>decide (d<v.slot)⟩
theorem Good.trim {s:AccV} (h:Good s) (d:Int):Good (trimF s d):=by
 unfold trimF
 split
 ·exact h
 ·rename_i h1
  have h0:=h.d0
  refine⟨h.b0,h.b1,by show 0<=d;omega,by show d<=_;omega,⟨fun x hx=>?_,fun x hx=>?_,List.Pairwise.filter _ h.list.rise⟩,fun x hx=>h.bal x (List.mem_filter.1 hx).1,fun x hx=>h.may x (List.mem_filter.1 hx).1⟩
  ·exact decide_eq_true_eq.mp (List.mem_filter.1 hx).2
  ·have:=h.list.most x (List.mem_filter.1 hx).1
   show x.slot<=d+9
   omega
theorem plc_trim {e:Int} (he:0<=e) (p:Nat) (d:Int): ∀l:List VoteV,GoodL d l->plc (l.filter fun v=>decide (e<v.slot)) p=if (plc l p).slot <=e then zeroV else plc l p
 | [],_=>by
  rw[List.filter_nil,plc_nil]
  split<;>rfl
 | x::l,h=>by
  have ih:=plc_trim he p d l h.tail
  rw[List.filter_cons,plc_cons]
  by_cases q:x.slot % 9=(p:Int)
  ·rw[if_pos q]
   by_cases k:e<x.slot
   ·rw[if_pos (decide_eq_true k),plc_cons,if_pos q,if_neg (by omega)]
   ·rw[if_neg (by simpa using k),if_pos (by omega),ih]
    have hz:plc l p=zeroV:=by
     rcases plc_mem l p with z | ⟨z1,z2⟩
     ·exact z
     ·have a1:=h.head _ z1
      have a2:=h.most _ (List.mem_cons_of_mem _ z1)
      have a3:=h.low x List.mem_cons_self
      omega
    rw[hz]
    split<;>rfl
  ·rw[if_neg q]
   by_cases k:e<x.slot
   ·rw[if_pos (decide_eq_true k),plc_cons,if_neg q,ih]
   ·rw[if_neg (by simpa using k),ih]
def eqVt (a b:VoteV):Bool:=decide (a.slot=b.slot) && decide (a.ballot=b.ballot) && sameB a.bat b.bat
theorem eqVt_iff (a b:VoteV):eqVt a b=true ↔ a=b:=by
 obtain⟨a1,a2,a3⟩:=a
 obtain⟨b1,b2,b3⟩:=b
 simp [eqVt,sameB_iff,and_assoc]
def sameVs:List VoteV->List VoteV->Bool
 | [],[]=>true
 | x::l,y::m=>eqVt x y && sameVs l m
 | _,_=>false
theorem sameVs_iff: ∀a b:List VoteV,sameVs a b=true ↔ a=b
 | [],[]=>by simp [sameVs]
 | x::l,y::m=>by rw[sameVs,Bool.and_eq_true,eqVt_iff,sameVs_iff l m,List.cons.injEq]
 | [],_::_=>by simp [sameVs]
 | _::_,[]=>by simp [sameVs]
theorem sameVs_refl (a:List VoteV):sameVs a a=true:=(sameVs_iff a a).2 rfl
theorem sameVs_len (a b:List VoteV) (h:a.length≠b.length):sameVs a b=false:=by
 cases q:sameVs a b
 ·rfl
 ·rw[(sameVs_iff a b).1 q] at h
  exact absurd rfl h
theorem sameVs_step (a b:List VoteV) (i:Nat) (ha:i<a.length) (hb:i<b.length):sameVs (a.drop i) (b.drop i)=(eqVt a[i] b[i] && sameVs (a.drop (i+1)) (b.drop (i+1))):=by
 rw[List.drop_eq_getElem_cons ha,List.drop_eq_getElem_cons hb,sameVs]
theorem sameVs_end (a b:List VoteV) (i:Nat) (ha:a.length<=i) (hb:b.length<=i):sameVs (a.drop i) (b.drop i)=true:=by
 rw[List.drop_eq_nil_of_le ha,List.drop_eq_nil_of_le hb]
 rfl
end Ac
end Go.Proofs.Ytmodbbmdkealdaa

/- Votes, and an acceptor, in memory; contracts of package accept: isBallot, isSlot, New, Promise, Ballot, Done. -/
set_option linter.unusedVariables false
set_option maxRecDepth 8000
set_option linter.unusedSimpArgs false
namespace Go.Proofs.Ytmodbbmdkealdaa
open Lib (hid)
open Go.RowKit
namespace Ac
open Cm

theorem accCells_done (b d c:Int) (M:List VoteC):(accCells b d M).setIfInBounds 1 (.int .i64 c)=accCells b c M:=by
 unfold accCells
 rw[List.setIfInBounds_toArray]
 rfl
section
variable {w w' : World} {g m k : Nat} {s : AccV}
theorem HasA.putD (h:HasA w g m s) (d:Int) (M:List VoteC) (h1:w.heap[g]?=some (.cells (accCells s.ballot s.done M) 62)):(w.setCell ⟨g,1,none⟩ (.int .i64 d)).heap[g]?=some (.cells (accCells s.ballot d M) 62):=by
 rw[set_atB h1,accCells_done]
end

theorem Done_any (g m:Nat) (s:AccV) (w:World) (h:HasA w g m s):Calls Try.prog 19 #[.pointer (some ⟨g,0,none⟩)] w (fun e w'=>e= .returned (.int .i64 s.done)/\w'=w):=by
 have c0:=h.c1
 clear h
 go_enter Try.func19,Try.ntmps19
 go_wp2
 go_ret
 exact⟨rfl,rfl⟩
end Ac
end Go.Proofs.Ytmodbbmdkealdaa

/- Contract of package accept: Trim. -/
set_option linter.unusedVariables false
set_option maxRecDepth 8000
set_option linter.unusedSimpArgs false
namespace Go.Proofs.Ytmodbbmdkealdaa
open Lib (hid)
open Go.RowKit
namespace Ac
open Cm

theorem infoV9:(Try.prog.info? 60).map (·.size)=some 72:=by kernel_rfl
theorem aggV (w:World):(isAgg 49).run Try.prog w= .ok true w:=by kernel_rfl
theorem index_votes (M:List VoteC) (hM:M.length=9) (i:Nat) (hi:i<M.length) (w:World):
  (Instr.index 60 (.agg (flatX cellsV M).toArray) (.int .i64 (i:Int))).run Try.prog w= .ok (voteVal M[i]) w:=by
 have h1:(0:Int)<=(i:Int)/\(i:Int)<((9:Nat):Int):=by omega
 obtain⟨iv,hiv, -,hs, -⟩:=info_partsA infoV
 have hsz:(sizeOf 49).run Try.prog w= .ok 8 w:=by simp [sizeOf,typeInfo,hiv,hs]
 have hx:(flatX cellsV M).toArray.extract (i*8) (i*8+8)=(cellsV M[i]).toArray :=by
  apply Array.ext_getElem?
  intro k
  rw[Array.getElem?_extract]
  have hl:(flatX cellsV M).length =M.length*8:=flatX_length cellsV_length M
  by_cases hk:k<8
  ·rw[List.getElem?_toArray,List.getElem?_toArray,<-flatX_get cellsV_length M i hi k hk,if_pos (by simp [hl];omega)]
  ·rw[if_neg (by simp;omega),List.getElem?_toArray,List.getElem?_eq_none (by rw[cellsV_length];omega)]
 have hu:(underlying 60).run Try.prog w= .ok (.array 9 49) w:=run_underlying Try.underlying60 w
 simp only[Instr.index,asIntOf,Sem.run_bind,Sem.run_pure,Result.andThen_ok,hu,if_pos h1,part,hsz,aggV,Int.toNat_natCast,if_true,hx]
 rfl
def trimK (l:List VoteV) (d:Int) (k:Nat):List VoteV:=(List.range 9).map fun j=>if j<k/\(plc l j).slot <=d then zeroV else plc l j
theorem trimK_none (l:List VoteV) (d:Int):trimK l d 0=places l:=by
 unfold trimK places
 apply List.map_congr_left
 intro j _
 rw[if_neg (by omega)]
theorem trimK_all {l:List VoteV} {d e:Int} (he:0<=e) (h:GoodL d l):trimK l e 9=places (l.filter fun v=>decide (e<v.slot)):=by
 unfold trimK places
 apply List.map_congr_left
 intro j hj
 have hj9:=List.mem_range.1 hj
 rw[plc_trim he j d l h]
 by_cases q:(plc l j).slot <=e
 ·rw[if_pos ⟨hj9,q⟩,if_pos q]
 ·rw[if_neg (fun x=>q x.2),if_neg q]
theorem trimK_length (l:List VoteV) (d:Int) (k:Nat):(trimK l d k).length =9:=by simp [trimK]
theorem trimK_keep (l:List VoteV) (d:Int) (k:Nat) (hk:k<9) (h: ¬(plc l k).slot <=d):trimK l d (k+1)=trimK l d k:=by
 unfold trimK
 apply List.map_congr_left
 intro j _
 by_cases e:j=k
 ·subst e
  rw[if_neg (fun q=>h q.2),if_neg (fun q=>h q.2)]
 ·by_cases q:j<k/\(plc l j).slot <=d
  ·rw[if_pos q,if_pos ⟨by omega,q.2⟩]
  ·rw[if_neg q,if_neg (fun r=>q ⟨by omega,r.2⟩)]
theorem trimK_get (l:List VoteV) (d:Int) (k j:Nat) (h:j<(trimK l d k).length):(trimK l d k)[j]=if j<k/\(plc l j).slot <=d then zeroV else plc l j:=by simp [trimK]
theorem trimK_drop (l:List VoteV) (d:Int) (k:Nat) (hk:k<9) (h:(plc l k).slot <=d):trimK l d (k+1)=(trimK l d k).set k zeroV:=by
 apply List.ext_getElem
 ·simp [trimK]
 ·intro j h1 h2
  rw[List.getElem_set,trimK_get]
  by_cases e:k=j
  ·subst e
   rw[if_pos rfl,if_pos ⟨by omega,h⟩]
  ·rw[if_neg e,trimK_get]
   by_cases q:j<k/\(plc l j).slot <=d
   ·rw[if_pos q,if_pos ⟨by omega,q.2⟩]
   ·rw[if_neg q,if_neg (fun r=>q ⟨by omega,r.2⟩)]
structure MidA (w:World) (g m:Nat) (b d:Int) (L:List VoteV):Prop where
 ex: ∃M:List VoteC,w.heap[g]?=some (.cells (accCells b d M) 62)/\valsV M=L/\ ∀x∈M,OwnR m w x
 gm:g<m
 mw:m<=w.heap.size
theorem MidA.lt {w:World} {g m:Nat} {b d:Int} {L:List VoteV} (h:MidA w g m b d L):g<w.heap.size:=Nat.lt_of_lt_of_le h.gm h.mw
theorem MidA.later {w w':World} {g m:Nat} {b d:Int} {L:List VoteV} (h:MidA w g m b d L) (hb:Below w.heap.size w w'):MidA w' g m b d L:=by
 obtain⟨M,h1,h2,h3⟩:=h.ex
 exact⟨⟨M,(hb.block _ h.lt).trans h1,h2,fun x hx=>(h3 x hx).later hb⟩,h.gm,Nat.le_trans h.mw hb.size⟩
theorem MidA.put {w:World} {g m:Nat} {b d:Int} {L:List VoteV} (h:MidA w g m b d L) (hL:L.length=9) (p:Nat) (hp:p<9):MidA (set8 w g (2+p*8) zeroC) g m b d (L.set p zeroV):=by
 obtain⟨M,h3,h4,h5⟩:=h.ex
 have hl:M.length=9:=by rw[<-valsV_length,h4,hL]
 refine⟨⟨M.set p zeroC,set8_at h3 p (by omega) zeroC,by rw[valsV_set,h4];rfl,fun x hx=>?_⟩,h.gm,Nat.le_trans h.mw (set8_grown w g _ _).size⟩
 rcases List.mem_or_eq_of_mem_set hx with q | q
 ·exact(h5 x q).keep (set8_grown w g _ _) h.gm
 ·rw[q];exact OwnR.zero _ _
theorem MidA.cells {w:World} {g m:Nat} {b d:Int} {L:List VoteV} (h:MidA w g m b d L) (hL:L.length=9) (p:Nat) (hp:p<9) (k:Nat) (hk:k<8): ∃u,w.cell? ⟨g,2+p*8+k,none⟩=some u:=by
 obtain⟨M,h3,h4, -⟩:=h.ex
 have hl:M.length=9:=by rw[<-valsV_length,h4,hL]
 rw[cell_at h3,accCells_get _ _ M p (by omega) k hk]
 exact⟨_,List.getElem?_eq_getElem (by rw[cellsV_length];exact hk)⟩
theorem MidA.open_ {w:World} {g m:Nat} {b d:Int} {L:List VoteV} (h:MidA w g m b d L) (j:Nat):w.frozen? ⟨g,j,none⟩=false:=by
 obtain⟨M,h3, -, -⟩:=h.ex
 exact frozen_at h3 j
def DidT (g m:Nat) (s:AccV) (w:World) (e:Ending) (w':World):Prop:=e= .returned (.tuple #[])/\HasA w' g m s/\w.grownBy w' (some g)
set_option maxHeartbeats 4000000 in
theorem Trim_any (g m:Nat) (s:AccV) (d:Int) (w:World) (h:HasA w g m s) (hs:Good s):
  Calls Try.prog 16 #[.pointer (some ⟨g,0,none⟩),.int .i64 d] w (DidT g m (trimF s d) w):=by
 have c1:=h.c1
 have cf:=h.open_ 1
 have HH:=hid h
 have HG:=hid hs
 clear h hs
 obtain⟨s',hE⟩: ∃s',trimF s d=s':=⟨_,rfl⟩
 rw[hE]
 unfold trimF at hE
 by_cases h1:d<=s.done
 ·rw[if_pos (.inl h1)] at hE
  subst hE
  have d1:decide (d<=s.done)=true:=decide_eq_true h1
  clear h1
  go_enter Try.func16,Try.ntmps16
  go_wp2
  refine bodyPost_ret (by simp [results,Try.results16,go_sem]<;>rfl) rfl ⟨rfl,HH.out,World.grownBy.refl _ _⟩
 have d1:decide (d<=s.done)=false:=decide_eq_false h1
 by_cases h2:2305843009213693952<d
 ·rw[if_pos (.inr h2)] at hE
  subst hE
  have d2:decide (2305843009213693952<d)=true:=decide_eq_true h2
  clear h1 h2
  go_enter Try.func16,Try.ntmps16
  go_wp2
  refine bodyPost_ret (by simp [results,Try.results16,go_sem]<;>rfl) rfl ⟨rfl,HH.out,World.grownBy.refl _ _⟩
 have d2:decide (2305843009213693952<d)=false:=decide_eq_false h2
 rw[if_neg (by omega)] at hE
 have HD0:Hid (0<=d):=hid (by have:=HG.out.d0;omega)
 have HE:=hid hE
 clear h1 h2 hE
 obtain⟨M,hM1,hM2,hM3⟩:=HH.out.ex
 have hl:M.length=9:=by rw[<-valsV_length,hM2,places_length]
 have hm1:=HH.out.putD d M hM1
 have hld:(w.setCell ⟨g,1,none⟩ (.int .i64 d)).rangeAt g 2 (flatX cellsV M):=fun j v hj=>by
  rw[cell_at hm1]
  unfold accCells
  rw[List.getElem?_toArray,Nat.add_comm 2 j,List.getElem?_cons_succ,List.getElem?_cons_succ]
  exact hj
 have HLD:=hid hld
 have HIN:Hid ((Try.prog.info? 60).map (·.size)=some (flatX cellsV M).length):=hid (by rw[infoV9,flatX_length cellsV_length,hl])
 clear hld
 have HX:Hid (∀(i:Nat) (hi:i<9) (w:World),(Instr.index 60 (.agg (flatX cellsV M).toArray) (.int .i64 (i:Int))).run Try.prog w= .ok (voteVal (M[i]'(by omega))) w):=hid fun i hi w=>index_votes M hl i (by omega) w
 have HMI:Hid (MidA (w.setCell ⟨g,1,none⟩ (.int .i64 d)) g m s.ballot d (places s.votes)):=hid ⟨⟨M,hm1,hM2,fun x hx=>(hM3 x hx).keep (grown_setA w g 1 _) HH.out.gm⟩,HH.out.gm,Nat.le_trans HH.out.mw (grown_setA w g 1 (.int .i64 d)).size⟩
 have HGW:Hid (w.grownBy (w.setCell ⟨g,1,none⟩ (.int .i64 d)) (some g)):=hid (grown_setA w g 1 _)
 have HS:Hid (∀(i:Nat) (hi:i<9),(M[i]'(by omega)).slot =(plc s.votes i).slot):=hid fun i hi=>by
  have e:=valsV_get M i (by omega) (by rw[valsV_length];omega)
  have e2:(valsV M)[i]'(by rw[valsV_length];omega)=plc s.votes i:=by
   rw[<-places_get s.votes i (by rw[places_length];exact hi)]
   congr 1
  rw[e2] at e
  rw[e]
  rfl
 clear hM1 hM2 hM3 hm1
 go_enter Try.func16,Try.ntmps16
 go_upto_region 2 with fail
 clear c1 cf d1 d2
 generalize w.setCell ⟨g,1,none⟩ (.int .i64 d)=W1 at HLD HMI HGW ⊢
 go_wp2_with (refine wpList_load_mid rfl 60 _ rfl g 2 rfl (flatX cellsV M) _ HLD.out Try.underlying60 rfl HIN.out ?_)
 go_loopw [4,5,28] (fun _ _ i wr=> ∃k:Nat,k<=9/\i= .int .i64 (k:Int)/\Hid (MidA wr g m s.ballot d (trimK s.votes d k))/\Hid (w.grownBy wr (some g))) (fun _ _ i _=>9 - (intOf i).toNat)
 case atStart=>exact⟨0,by omega,rfl,by rw[trimK_none];exact HMI,HGW⟩
 case round=>
  obtain⟨k,hk,rfl,HMK,HGK⟩:=hrel
  by_cases hlt:k<9
  ·have hix:=HX.out k hlt wr
   have hsl:=HS.out k hlt
   generalize (M[k]'(by omega))=x at hix hsl
   obtain⟨x1,x2,⟨x3,x4,x5,x6,x7,x8⟩,xa,xc⟩:=x
   unfold voteVal VoteC.u at hix
   dsimp only at hix hsl
   by_cases q:(plc s.votes k).slot <=d
   ·have d0:decide (x1<=d)=true:=by rw[hsl];exact decide_eq_true q
    have HQ:=hid (trimK_drop s.votes d k hlt q)
    clear q hsl
    go_upto_region 5 with fail
    have hc2:=cell_at (alloc_atB wr (.cells #[.int .i64 x1,.int .i64 x2,.bool x3,.int .i64 x4,.int .i64 x5,.int .i64 x6,.int .i64 x7,.slice xa x8.length xc] 49) _ rfl) 0
    have HB2:=hid (newAlloc wr (.cells #[.int .i64 x1,.int .i64 x2,.bool x3,.int .i64 x4,.int .i64 x5,.int .i64 x6,.int .i64 x7,.slice xa x8.length xc] 49))
    generalize wr.alloc (.cells #[.int .i64 x1,.int .i64 x2,.bool x3,.int .i64 x4,.int .i64 x5,.int .i64 x6,.int .i64 x7,.slice xa x8.length xc] 49)=W2 at hc2 HB2 ⊢
    simp at hc2
    clear hix
    have hM2:=HMK.out.later HB2.out
    have cf:=hM2.open_
    have hx:=fun j (hj:j<8)=>hM2.cells (trimK_length _ _ _) k hlt j hj
    obtain⟨o0,m0⟩: ∃u,W2.cell? ⟨g,2+k*8,none⟩=some u:=hx 0 (by omega)
    obtain⟨o1,m1⟩:=hx 1 (by omega)
    obtain⟨o2,m2⟩:=hx 2 (by omega)
    obtain⟨o3,m3⟩:=hx 3 (by omega)
    obtain⟨o4,m4⟩:=hx 4 (by omega)
    obtain⟨o5,m5⟩:=hx 5 (by omega)
    obtain⟨o6,m6⟩:=hx 6 (by omega)
    obtain⟨o7,m7⟩:=hx 7 (by omega)
    have HM3:=hid (hM2.put (trimK_length _ _ _) k hlt)
    rw[<-HQ.out] at HM3
    have HG3:=hid ((gr_below HGK.out HB2.out).trans (set8_grown W2 g (2+k*8) zeroC))
    unfold set8 zeroC VoteC.u at HM3 HG3
    unfold zeroB at HM3 HG3
    dsimp only[List.length_nil] at HM3 HG3
    clear hM2 hx HMK HGK HB2
    have q0:(0:Int)<=(k:Int):=by omega
    have q9:(k:Int)<9:=by omega
    go_wp2
    go_roundw
    case rel=>exact⟨k+1,by omega,by go_num,HM3,HG3⟩
    case measure=>simp [intOf];omega
   ·have d0:decide (x1<=d)=false:=by rw[hsl];exact decide_eq_false q
    have HQ:=hid (trimK_keep s.votes d k hlt q)
    clear q hsl
    go_upto_region 5 with fail
    have hc2:=cell_at (alloc_atB wr (.cells #[.int .i64 x1,.int .i64 x2,.bool x3,.int .i64 x4,.int .i64 x5,.int .i64 x6,.int .i64 x7,.slice xa x8.length xc] 49) _ rfl) 0
    have HB2:=hid (newAlloc wr (.cells #[.int .i64 x1,.int .i64 x2,.bool x3,.int .i64 x4,.int .i64 x5,.int .i64 x6,.int .i64 x7,.slice xa x8.length xc] 49))
    generalize wr.alloc (.cells #[.int .i64 x1,.int .i64 x2,.bool x3,.int .i64 x4,.int .i64 x5,.int .i64 x6,.int .i64 x7,.slice xa x8.length xc] 49)=W2 at hc2 HB2 ⊢
    simp at hc2
    clear hix
    have HM3:=hid (HMK.out.later HB2.out)
    rw[<-HQ.out] at HM3
    have HG3:=hid (gr_below HGK.out HB2.out)
    clear HMK HGK HB2
    go_wp2
    go_roundw
    case rel=>exact⟨k+1,by omega,by go_num,HM3,HG3⟩
    case measure=>simp [intOf];omega
  ·obtain rfl:k=9:=by omega
   go_wp2
   go_end0
   obtain⟨⟨M',a1,a2,a3⟩,b1,b2⟩:=HMK.out
   refine⟨rfl,?_,HGK.out⟩
   rw[<-HE.out]
   exact⟨⟨M',a1,by rw[a2,trimK_all HD0.out HG.out.list],a3⟩,b1,b2⟩
end Ac
end Go.Proofs.Ytmodbbmdkealdaa

/- Contract: the document's SameVotes. -/
set_option linter.unusedVariables false
set_option maxRecDepth 8000
set_option linter.unusedSimpArgs false
namespace Go.Proofs.Ytmodbbmdkealdaa
open Lib (hid)
open Go.RowKit
namespace Ac
open Cm

set_option maxHeartbeats 4000000 in
theorem SameVotes_any (u v:Value) (l m:List VoteC) (w:World) (h:RdV w u l) (h2:RdV w v m):
  Calls Try.prog 20 #[u,v] w (SaysB (sameVs (valsV l) (valsV m)) w):=by
 have hm:=h.len
 have hm2:=h2.len
 obtain⟨a,cap,rfl⟩:=h.form
 obtain⟨a2,cap2,rfl⟩:=h2.form
 by_cases hn:l.length=m.length
 ·have HA:=hid (fun i hi=>rdv_at h.row i hi)
  have HA2:=hid (fun i hi=>rdv_at h2.row i hi)
  have HR:=hid (fun i (hi:i<l.length)=>h.reqs l[i] (List.getElem_mem hi))
  have HR2:=hid (fun i (hi:i<m.length)=>h2.reqs m[i] (List.getElem_mem hi))
  have HD:Hid (∀i (ha:i<l.length) (hb:i<m.length),sameVs ((valsV l).drop i) ((valsV m).drop i)=(eqVt l[i].val m[i].val && sameVs ((valsV l).drop (i+1)) ((valsV m).drop (i+1)))):=hid fun i ha hb=>by
   rw[sameVs_step _ _ i (by rw[valsV_length];exact ha) (by rw[valsV_length];exact hb),valsV_get l i ha,valsV_get m i hb]
  have HE:Hid (∀i,l.length<=i->m.length<=i->sameVs ((valsV l).drop i) ((valsV m).drop i)=true):=hid fun i ha hb=>sameVs_end _ _ i (by rw[valsV_length];exact ha) (by rw[valsV_length];exact hb)
  clear h h2
  obtain⟨L,hL⟩: ∃L,l.length=L:=⟨_,rfl⟩
  have hL2:m.length=L:=by omega
  have HL:=hid hL
  have HL2:=hid hL2
  rw[hL] at hm ⊢
  rw[hL2] at hm2 ⊢
  clear hL hL2 hn
  go_enter Try.func20,Try.ntmps20
  go_wp2
  go_loopw [5] (fun i wr=> ∃j:Nat,j<=L/\i= .int .i64 j/\Hid (Below w.heap.size w wr)/\Hid (sameVs (valsV l) (valsV m)=sameVs ((valsV l).drop j) ((valsV m).drop j))) (fun i _=>L - (intOf i).toNat)
  case atStart=>exact⟨0,by omega,rfl,hid (Below.refl _ _),hid rfl⟩
  case round=>
   obtain⟨j,hj,rfl,HB,ha⟩:=hrel
   by_cases hlt:j<L
   ·have h1:j<l.length:=by rw[HL.out];exact hlt
    have h2:j<m.length:=by rw[HL2.out];exact hlt
    obtain⟨b,o,rfl,hc⟩:=HA.out j h1
    obtain⟨b',o',rfl,hc2⟩:=HA2.out j h2
    obtain⟨q0,q1,q2,q3,q4,q5,q6,q7⟩:=hc _ HB.out
    obtain⟨p0,p1,p2,p3,p4,p5,p6,p7⟩:=hc2 _ HB.out
    have HRX:=hid ((HR.out j h1).later HB.out)
    have HRY:=hid ((HR2.out j h2).later HB.out)
    have hd:=HD.out j h1 h2
    clear HA HA2 HD HR HR2 hc hc2
    generalize l[j]=x at q0 q1 q2 q3 q4 q5 q6 q7 hd HRX
    generalize m[j]=y at p0 p1 p2 p3 p4 p5 p6 p7 hd HRY
    obtain⟨x1,x2,⟨x3,x4,x5,x6,x7,x8⟩,xa,xc⟩:=x
    obtain⟨y1,y2,⟨y3,y4,y5,y6,y7,y8⟩,ya,yc⟩:=y
    unfold VoteC.u at q7 p7 HRX HRY
    dsimp only at q0 q1 q2 q3 q4 q5 q6 q7 p0 p1 p2 p3 p4 p5 p6 p7 HRX HRY
    clear h1 h2
    rw[show eqVt (VoteC.val ⟨x1,x2,⟨x3,x4,x5,x6,x7,x8⟩,xa,xc⟩) (VoteC.val ⟨y1,y2,⟨y3,y4,y5,y6,y7,y8⟩,ya,yc⟩)=(decide (x1=y1) && decide (x2=y2) && sameB ⟨x3,x4,x5,x6,x7,x8⟩ ⟨y3,y4,y5,y6,y7,y8⟩) from rfl] at hd
    by_cases e:x1=y1
    case neg=>
     have d0:(x1 != y1)=true:=by simpa using e
     have H:Hid (sameVs ((valsV l).drop j) ((valsV m).drop j)=false):=hid (by rw[hd];simp [e])
     clear hd e
     go_upto_region 6 with fail
     go_quiet (fail)
     go_wp2
     go_ret
     exact⟨by rw[ha.out,H.out];rfl,below_drewB HB.out nq⟩
    have d0:(x1 != y1)=false:=by simp [e]
    rw[decide_eq_true e] at hd
    clear e
    by_cases e:x2=y2
    case neg=>
     have d1:(x2 != y2)=true:=by simpa using e
     have H:Hid (sameVs ((valsV l).drop j) ((valsV m).drop j)=false):=hid (by rw[hd];simp [e])
     clear hd e
     go_upto_region 6 with fail
     go_quiet (fail)
     go_wp2
     go_ret
     exact⟨by rw[ha.out,H.out];rfl,below_drewB HB.out nq⟩
    have d1:(x2 != y2)=false:=by simp [e]
    rw[decide_eq_true e] at hd
    clear e
    have hd:sameVs ((valsV l).drop j) ((valsV m).drop j)=(sameB ⟨x3,x4,x5,x6,x7,x8⟩ ⟨y3,y4,y5,y6,y7,y8⟩ && sameVs ((valsV l).drop (j+1)) ((valsV m).drop (j+1))):=hd
    have CS:=hid (fun W h1 h2=>RefSameB_any ⟨x3,x4,x5,x6,x7,x8⟩ ⟨y3,y4,y5,y6,y7,y8⟩ (.slice xa x8.length xc) (.slice ya y8.length yc) W h1 h2)
    unfold batVal at CS
    dsimp only at CS
    generalize sameB ⟨x3,x4,x5,x6,x7,x8⟩ ⟨y3,y4,y5,y6,y7,y8⟩=SB at hd CS
    have HQ:=hid hd
    clear hd
    have D1:=hid (fun d os=>Calls.regrown_of (w:=wr) (d:=d) (os:=os) (CS.out _ (HRX.out.later (below_regrown wr d os)) (HRY.out.later (below_regrown wr d os))))
    have c0:=cell_regrown q0
    have c1:=cell_regrown q1
    have c2:=cell_regrown q2
    have c3:=cell_regrown q3
    have c4:=cell_regrown q4
    have c5:=cell_regrown q5
    have c6:=cell_regrown q6
    have c7:=cell_regrown q7
    have e0:=cell_regrown p0
    have e1:=cell_regrown p1
    have e2:=cell_regrown p2
    have e3:=cell_regrown p3
    have e4:=cell_regrown p4
    have e5:=cell_regrown p5
    have e6:=cell_regrown p6
    have e7:=cell_regrown p7
    clear q0 q1 q2 q3 q4 q5 q6 q7 p0 p1 p2 p3 p4 p5 p6 p7 CS HRX HRY
    go_upto_region 6 with fail
    refine wp_region_quiet_below (by kernel_rfl) (by kernel_rfl) ?_
    repeat (go_big_quiet_step (exact D1.out _ _))
    refine wpQuiet_nil ?_
    intro _ hw'
    obtain⟨⟨dq,osq⟩,hw2⟩:=hw'
    subst hw2
    have HBN:=hid (step HB.out (below_regrown wr dq osq))
    clear D1 c0 c1 c2 c3 c4 c5 c6 c7 e0 e1 e2 e3 e4 e5 e6 e7
    cases SB
    ·go_wp2
     go_ret
     exact⟨by rw[ha.out,HQ.out];rfl,HBN.out⟩
    ·go_wp2
     go_roundw
     case rel=>exact⟨j+1,by omega,by go_num,HBN,hid (by rw[ha.out,HQ.out];rfl)⟩
     case measure=>simp [intOf];omega
   ·obtain rfl:j=L:=by omega
    have H:=HE.out j (by rw[HL.out];exact Nat.le_refl _) (by rw[HL2.out];exact Nat.le_refl _)
    have HF:=hid H
    clear H HA HA2 HD HR HR2 HE
    go_wp2
    go_ret
    exact⟨by rw[ha.out,HF.out];rfl,HB.out⟩
 ·have H:=hid (sameVs_len (valsV l) (valsV m) (by rw[valsV_length,valsV_length];exact hn))
  have d0:((l.length:Int) != (m.length:Int))=true:=by simp;omega
  clear h h2
  go_enter Try.func20,Try.ntmps20
  go_wp2
  go_ret
  exact⟨by rw[H.out];rfl,Below.refl _ _⟩
end Ac
end Go.Proofs.Ytmodbbmdkealdaa
