/- Texts laid together by program. -/
import Derived.Test.YtbcnednhfmchpaaQ6
import Derived.Deep.RegionLaw
/- What package learn keeps: nine places, each with the votes for the slot that is heard for there. No program is named here. -/
set_option linter.unusedVariables false
set_option maxRecDepth 8000
set_option linter.unusedSimpArgs false
namespace Go.Proofs.Ytbcnednhfmchpaa
open Lib (hid)
open Go.RowKit
namespace Ln
open Cm

structure PlV where
 slot:Int
 ballot:Int
 who:List Int
 bat:BatV
def zeroPl:PlV:=⟨0,0,[],zeroB⟩
def plOf (x:SlotV):PlV:=⟨x.slot,x.ballot,x.who,x.bat⟩
def plcP (l:List SlotV) (p:Nat):PlV:=match plcS l p with
 | some x=>plOf x
 | none=>zeroPl
def placesL (l:List SlotV):List PlV:=(List.range 9).map fun p=>plcP l p
theorem placesL_length (l:List SlotV):(placesL l).length =9:=by simp [placesL]
theorem placesL_get (l:List SlotV) (p:Nat) (h:p<(placesL l).length):(placesL l)[p]=plcP l p:=by simp [placesL]
theorem placesL_nil:placesL []=List.replicate 9 zeroPl:=rfl
theorem GoodN.win {s:LrnV} (h:GoodN s): ∀x∈s.l,s.done<x.slot/\x.slot<=s.done+9:=fun x hx=>⟨(h.all x hx).lo,(h.all x hx).hi⟩
theorem places_putL {l:List SlotV} {d:Int} (hl: ∀x∈l,d<x.slot/\x.slot<=d+9) (y:SlotV) (h1:d<y.slot) (h2:y.slot<=d+9) (p:Nat) (hp:y.slot % 9=(p:Int)):placesL (putS y l)=(placesL l).set p (plOf y):=by
 apply List.ext_getElem
 ·simp [placesL]
 ·intro j h3 h4
  rw[placesL_get,List.getElem_set]
  have hk: ∀x∈l,x.slot % 9=y.slot % 9->x.slot=y.slot:=fun x hx e=>by
   have:=hl x hx
   omega
  unfold plcP
  rw[plcS_put y j l hk]
  by_cases e:p=j
  ·subst e
   rw[if_pos rfl,if_pos hp]
  ·rw[if_neg e,if_neg (by omega),placesL_get]
   rfl
def findP (s:LrnV) (t:Int):PlV:=match at_ s.l t with
 | some x=>plOf x
 | none=>zeroPl
theorem findP_in {s:LrnV} (h:GoodN s) {t:Int} (h1:s.done<t) (h2:t<=s.done+9) (p:Nat) (hp:t % 9=(p:Int)):findP s t=plcP s.l p:=by
 unfold findP plcP
 rw[at_plc h.win hp h1 h2]
theorem findP_out {s:LrnV} (h:GoodN s) {t:Int} (h1:t<=s.done\/s.done+9<t):findP s t=zeroPl:=by
 unfold findP
 rw[at_far h.win h1]
theorem plcS_filter (d e:Int) (p:Nat): ∀l:List SlotV,(∀x∈l,d<x.slot/\x.slot<=d+9)->plcS (l.filter fun x=>decide (e<x.slot)) p=match plcS l p with
  | some x=>if e<x.slot then some x else none
  | none=>none
 | [],_=>by
  rw[List.filter_nil]
  rfl
 | x::l,h=>by
  have hx:=h x List.mem_cons_self
  have ih:=plcS_filter d e p l fun y hy=>h y (List.mem_cons_of_mem _ hy)
  unfold plcS at ih ⊢
  rw[List.filter_cons]
  by_cases q:x.slot % 9=(p:Int)
  ·rw[List.find?_cons_of_pos (by simpa using q)]
   by_cases c:e<x.slot
   ·rw[if_pos (decide_eq_true c),List.find?_cons_of_pos (by simpa using q)]
    dsimp only
    rw[if_pos c]
   ·rw[if_neg (by rw[decide_eq_true_eq];exact c),ih]
    dsimp only
    rw[if_neg c]
    split
    ·rename_i y hy
     have hm:=List.mem_of_find?_eq_some hy
     have h9:y.slot % 9=(p:Int):=by have:=List.find?_some hy;simpa using this
     have:=h y (List.mem_cons_of_mem _ hm)
     rw[if_neg (by omega)]
    ·rfl
  ·rw[List.find?_cons_of_neg (by simpa using q)]
   by_cases c:e<x.slot
   ·rw[if_pos (decide_eq_true c),List.find?_cons_of_neg (by simpa using q),ih]
   ·rw[if_neg (by rw[decide_eq_true_eq];exact c),ih]
def trimP (l:List SlotV) (d:Int) (k:Nat):List PlV:=(List.range 9).map fun j=>if j<k/\(plcP l j).slot <=d then zeroPl else plcP l j
theorem trimP_none (l:List SlotV) (d:Int):trimP l d 0=placesL l:=by
 unfold trimP placesL
 apply List.map_congr_left
 intro j _
 rw[if_neg (by omega)]
theorem trimP_all {l:List SlotV} {d e:Int} (he:0<=e) (h: ∀x∈l,d<x.slot/\x.slot<=d+9):trimP l e 9=placesL (l.filter fun v=>decide (e<v.slot)):=by
 unfold trimP placesL
 apply List.map_congr_left
 intro j hj
 have hj9:=List.mem_range.1 hj
 unfold plcP
 rw[plcS_filter d e j l h]
 split
 ·rename_i x hx
  by_cases q:e<x.slot
  ·rw[if_neg (by have:(plOf x).slot =x.slot:=rfl;omega),if_pos q]
  ·rw[if_pos ⟨hj9,by have:(plOf x).slot =x.slot:=rfl;omega⟩,if_neg q]
 ·rw[if_pos ⟨hj9,he⟩]
theorem trimP_length (l:List SlotV) (d:Int) (k:Nat):(trimP l d k).length =9:=by simp [trimP]
theorem trimP_keep (l:List SlotV) (d:Int) (k:Nat) (hk:k<9) (h: ¬(plcP l k).slot <=d):trimP l d (k+1)=trimP l d k:=by
 unfold trimP
 apply List.map_congr_left
 intro j _
 by_cases e:j=k
 ·subst e
  rw[if_neg (fun q=>h q.2),if_neg (fun q=>h q.2)]
 ·by_cases q:j<k/\(plcP l j).slot <=d
  ·rw[if_pos q,if_pos ⟨by omega,q.2⟩]
  ·rw[if_neg q,if_neg (fun r=>q ⟨by omega,r.2⟩)]
theorem trimP_get (l:List SlotV) (d:Int) (k j:Nat) (h:j<(trimP l d k).length):(trimP l d k)[j]=if j<k/\(plcP l j).slot <=d then zeroPl else plcP l j:=by simp [trimP]
theorem trimP_drop (l:List SlotV) (d:Int) (k:Nat) (hk:k<9) (h:(plcP l k).slot <=d):trimP l d (k+1)=(trimP l d k).set k zeroPl:=by
 apply List.ext_getElem
 ·simp [trimP]
 ·intro j h1 h2
  rw[List.getElem_set,trimP_get]
  by_cases e:k=j
  ·subst e
   rw[if_pos rfl,if_pos ⟨by omega,h⟩]
  ·rw[if_neg e,trimP_get]
   by_cases q:j<k/\(plcP l j).slot <=d
   ·rw[if_pos q,if_pos ⟨by omega,q.2⟩]
   ·rw[if_neg q,if_neg (fun r=>q ⟨by omega,r.2⟩)]
def inW (w:List Int) (i:Nat):Bool:=decide ((i:Int)∈w)
theorem inW_nil (i:Nat):inW [] i=false:=by simp [inW]
theorem inW_add (f:Nat) (w:List Int) (i:Nat):inW (addW (f:Int) w) i=(decide (i=f) || inW w i):=by
 unfold inW
 by_cases e:i=f
 ·subst e
  rw[decide_eq_true ((mem_addW _ _ _).2 (.inl rfl)),decide_eq_true rfl]
  rfl
 ·rw[decide_eq_false e,Bool.false_or]
  congr 1
  rw[mem_addW]
  apply propext
  constructor
  ·rintro (q | q)
   ·exact absurd (by omega) e
   ·exact q
  ·exact .inr
def whoK (w:List Int) (k:Nat):List Int:=((List.range k).filter fun i=>inW w i).map fun i:Nat=>(i:Int)
theorem whoK_succ (w:List Int) (k:Nat):whoK w (k+1)=if inW w k then whoK w k++ [(k:Int)] else whoK w k:=by
 unfold whoK
 rw[List.range_succ,List.filter_append,List.map_append]
 cases h:inW w k<;>simp [h]
theorem whoK_len (w:List Int) (k:Nat):(whoK w k).length <=k:=by
 unfold whoK
 rw[List.length_map]
 exact Nat.le_trans (List.length_filter_le _ _) (by simp)
theorem whoK_go: ∀(k lo:Nat) (w:List Int),w.Pairwise (· < ·)->(∀x∈w,(lo:Int)<=x/\x<((lo+k:Nat):Int))->((List.range' lo k).filter fun i=>inW w i).map (fun i:Nat=>(i:Int))=w
 | 0,lo,w,_,h=>by
  cases w with
  | nil=>rfl
  | cons x w=>have:=h x List.mem_cons_self;omega
 | k+1,lo,w,hw,h=>by
  rw[List.range'_succ,List.filter_cons]
  by_cases q:(lo:Int)∈w
  ·cases w with
   | nil=>cases q
   | cons x w=>
    obtain⟨h1,h2⟩:=List.pairwise_cons.1 hw
    have hx:x=(lo:Int):=by
     have:=(h x List.mem_cons_self).1
     rcases List.mem_cons.1 q with e | e
     ·exact e.symm
     ·have:=h1 _ e
      omega
    subst hx
    rw[if_pos (by simp [inW]),List.map_cons]
    congr 1
    have ih:=whoK_go k (lo+1) w h2 fun y hy=>⟨by have:=h1 y hy;omega,by have:=(h y (List.mem_cons_of_mem _ hy)).2;omega⟩
    conv=>rhs;rw[<-ih]
    congr 1
    apply List.filter_congr
    intro i hi
    have hi:=(List.mem_range'_1.1 hi).1
    unfold inW
    congr 1
    rw[List.mem_cons]
    apply propext
    constructor
    ·rintro (e | e)
     ·omega
     ·exact e
    ·exact .inr
  ·rw[if_neg (by simp [inW,q])]
   exact whoK_go k (lo+1) w hw fun y hy=>by
    have:=h y hy
    refine⟨?_,by omega⟩
    have hne:y≠(lo:Int):=fun e=>q (e ▸ hy)
    omega
theorem whoK_all {n:Int} {w:List Int} (h:WhoOk n w) (hn:n<=7):whoK w 7=w:=by
 unfold whoK
 rw[List.range_eq_range']
 exact whoK_go 7 0 w h.rise fun x hx=>⟨by have:=h.low x hx;omega,by have:=h.most x hx;omega⟩
def chosenB (s:LrnV) (t:Int):Bool:=match at_ s.l t with
 | some x=>x.chosen
 | none=>false
end Ln
end Go.Proofs.Ytbcnednhfmchpaa

/- The developers' learner in memory; contracts of package learn: isBallot, isSlot, isReplica, New, Done, find, methods of nil. -/
set_option linter.unusedVariables false
set_option maxRecDepth 8000
set_option linter.unusedSimpArgs false
namespace Go.Proofs.Ytbcnednhfmchpaa
open Lib (hid)
open Go.RowKit
namespace Ln
open Cm

theorem isBallot_any (v:Int) (w:World):Calls Try.prog 26 #[.int .i64 v] w (Says (highF v 0) w):=by
  unfold highF
  by_cases h1:0<=v<;>by_cases h2:v<=2305843009213693952<;>
    (go_enter Try.func26,Try.ntmps26
     go_wp2
     go_ret
     exact⟨by simp [h1,h2]<;>omega,rfl⟩)
theorem isSlot_any (v:Int) (w:World):Calls Try.prog 27 #[.int .i64 v] w (Says (highF v 1) w):=by
  unfold highF
  by_cases h1:1<=v<;>by_cases h2:v<=2305843009213693952<;>
    (go_enter Try.func27,Try.ntmps27
     go_wp2
     go_ret
     exact⟨by simp [h1,h2]<;>omega,rfl⟩)
structure VotC where
 slot:Int
 ballot:Int
 who:List Int
 bat:BatV
 ua:Option Addr
 uc:Nat
def VotC.u (x:VotC):Value:=.slice x.ua x.bat.reqs.length x.uc
def VotC.val (x:VotC):PlV:=⟨x.slot,x.ballot,x.who,x.bat⟩
def valsP (L:List VotC):List PlV:=L.map VotC.val
theorem valsP_length (L:List VotC):(valsP L).length =L.length:=by simp [valsP]
theorem valsP_get (L:List VotC) (i:Nat) (h:i<L.length) (h':i<(valsP L).length):(valsP L)[i]=L[i].val :=by simp [valsP]
theorem valsP_set (L:List VotC) (k:Nat) (x:VotC):valsP (L.set k x)=(valsP L).set k x.val:=by simp [valsP,List.map_set]
def zeroPC:VotC:=⟨0,0,[],zeroB,none,0⟩
def cellsP (x:VotC):List Value:= [.int .i64 x.slot,.int .i64 x.ballot,.bool x.bat.fill,.int .i64 x.bat.view,.int .i64 x.bat.tv,.int .i64 x.bat.ts,.int .i64 x.bat.time,x.u,.bool (inW x.who 0),.bool (inW x.who 1),.bool (inW x.who 2),.bool (inW x.who 3),.bool (inW x.who 4),.bool (inW x.who 5),.bool (inW x.who 6)]
theorem cellsP_length (x:VotC):(cellsP x).length =15:=rfl
def votVal (x:VotC):Value:=.agg #[.int .i64 x.slot,.int .i64 x.ballot,.bool x.bat.fill,.int .i64 x.bat.view,.int .i64 x.bat.tv,.int .i64 x.bat.ts,.int .i64 x.bat.time,x.u,.bool (inW x.who 0),.bool (inW x.who 1),.bool (inW x.who 2),.bool (inW x.who 3),.bool (inW x.who 4),.bool (inW x.who 5),.bool (inW x.who 6)]
def OwnP (base:Nat) (w:World) (x:VotC):Prop:=w.ownsRow base 73 5 x.u x.bat.reqs.length (flatX cellsR x.bat.reqs)
theorem OwnP.zero (base:Nat) (w:World):OwnP base w zeroPC:=World.ownsRow_nil _ _ _ _
theorem OwnP.rd {base:Nat} {w:World} {x:VotC} (h:OwnP base w x):RdR w x.u x.bat.reqs:=RdX.own cellsR_length h
theorem OwnP.later {base:Nat} {w w':World} {x:VotC} (h:OwnP base w x) (hb:Below w.heap.size w w'):OwnP base w' x:=Rw.own_below h hb
theorem OwnP.keep {base g:Nat} {w w':World} {x:VotC} (h:OwnP base w x) (hg:w.grownBy w' (some g)) (hb:g<base):OwnP base w' x:=
 Rw.own_keep h fun k hk=>hg.block k (Rw.own_lt h k hk).2 (fun q=>by cases q;have:=(Rw.own_lt h _ hk).1;omega)
def lrnCells (n d:Int) (M:List VotC):Array Value:=(Value.int .i64 n::Value.int .i64 d::flatX cellsP M).toArray
theorem lrnCells_get (n d:Int) (M:List VotC) (p:Nat) (hp:p<M.length) (k:Nat) (hk:k<15):(lrnCells n d M)[2+p*15+k]?=(cellsP M[p])[k]?:=by
 rw[<-flatX_get cellsP_length M p hp k hk]
 unfold lrnCells
 rw[List.getElem?_toArray,show 2+p*15+k=(p*15+k)+1+1 by omega,List.getElem?_cons_succ,List.getElem?_cons_succ]
theorem lrnCells_done (n d c:Int) (M:List VotC):(lrnCells n d M).setIfInBounds 1 (.int .i64 c)=lrnCells n c M:=by
 unfold lrnCells
 rw[List.setIfInBounds_toArray]
 rfl
structure HasD (w:World) (g m:Nat) (s:LrnV):Prop where
 ex: ∃M:List VotC,w.heap[g]?=some (.cells (lrnCells s.n s.done M) 63)/\valsP M=placesL s.l/\ ∀x∈M,OwnP m w x
 gm:g<m
 mw:m<=w.heap.size
section
variable {w w' : World} {g m k : Nat} {s : LrnV}
theorem HasD.lt (h:HasD w g m s):g<w.heap.size:=Nat.lt_of_lt_of_le h.gm h.mw
theorem HasD.later (h:HasD w g m s) (hb:Below w.heap.size w w'):HasD w' g m s:=by
 obtain⟨M,h1,h2,h3⟩:=h.ex
 exact⟨⟨M,(hb.block _ h.lt).trans h1,h2,fun x hx=>(h3 x hx).later hb⟩,h.gm,Nat.le_trans h.mw hb.size⟩
theorem HasD.other (h:HasD w g m s) (hg:w.grownBy w' (some k)) (hk:k<m) (hne:g≠k):HasD w' g m s:=by
 obtain⟨M,h1,h2,h3⟩:=h.ex
 exact⟨⟨M,(hg.block _ h.lt (fun q=>hne (by cases q;rfl))).trans h1,h2,fun x hx=>(h3 x hx).keep hg hk⟩,h.gm,Nat.le_trans h.mw hg.size⟩
theorem HasD.c0 (h:HasD w g m s):w.cell? ⟨g,0,none⟩=some (.int .i64 s.n):=by
 obtain⟨M,h1, -, -⟩:=h.ex
 exact cell_at h1 0
theorem HasD.c1 (h:HasD w g m s):w.cell? ⟨g,1,none⟩=some (.int .i64 s.done):=by
 obtain⟨M,h1, -, -⟩:=h.ex
 exact cell_at h1 1
theorem HasD.open_ (h:HasD w g m s) (j:Nat):w.frozen? ⟨g,j,none⟩=false:=by
 obtain⟨M,h1, -, -⟩:=h.ex
 exact frozen_at h1 j
theorem HasD.plc (h:HasD w g m s) (p:Nat) (hp:p<9): ∃x:VotC,x.val=plcP s.l p/\OwnP m w x/\ ∀W,Below w.heap.size w W-> ∀k,k<15->W.cell? ⟨g,2+p*15+k,none⟩=(cellsP x)[k]?:=by
 obtain⟨M,h1,h2,h3⟩:=h.ex
 have hl:M.length=9:=by rw[<-valsP_length,h2,placesL_length]
 refine⟨M[p]'(by omega),?_,h3 _ (List.getElem_mem _),fun W hb k hk=>?_⟩
 ·have e:=valsP_get M p (by omega) (by rw[valsP_length];omega)
  rw[<-e,<-placesL_get s.l p (by rw[placesL_length];exact hp)]
  congr 1
 ·rw[cell_at (cells_later h1 hb)]
  exact lrnCells_get _ _ M p (by omega) k hk
theorem HasD.putD (h:HasD w g m s) (d:Int) (M:List VotC) (h1:w.heap[g]?=some (.cells (lrnCells s.n s.done M) 63)):(w.setCell ⟨g,1,none⟩ (.int .i64 d)).heap[g]?=some (.cells (lrnCells s.n d M) 63):=by
 rw[set_atB h1,lrnCells_done]
theorem HasD.new {n:Int} (h1:w.heap[g]?=some (.cells (lrnCells n 0 (List.replicate 9 zeroPC)) 63)) (h2:g<m) (h3:m<=w.heap.size):HasD w g m (newL n):=
 ⟨⟨List.replicate 9 zeroPC,h1,by rw[show(newL n).l = [] from rfl,placesL_nil];simp [valsP,VotC.val,zeroPC,zeroPl],fun x hx=>by rw[(List.mem_replicate.1 hx).2];exact OwnP.zero _ _⟩,h2,h3⟩
end

theorem zeroLr:(Try.prog.info? 63).map (fun i=>i.zero)=some (some (.agg (lrnCells 0 0 (List.replicate 9 zeroPC)))):=by kernel_rfl
theorem zeroVt:(Try.prog.info? 60).map (fun i=>i.zero)=some (some (.agg #[.int .i64 0,.int .i64 0,.bool false,.int .i64 0,.int .i64 0,.int .i64 0,.int .i64 0,.slice none 0 0,.bool false,.bool false,.bool false,.bool false,.bool false,.bool false,.bool false])):=by kernel_rfl
theorem run_zeroL {P:Program} {t:TypeId} {z:Value} (h:(P.info? t).map (fun i=>i.zero)=some (some z)) (w:World):(zeroValue t).run P w= .ok z w:=by
 cases q:P.info? t with
 | none=>rw[q] at h;cases h
 | some i=>
  rw[q] at h
  have hz:i.zero=some z:=by simpa using h
  simp [zeroValue,typeInfo,q,hz]
end Ln
end Go.Proofs.Ytbcnednhfmchpaa
