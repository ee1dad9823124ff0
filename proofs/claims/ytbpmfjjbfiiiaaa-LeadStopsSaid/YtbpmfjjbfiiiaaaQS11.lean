/- Texts laid together by program. -/
import Derived.Test.YtbpmfjjbfiiiaaaQS7
import Derived.Lib.QuietBelow
/- slices.SortFunc of at most twelve promises by whom they are of. -/
set_option linter.unusedVariables false
set_option maxRecDepth 8000
set_option linter.unusedSimpArgs false
namespace Go.Proofs.Ytbpmfjjbfiiiaaa
open Lib (hid)
open Go.RowKit
namespace Pl
open Cm Ac

def insC (x:PromC):List PromC->List PromC
 | []=> [x]
 | y::l=>if x.who<y.who then x::y::l else y::insC x l
def sortC (l:List PromC):List PromC:=l.foldl (fun s x=>insC x s) []
theorem insC_vals (x:PromC): ∀l,valsP (insC x l)=insP x.val (valsP l)
 | []=>rfl
 | y::l=>by
  rw[insC]
  show _=insP x.val (y.val::valsP l)
  rw[insP]
  show valsP (if x.who<y.who then _ else _)=if x.who<y.who then _ else _
  split
  ·rfl
  ·show y.val::valsP (insC x l)= _
   rw[insC_vals x l]
theorem sortG_vals: ∀(l s:List PromC),valsP (l.foldl (fun s x=>insC x s) s)=(valsP l).foldl (fun s x=>insP x s) (valsP s)
 | [],s=>rfl
 | x::l,s=>by
  rw[List.foldl_cons,sortG_vals l,insC_vals]
  rfl
theorem sortC_vals (l:List PromC):valsP (sortC l)=sortP (valsP l):=sortG_vals l []
theorem insC_perm (x:PromC): ∀l:List PromC,(insC x l).Perm (x::l)
 | []=>List.Perm.refl _
 | z::l=>by
  rw[insC]
  split
  ·exact List.Perm.refl _
  ·exact(List.Perm.cons z (insC_perm x l)).trans (List.Perm.swap x z l)
theorem sortCG_perm: ∀(l s:List PromC),(l.foldl (fun s x=>insC x s) s).Perm (l++s)
 | [],s=>List.Perm.refl _
 | x::l,s=>by
  rw[List.foldl_cons]
  refine(sortCG_perm l (insC x s)).trans ?_
  refine(List.Perm.append_left l (insC_perm x s)).trans ?_
  exact List.perm_middle
theorem sortC_perm (l:List PromC):(sortC l).Perm l:=by
 have:=sortCG_perm l []
 rw[List.append_nil] at this
 exact this
theorem sortC_length (l:List PromC):(sortC l).length =l.length:=(sortC_perm l).length_eq
theorem sortC_snoc (l:List PromC) (x:PromC):sortC (l++ [x])=insC x (sortC l):=by
 unfold sortC
 rw[List.foldl_append]
 rfl
theorem insC_rise (x:PromC): ∀l:List PromC,l.Pairwise (fun a b=>a.who<=b.who)->(insC x l).Pairwise fun a b=>a.who<=b.who
 | [],_=>by simp [insC]
 | y::l,h=>by
  obtain⟨h1,h2⟩:=List.pairwise_cons.1 h
  rw[insC]
  split
  ·rename_i q
   refine List.pairwise_cons.2 ⟨fun z hz=>?_,h⟩
   rcases List.mem_cons.1 hz with e | hz
   ·rw[e];omega
   ·have:=h1 z hz;omega
  ·rename_i q
   refine List.pairwise_cons.2 ⟨fun z hz=>?_,insC_rise x l h2⟩
   rcases List.mem_cons.1 ((insC_perm x l).mem_iff.1 hz) with e | hz
   ·rw[e];omega
   ·exact h1 z hz
theorem sortCG_rise: ∀(l s:List PromC),s.Pairwise (fun a b=>a.who<=b.who)->(l.foldl (fun s x=>insC x s) s).Pairwise fun a b=>a.who<=b.who
 | [],s,h=>h
 | x::l,s,h=>sortCG_rise l (insC x s) (insC_rise x s h)
theorem sortC_rise (l:List PromC):(sortC l).Pairwise fun a b=>a.who<=b.who:=sortCG_rise l [] List.Pairwise.nil
theorem insC_at (x:PromC): ∀(S:List PromC) (j:Nat),j<=S.length->(∀k (h:k<S.length),k<j-> ¬x.who<S[k].who)->(∀k (h:k<S.length),j<=k->x.who<S[k].who)->insC x S=S.take j++x::S.drop j
 | [],j,h,_,_=>by
  obtain rfl:j=0:=by simpa using h
  rfl
 | y::l,0,_,_,h2=>by
  have this:x.who<y.who:=h2 0 (by simp) (Nat.le_refl _)
  rw[insC,if_pos this]
  rfl
 | y::l,j+1,h,h1,h2=>by
  have this: ¬x.who<y.who:=h1 0 (by simp) (by omega)
  rw[insC,if_neg this]
  rw[insC_at x l j (by simpa using h) (fun k hk hkj=>h1 (k+1) (by simpa using hk) (by omega)) (fun k hk hkj=>h2 (k+1) (by simpa using hk) (by omega))]
  rfl
def midC (S:List PromC) (x:PromC) (R:List PromC) (j:Nat):List PromC:=S.take j++x::S.drop j++R
theorem midC_length (S:List PromC) (x:PromC) (R:List PromC) (j:Nat) (hj:j<=S.length):(midC S x R j).length =S.length+1+R.length:=by
 unfold midC
 simp
 omega
theorem midC_at (S:List PromC) (x:PromC) (R:List PromC) (j:Nat) (hj:j<=S.length) (h:j<(midC S x R j).length):(midC S x R j)[j]=x:=by
 unfold midC
 simp [List.getElem_append,Nat.min_eq_left hj]
theorem midC_ahead (S:List PromC) (x:PromC) (R:List PromC) (J:Nat) (hj:J<S.length) (h:J<(midC S x R (J+1)).length):(midC S x R (J+1))[J]=S[J]:=by
 unfold midC
 simp [List.getElem_append,hj]
 rw[dif_pos (by omega)]
theorem midC_swap (S:List PromC) (x:PromC) (R:List PromC) (J:Nat) (hj:J<S.length):((midC S x R (J+1)).set (J+1) S[J]).set J x=midC S x R J:=by
 unfold midC
 have e:S.take (J+1)=S.take J++ [S[J]]:=List.take_succ_eq_append_getElem hj
 have e2:S.drop J=S[J]::S.drop (J+1):=List.drop_eq_getElem_cons hj
 have hl:(S.take J).length =J:=by simp;omega
 rw[e,e2]
 generalize S.take J=A at hl ⊢
 generalize S.drop (J+1)=B
 generalize S[J]=y
 subst hl
 simp [List.set_append]
theorem midC_end (S:List PromC) (x:PromC) (R:List PromC):midC S x R S.length=S++x::R:=by
 unfold midC
 simp
structure RowC (w:World) (g:Nat) (D:List PromC) (T:List Value):Prop where
 ex:w.heap[g]?=some (.cells (flatX cellsP D++T).toArray 59)
theorem RowC.lt {w:World} {g:Nat} {D:List PromC} {T:List Value} (h:RowC w g D T):g<w.heap.size:=get_ltB h.ex
theorem RowC.later {w w':World} {g:Nat} {D:List PromC} {T:List Value} (h:RowC w g D T) (hb:Below w.heap.size w w'):RowC w' g D T:=⟨cells_later h.ex hb⟩
theorem RowC.cell {w:World} {g:Nat} {D:List PromC} {T:List Value} (h:RowC w g D T) (i:Nat) (hi:i<D.length) (k:Nat) (hk:k<6) (u:Value) (hu:(cellsP D[i])[k]?=some u):w.cell? ⟨g,i*6+k,none⟩=some u:=by
 rw[cell_at h.ex]
 rw[<-flatX_get cellsP_length D i hi k hk] at hu
 have:=(List.getElem?_eq_some_iff.1 hu).1
 rw[List.getElem?_toArray,List.getElem?_append_left this]
 exact hu
theorem RowC.open_ {w:World} {g:Nat} {D:List PromC} {T:List Value} (h:RowC w g D T) (k:Nat):w.frozen? ⟨g,k,none⟩=false:=frozen_at h.ex k
theorem flat6 (D:List PromC) (T:List Value) (p:Nat) (hp:p<D.length) (y:PromC) (a b c d e f:Value) (hy:cellsP y= [a,b,c,d,e,f]):
  (((((((flatX cellsP D++T).set (p*6) a).set (p*6+1) b).set (p*6+2) c).set (p*6+3) d).set (p*6+4) e).set (p*6+5) f)=flatX cellsP (D.set p y)++T:=by
 have e1:flatX cellsP D=flatX cellsP (D.take p)++(cellsP D[p]++flatX cellsP (D.drop (p+1))):=by
  rw[<-flatX_cons,<-flatX_append,<-List.drop_eq_getElem_cons hp,List.take_append_drop]
 have e2:D.set p y=D.take p++y::D.drop (p+1):=by rw[List.set_eq_take_append_cons_drop,if_pos hp]
 have hl:(flatX cellsP (D.take p)).length =p*6:=by rw[flatX_length cellsP_length];simp;omega
 rw[e1,e2,flatX_append,flatX_cons,hy]
 obtain⟨y0,y1,y2,y3,y4,y5,hq⟩: ∃y0 y1 y2 y3 y4 y5,cellsP D[p]= [y0,y1,y2,y3,y4,y5]:=⟨_,_,_,_,_,_,rfl⟩
 rw[hq]
 generalize flatX cellsP (D.take p)=A at hl ⊢
 generalize flatX cellsP (D.drop (p+1))=B
 generalize p*6=q at hl ⊢
 subst hl
 simp [List.set_append]
def set6 (w:World) (g o:Nat) (y:PromC):World:=(((((w.setCell ⟨g,o,none⟩ (.int .i64 y.who)).setCell ⟨g,o+1,none⟩ (.int .i64 y.done)).setCell ⟨g,o+2,none⟩ (.int .i64 y.tv)).setCell ⟨g,o+3,none⟩ (.int .i64 y.ts)).setCell ⟨g,o+4,none⟩ (.int .i64 y.time)).setCell ⟨g,o+5,none⟩ y.u
theorem RowC.put {w:World} {g:Nat} {D:List PromC} {T:List Value} (h:RowC w g D T) (p:Nat) (hp:p<D.length) (y:PromC):RowC (set6 w g (p*6) y) g (D.set p y) T:=by
 refine⟨?_⟩
 unfold set6
 rw[set_atB (set_atB (set_atB (set_atB (set_atB (set_atB h.ex _ _) _ _) _ _) _ _) _ _) _ _]
 simp only[List.setIfInBounds_toArray]
 rw[flat6 D T p hp y _ _ _ _ _ _ rfl]
theorem grown_set1 (w:World) (g j:Nat) (u:Value):w.grownBy (w.setCell ⟨g,j,none⟩ u) (some g):=
 ⟨rfl,rfl,rfl,by simp,fun k hk hne=>Below.heap_setCell _ _ _ _ (fun q=>hne (by rw[show k=g from q]))⟩
theorem set6_grown (w:World) (g o:Nat) (y:PromC):w.grownBy (set6 w g o y) (some g):=
 (((((grown_set1 w g _ _).trans (grown_set1 _ g _ _)).trans (grown_set1 _ g _ _)).trans (grown_set1 _ g _ _)).trans (grown_set1 _ g _ _)).trans (grown_set1 _ g _ _)
theorem gr_belowP {a w w':World} {row:Option Nat} (h:a.grownBy w row) (hb:Below w.heap.size w w'):a.grownBy w' row:=
 h.trans ⟨hb.os,hb.tape,hb.output,hb.size,fun i hi _=>hb.block i hi⟩
def cmpF (x y:Int):Int:=if x<y then -1 else if y<x then 1 else 0
theorem isNaN_any (x:Int) (w:World):Calls Try.prog 82 #[.int .i64 x] w (Says false w):=by
 have d:(x != x)=false:=by simp
 go_enter Try.func82,Try.ntmps82
 go_wp2
 go_ret
 exact⟨by simp,rfl⟩
theorem Compare_any (x y:Int) (w:World):Calls Try.prog 74 #[.int .i64 x,.int .i64 y] w (fun e w'=>e= .returned (.int .i64 (cmpF x y))/\w'=w):=by
 have CX:=hid (fun w=>isNaN_any x w)
 have CY:=hid (fun w=>isNaN_any y w)
 unfold cmpF
 by_cases h1:x<y
 ·have d1:decide (x<y)=true:=decide_eq_true h1
  rw[if_pos h1]
  clear h1
  go_enter Try.func74,Try.ntmps74
  go_wp2_with fail
  refine(CX.out _).mono ?_
  rintro e w1 ⟨rfl,rfl⟩
  go_wp2_with fail
  refine(CY.out _).mono ?_
  rintro e w1 ⟨rfl,rfl⟩
  go_wp2
  go_ret
  exact⟨rfl,rfl⟩
 rw[if_neg h1]
 have d1:decide (x<y)=false:=decide_eq_false h1
 by_cases h2:y<x
 ·have d2:decide (y<x)=true:=decide_eq_true h2
  rw[if_pos h2]
  clear h1 h2
  go_enter Try.func74,Try.ntmps74
  go_wp2_with fail
  refine(CX.out _).mono ?_
  rintro e w1 ⟨rfl,rfl⟩
  go_wp2_with fail
  refine(CY.out _).mono ?_
  rintro e w1 ⟨rfl,rfl⟩
  go_wp2
  go_ret
  exact⟨rfl,rfl⟩
 rw[if_neg h2]
 have d2:decide (y<x)=false:=decide_eq_false h2
 clear h1 h2
 go_enter Try.func74,Try.ntmps74
 go_wp2_with fail
 refine(CX.out _).mono ?_
 rintro e w1 ⟨rfl,rfl⟩
 go_wp2_with fail
 refine(CY.out _).mono ?_
 rintro e w1 ⟨rfl,rfl⟩
 go_wp2
 go_ret
 exact⟨rfl,rfl⟩
theorem enters_by: ∀args w,(callFunc 73 args).run Try.prog w= .ok (.enter 73 args) w:=enters_of Try.func73 (by kernel_rfl) rfl
theorem by1_any (x y:PromC) (w:World):Calls Try.prog 73 #[promVal x,promVal y] w (fun e w'=>e= .returned (.int .i64 (cmpF x.who y.who))/\Below w.heap.size w w'):=by
 obtain⟨xw,xd,xv,xs,xt,xl,xa,xc⟩:=x
 obtain⟨yw,yd,yv,ys,yt,yl,ya,yc⟩:=y
 unfold promVal PromC.u
 dsimp only
 have HB:=hid (stepAlloc (newAlloc w (.cells #[.int .i64 xw,.int .i64 xd,.int .i64 xv,.int .i64 xs,.int .i64 xt,.slice xa xl.length xc] 59)) (.cells #[.int .i64 yw,.int .i64 yd,.int .i64 yv,.int .i64 ys,.int .i64 yt,.slice ya yl.length yc] 59))
 have CC:=hid (fun w=>Compare_any xw yw w)
 generalize xl.length=n at*
 generalize yl.length=m at*
 generalize cmpF xw yw=r at*
 go_enter Try.func73,Try.ntmps73
 go_wp2_with (go_at_call 74;refine(CC.out _).mono ?_;rintro e w1 ⟨rfl,rfl⟩)
 go_ret
 exact⟨rfl,HB.out⟩
end Pl
end Go.Proofs.Ytbpmfjjbfiiiaaa

/- slices.insertionSortCmpFunc of promises by whom they are of. -/
set_option linter.unusedVariables false
set_option maxRecDepth 8000
set_option linter.unusedSimpArgs false
namespace Go.Proofs.Ytbpmfjjbfiiiaaa
open Lib (hid)
open Go.RowKit
namespace Pl
open Cm Ac

theorem rowC_cells {w:World} {g:Nat} {D:List PromC} {T:List Value} (h:RowC w g D T) (i:Nat) (hi:i<D.length):
  w.cell? ⟨g,i*6,none⟩=some (.int .i64 D[i].who)/\w.cell? ⟨g,i*6+1,none⟩=some (.int .i64 D[i].done)/\w.cell? ⟨g,i*6+2,none⟩=some (.int .i64 D[i].tv)/\w.cell? ⟨g,i*6+3,none⟩=some (.int .i64 D[i].ts)/\w.cell? ⟨g,i*6+4,none⟩=some (.int .i64 D[i].time)/\w.cell? ⟨g,i*6+5,none⟩=some D[i].u :=
 ⟨h.cell i hi 0 (by decide) _ rfl,h.cell i hi 1 (by decide) _ rfl,h.cell i hi 2 (by decide) _ rfl,h.cell i hi 3 (by decide) _ rfl,h.cell i hi 4 (by decide) _ rfl,h.cell i hi 5 (by decide) _ rfl⟩
theorem RowC.drw {w:World} {g:Nat} {D:List PromC} {T:List Value} (h:RowC w g D T):RowC w.drew g D T:=⟨h.ex⟩
theorem grown_drw {a w:World} {row:Option Nat} (h:a.grownBy w row):a.grownBy w.drew row:=gr_belowP h (Below.refl _ _).drew
theorem mid_done {S R:List PromC} {x:PromC} {j:Nat} (hj:j<=S.length) (hs:S.Pairwise fun a b=>a.who<=b.who) (h2: ∀k (h:k<S.length),j<=k->x.who<S[k].who) (h1:0<j-> ∀h:j - 1<S.length,¬x.who<S[j - 1].who):midC S x R j=insC x S++R:=by
 rw[insC_at x S j hj (fun k hk hkj=>?_) h2]
 ·rfl
 ·have h0:0<j:=by omega
  have hl:j - 1<S.length:=by omega
  have:=h1 h0 hl
  rcases Nat.lt_or_ge k (j - 1) with q | q
  ·have:=List.pairwise_iff_getElem.1 hs k (j - 1) hk hl q
   omega
  ·have e:k=j - 1:=by omega
   subst e
   exact this
theorem cmpF_neg {x y:Int} :decide (cmpF x y<0)=decide (x<y):=by
 unfold cmpF
 by_cases h:x<y
 ·rw[if_pos h,decide_eq_true h];rfl
 ·rw[if_neg h,decide_eq_false h]
  split<;>rfl
set_option maxHeartbeats 16000000 in
theorem insertion_any (g:Nat) (D:List PromC) (T:List Value) (cap:Nat) (hcap:D.length<=cap) (hN:D.length<=1000) (w:World) (h:RowC w g D T):
  Calls Try.prog 89 #[.slice (some ⟨g,0,none⟩) D.length cap,.int .i64 0,.int .i64 (D.length:Int),.func (.func 73) #[] #[]] w (fun e w'=>e= .returned (.tuple #[])/\RowC w' g (sortC D) T/\w.grownBy w' (some g)):=by
 have HH:=hid h
 have EG:=hid enters_by
 clear h
 obtain⟨N,hn⟩: ∃N,D.length=N:=⟨_,rfl⟩
 have HL:=hid hn
 rw[hn] at hcap hN ⊢
 clear hn
 by_cases hz:N=0
 ·have HZ:=hid (show sortC D=D by have:=HL.out;rw[hz] at this;rw[List.length_eq_zero_iff.1 this];rfl)
  subst hz
  go_enter Try.func89,Try.ntmps89
  go_wp2
  go_loopw [8,9,12] (fun i _ _ wr=>i= .int .i64 1/\wr=w) (fun _ _ _ _=>0)
  case atStart=>exact⟨rfl,rfl⟩
  case round=>
   obtain⟨rfl,rfl⟩:=hrel
   go_wp2
   go_end0
   exact⟨rfl,by rw[HZ.out];exact HH.out,World.grownBy.refl _ _⟩
 have h1N:1<=N:=by omega
 clear hz
 go_enter Try.func89,Try.ntmps89
 go_wp2
 go_loopw [8,9,12] (fun i y t wr=> ∃I:Nat,1<=I/\I<=N/\i= .int .i64 I/\Hid (RowC wr g (sortC (D.take I)++D.drop I) T)/\Hid (w.grownBy wr (some g))) (fun i _ _ _=>N - (intOf i).toNat)
 case atStart=>exact⟨1,by omega,h1N,by go_num,hid (by
  have:0<D.length:=by rw[HL.out];omega
  have e:sortC (D.take 1)++D.drop 1=D:=by
   match D,this with
   | x::l,_=>rfl
  rw[e];exact HH.out),hid (World.grownBy.refl _ _)⟩
 case round=>
  obtain⟨I,hI1,hIN,rfl,HR,HG⟩:=hrel
  by_cases hlt:I<N
  case neg=>
   obtain rfl:I=N:=by omega
   have HE:=hid (show sortC (D.take I)++D.drop I=sortC D by rw[<-HL.out,List.take_length,List.drop_length,List.append_nil])
   go_wp2
   go_end0
   exact⟨rfl,by rw[<-HE.out];exact HR.out,HG.out⟩
  have hID:I<D.length:=by rw[HL.out];exact hlt
  obtain⟨S,hS⟩: ∃S,sortC (D.take I)=S:=⟨_,rfl⟩
  obtain⟨R,hRR⟩: ∃R,D.drop (I+1)=R:=⟨_,rfl⟩
  obtain⟨x,hx⟩: ∃x,D[I]=x:=⟨_,rfl⟩
  have hSl:S.length=I:=by rw[<-hS,sortC_length];simp;omega
  have hSr:S.Pairwise fun a b=>a.who<=b.who:=by rw[<-hS];exact sortC_rise _
  have e0:sortC (D.take I)++D.drop I=midC S x R I:=by have q:=midC_end S x R;rw[hSl] at q;rw[q,hS,<-hx,<-hRR,List.drop_eq_getElem_cons hID]
  have e1:insC x S++R=sortC (D.take (I+1))++D.drop (I+1):=by
   rw[List.take_succ_eq_append_getElem hID,sortC_snoc,hS,hx,hRR]
  have hRl:S.length+1+R.length=N:=by rw[hSl,<-hRR,List.length_drop,HL.out];omega
  rw[e0] at HR
  have HE1:=hid e1
  have HSR:=hid hSr
  have HSL:=hid hSl
  have HRL:=hid hRl
  clear hS hRR hx e0 e1 hSr hID hSl hRl HH
  have hI0:(I:Int)<(N:Int):=by omega
  obtain⟨wo,rfl⟩: ∃wo,wo=wr:=⟨_,rfl⟩
  go_wp2
  go_loopw [9,18] (fun q t wq=> ∃j:Nat,j<=I/\q= .int .i64 j/\Hid (RowC wq g (midC S x R j) T)/\Hid (wo.grownBy wq (some g))/\Hid (∀k (h:k<S.length),j<=k->x.who<S[k].who)) (fun q _ _=>(intOf q).toNat)
  case atStart=>exact⟨I,Nat.le_refl _,rfl,HR,hid (World.grownBy.refl _ _),hid (fun k hk hj=>by have:=HSL.out;omega)⟩
  case round=>
   obtain⟨j,hj,rfl,HRQ,HGQ,HK⟩:=hrel
   by_cases hj0:0<j
   case neg=>
    obtain rfl:j=0:=by omega
    have HM:=hid (mid_done (R:=R) (Nat.zero_le _) HSR.out HK.out (fun q=>absurd q (by omega)))
    clear hj0
    go_upto_region 4 with fail
    go_quiet (fail)
    go_wp2
    go_roundw
    case rel=>exact⟨I+1,by omega,by omega,by go_num,hid (by rw[<-HE1.out,<-HM.out];exact HRQ.out.later (below_drewB (Below.refl _ _) nq)),hid (HG.out.trans (gr_belowP HGQ.out (below_drewB (Below.refl _ _) nq)))⟩
    case measure=>simp [intOf];omega
   obtain⟨J,hJ⟩: ∃J,j - 1=J:=⟨_,rfl⟩
   have hjS:j<=S.length:=by rw[HSL.out];exact hj
   have hJS:J<S.length:=by omega
   obtain⟨hl1,hl2⟩:j<(midC S x R j).length /\J<(midC S x R j).length :=by rw[midC_length S x R j hjS];omega
   have r1:=rowC_cells HRQ.out j hl1
   have r2:=rowC_cells HRQ.out J hl2
   rw[midC_at S x R j hjS hl1] at r1
   have eJ:(midC S x R j)[J]=S[J]:=by
    have:j=J+1:=by omega
    subst this
    exact midC_ahead S x R J hJS hl2
   rw[eJ] at r2
   have hnb:g<wr.heap.size:=HRQ.out.lt
   have HSW:Hid (((midC S x R j).set j S[J]).set J x=midC S x R J):=hid (by
    have:j=J+1:=by omega
    subst this
    exact midC_swap S x R J hJS)
   have HND:=hid (fun(hlw: ¬x.who<S[J].who)=>mid_done (R:=R) hjS HSR.out HK.out (fun _ h=>by have:j - 1=J:=hJ;simp only[this];exact hlw))
   have HKK:=hid (fun(hlw:x.who<S[J].who) (k:Nat) (h:k<S.length) (hk:J<=k)=>show x.who<S[k].who by
    by_cases q:J=k
    ·subst q;exact hlw
    ·exact HK.out k h (by omega))
   have HL12:Hid (j<(midC S x R j).length /\J<(midC S x R j).length):=hid ⟨hl1,hl2⟩
   clear eJ hl1 hl2
   generalize hy:S[J]=y at r1 r2 HSW HND HKK
   have CB:=hid (fun w=>by1_any x y w)
   have dneg:=cmpF_neg (x:=x.who) (y:=y.who)
   have hjN:j<N:=by omega
   have hJN:J<N:=by omega
   have ew:IntKind.i64.wrap ((j:Int) - 1)=(J:Int):=by rw[IntKind.wrap_i64];omega
   have hJJ:=hid hJ
   have HJ1:=hid (show J+1=j by omega)
   have hJI:J<=I:=by omega
   clear hy hJ hjS hJS
   have HX:=hid (rfl:x=x)
   have hput:=fun(wz:World) (hz:Below wr.heap.size wr wz)=>((HRQ.out.later hz).put j HL12.out.1 y).put J (by rw[List.length_set];exact HL12.out.2) x
   have hcel:=fun(wz:World) (hz:Below wr.heap.size wr wz)=>And.intro (rowC_cells (HRQ.out.later hz) j HL12.out.1) (rowC_cells (HRQ.out.later hz) J HL12.out.2)
   have hfro:=fun(wz:World) (hz:Below wr.heap.size wr wz)=>(HRQ.out.later hz).open_
   have hgrw:=fun(wz:World)=>(set6_grown wz g (j*6) y).trans (set6_grown (set6 wz g (j*6) y) g (J*6) x)
   rw[HSW.out] at hput
   unfold set6 at hput hgrw
   obtain⟨xw,xd,xv,xs,xt,xl,xa,xc⟩:=x
   obtain⟨yw,yd,yv,ys,yt,yl,ya,yc⟩:=y
   unfold promVal PromC.u at CB
   unfold PromC.u at r1 r2 hput hgrw
   dsimp only at r1 r2 CB dneg hput hgrw HND HKK
   have HPUT:=hid hput
   have HGRW:=hid hgrw
   have HFRO:=hid hfro
   clear hput hgrw hcel hfro
   obtain⟨a0,a1,a2,a3,a4,a5⟩:=r1
   obtain⟨b0,b1,b2,b3,b4,b5⟩:=r2
   generalize xl.length=xn at*
   generalize yl.length=yn at*
   generalize cmpF xw yw=r at*
   go_upto_region 4 with fail
   have k0:=cell_regrown a0
   have k1:=cell_regrown a1
   have k2:=cell_regrown a2
   have k3:=cell_regrown a3
   have k4:=cell_regrown a4
   have k5:=cell_regrown a5
   have l0:=cell_regrown b0
   have l1:=cell_regrown b1
   have l2:=cell_regrown b2
   have l3:=cell_regrown b3
   have l4:=cell_regrown b4
   have l5:=cell_regrown b5
   have D1:=hid (fun d os=>Calls.regrown_of (w:=wr) (d:=d) (os:=os) (CB.out _))
   by_cases hlw:xw<yw
   case neg=>
    rw[decide_eq_false hlw] at dneg
    have HM:=hid (HND.out hlw)
    refine wp_region_quiet_below (by kernel_rfl) (by kernel_rfl) ?_
    repeat (go_big_quiet_step (fail))
    go_big_quiet_step (exact D1.out _ _)
    repeat (go_big_quiet_step (fail))
    refine wpQuiet_nil ?_
    intro wz hw'
    have hbz:Hid (Below wr.heap.size wr wz):=hid (by obtain⟨⟨dq,osq⟩,hw2⟩:=hw';rw[hw2];exact below_regrown wr dq osq)
    clear hw'
    go_wp2
    go_roundw
    case rel=>exact⟨I+1,by omega,by omega,by go_num,hid (by rw[<-HE1.out,<-HM.out];exact HRQ.out.later hbz.out),hid (HG.out.trans (gr_belowP HGQ.out hbz.out))⟩
    case measure=>simp [intOf];omega
   rw[decide_eq_true hlw] at dneg
   have HKK2:=hid (HKK.out hlw)
   refine wp_region_quiet_below (by kernel_rfl) (by kernel_rfl) ?_
   repeat (go_big_quiet_step (fail))
   go_big_quiet_step (exact D1.out _ _)
   repeat (go_big_quiet_step (fail))
   refine wpQuiet_nil ?_
   intro wz hw'
   have hbz:Hid (Below wr.heap.size wr wz):=hid (by obtain⟨⟨dq,osq⟩,hw2⟩:=hw';rw[hw2];exact below_regrown wr dq osq)
   clear hw' k0 k1 k2 k3 k4 k5 l0 l1 l2 l3 l4 l5 D1
   have m0:=(hbz.out.cell (p:=⟨g,_,none⟩) hnb).trans a0
   have n0:=(hbz.out.cell (p:=⟨g,_,none⟩) hnb).trans b0
   have m1:=(hbz.out.cell (p:=⟨g,_,none⟩) hnb).trans a1
   have n1:=(hbz.out.cell (p:=⟨g,_,none⟩) hnb).trans b1
   have m2:=(hbz.out.cell (p:=⟨g,_,none⟩) hnb).trans a2
   have n2:=(hbz.out.cell (p:=⟨g,_,none⟩) hnb).trans b2
   have m3:=(hbz.out.cell (p:=⟨g,_,none⟩) hnb).trans a3
   have n3:=(hbz.out.cell (p:=⟨g,_,none⟩) hnb).trans b3
   have m4:=(hbz.out.cell (p:=⟨g,_,none⟩) hnb).trans a4
   have n4:=(hbz.out.cell (p:=⟨g,_,none⟩) hnb).trans b4
   have m5:=(hbz.out.cell (p:=⟨g,_,none⟩) hnb).trans a5
   have n5:=(hbz.out.cell (p:=⟨g,_,none⟩) hnb).trans b5
   have HP2:=hid (HPUT.out wz hbz.out)
   have HF2:=HFRO.out wz hbz.out
   have HG2:=hid ((HG.out).trans ((gr_belowP HGQ.out hbz.out).trans (HGRW.out wz)))
   have HG3:=hid ((gr_belowP HGQ.out hbz.out).trans (HGRW.out wz))
   clear a0 a1 a2 a3 a4 a5 b0 b1 b2 b3 b4 b5 HPUT HFRO HGRW dneg hlw
   have v0: ¬J=j:=by have:=HJ1.out;omega
   have v0': ¬j=J:=by have:=HJ1.out;omega
   have va1: ¬J*6+1=j*6:=by have:=HJ1.out;omega
   have vb1: ¬J*6=j*6+1:=by have:=HJ1.out;omega
   have vc1: ¬j*6+1=J*6:=by have:=HJ1.out;omega
   have vd1: ¬j*6=J*6+1:=by have:=HJ1.out;omega
   have va2: ¬J*6+2=j*6:=by have:=HJ1.out;omega
   have vb2: ¬J*6=j*6+2:=by have:=HJ1.out;omega
   have vc2: ¬j*6+2=J*6:=by have:=HJ1.out;omega
   have vd2: ¬j*6=J*6+2:=by have:=HJ1.out;omega
   have va3: ¬J*6+3=j*6:=by have:=HJ1.out;omega
   have vb3: ¬J*6=j*6+3:=by have:=HJ1.out;omega
   have vc3: ¬j*6+3=J*6:=by have:=HJ1.out;omega
   have vd3: ¬j*6=J*6+3:=by have:=HJ1.out;omega
   have va4: ¬J*6+4=j*6:=by have:=HJ1.out;omega
   have vb4: ¬J*6=j*6+4:=by have:=HJ1.out;omega
   have vc4: ¬j*6+4=J*6:=by have:=HJ1.out;omega
   have vd4: ¬j*6=J*6+4:=by have:=HJ1.out;omega
   have va5: ¬J*6+5=j*6:=by have:=HJ1.out;omega
   have vb5: ¬J*6=j*6+5:=by have:=HJ1.out;omega
   have vc5: ¬j*6+5=J*6:=by have:=HJ1.out;omega
   have vd5: ¬j*6=J*6+5:=by have:=HJ1.out;omega
   go_wp2
   go_region
   go_wp2
   go_roundw
   case rel=>exact⟨J,hJI,rfl,hid (RowC.drw HP2.out),hid (grown_drw HG3.out),HKK2⟩
   case measure=>have:=HJ1.out;simp [intOf];omega
end Pl
end Go.Proofs.Ytbpmfjjbfiiiaaa
