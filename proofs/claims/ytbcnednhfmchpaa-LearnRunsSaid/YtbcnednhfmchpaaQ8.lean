/- Texts laid together by program. -/
import Derived.Test.YtbcnednhfmchpaaQ7
import Derived.Deep.MidRow
/- Contracts of package learn: isReplica, New, Done, methods of nil, find, who. -/
set_option linter.unusedVariables false
set_option maxRecDepth 8000
set_option linter.unusedSimpArgs false
namespace Go.Proofs.Ytbcnednhfmchpaa
open Lib (hid)
open Go.RowKit
namespace Ln
open Cm

theorem isReplica_any (g m:Nat) (s:LrnV) (v:Int) (w:World) (h:HasD w g m s):Calls Try.prog 25 #[.pointer (some ⟨g,0,none⟩),.int .i64 v] w (Says (decide (0<=v) && decide (v<s.n)) w):=by
 have c0:=h.c0
 clear h
 by_cases h1:0<=v
 ·by_cases h2:v<s.n
  ·have d1:decide (0<=v)=true:=decide_eq_true h1
   have d2:decide (v<s.n)=true:=decide_eq_true h2
   rw[d1,d2]
   clear h1 h2
   go_enter Try.func25,Try.ntmps25
   go_wp2
   go_ret
   exact⟨rfl,rfl⟩
  ·have d1:decide (0<=v)=true:=decide_eq_true h1
   have d2:decide (v<s.n)=false:=decide_eq_false h2
   rw[d1,d2]
   clear h1 h2
   go_enter Try.func25,Try.ntmps25
   go_wp2
   go_ret
   exact⟨rfl,rfl⟩
 ·have d1:decide (0<=v)=false:=decide_eq_false h1
  rw[d1,Bool.false_and]
  clear h1
  go_enter Try.func25,Try.ntmps25
  go_wp2
  go_ret
  exact⟨rfl,rfl⟩
theorem Done_any (g m:Nat) (s:LrnV) (w:World) (h:HasD w g m s):Calls Try.prog 22 #[.pointer (some ⟨g,0,none⟩)] w (fun e w'=>e= .returned (.int .i64 s.done)/\w'=w):=by
 have c0:=h.c1
 clear h
 go_enter Try.func22,Try.ntmps22
 go_wp2
 go_ret
 exact⟨rfl,rfl⟩
theorem Done_nil (w:World):Calls Try.prog 22 #[.pointer none] w (fun e w'=>e= .returned (.int .i64 0)/\w'=w):=by
 go_enter Try.func22,Try.ntmps22
 go_wp2
 go_ret
 exact⟨rfl,rfl⟩
theorem Trim_nil (d:Int) (w:World):Calls Try.prog 11 #[.pointer none,.int .i64 d] w (fun e w'=>e= .returned (.tuple #[])/\w'=w):=by
 go_enter Try.func11,Try.ntmps11
 go_wp2
 refine bodyPost_ret (by simp [results,Try.results11,go_sem]<;>rfl) rfl ⟨rfl,rfl⟩
theorem New_any (n:Int) (w:World):Calls Try.prog 9 #[.int .i64 n] w (fun e w'=>if someN n then e= .returned (.pointer (some ⟨w.heap.size,0,none⟩))/\w'=w.alloc (.cells (lrnCells n 0 (List.replicate 9 zeroPC)) 63) else e= .returned (.pointer none)/\w'=w):=by
 have hz:=fun w=>run_zeroL zeroLr w
 have CQ:=hid (Vw.Quorum_any n w)
 have hq:someN n=Vw.someF n:=rfl
 rw[hq]
 unfold Vw.quorumF at CQ
 cases h:Vw.someF n<;>rw[h] at CQ
 ·rw[if_neg Bool.false_ne_true] at CQ
  go_enter Try.func9,Try.ntmps9
  go_wp2_with (go_at_call 23;refine CQ.out.mono ?_;rintro e w1 ⟨rfl,rfl⟩)
  go_ret
  simp
 ·rw[if_pos rfl] at CQ
  obtain⟨h1,h2⟩:=Vw.someF_iff.1 h
  have d0:(n / 2+1==0)=false:=by
   have:n / 2+1≠0:=by omega
   simpa using this
  clear h h1 h2
  go_enter Try.func9,Try.ntmps9
  go_wp2_with (go_at_call 23;refine CQ.out.mono ?_;rintro e w1 ⟨rfl,rfl⟩)
  go_ret
  simp
  rfl
def Finds (m:Nat) (r:PlV) (w:World) (e:Ending) (w':World):Prop:= ∃x:VotC,e= .returned (votVal x)/\x.val=r/\OwnP m w' x/\Below w.heap.size w w'
set_option maxHeartbeats 4000000 in
theorem Find_nil (t:Int) (w:World):Calls Try.prog 36 #[.pointer none,.int .i64 t] w (Finds 0 zeroPl w):=by
 have hz:=fun w=>run_zeroL zeroVt w
 have hb:=newAlloc w (.cells #[.int .i64 0,.int .i64 0,.bool false,.int .i64 0,.int .i64 0,.int .i64 0,.int .i64 0,.slice none 0 0,.bool false,.bool false,.bool false,.bool false,.bool false,.bool false,.bool false] 60)
 have k:=alloc_atB w (.cells #[.int .i64 0,.int .i64 0,.bool false,.int .i64 0,.int .i64 0,.int .i64 0,.int .i64 0,.slice none 0 0,.bool false,.bool false,.bool false,.bool false,.bool false,.bool false,.bool false] 60) _ rfl
 obtain⟨W1,hW1⟩: ∃W1,W1=w.alloc (.cells #[.int .i64 0,.int .i64 0,.bool false,.int .i64 0,.int .i64 0,.int .i64 0,.int .i64 0,.slice none 0 0,.bool false,.bool false,.bool false,.bool false,.bool false,.bool false,.bool false] 60):=⟨_,rfl⟩
 rw[<-hW1] at hb k
 have HB:=hid hb
 have c0:=cell_at k 0
 have c1:=cell_at k 1
 have c2:=cell_at k 2
 have c3:=cell_at k 3
 have c4:=cell_at k 4
 have c5:=cell_at k 5
 have c6:=cell_at k 6
 have c7:=cell_at k 7
 have c8:=cell_at k 8
 have c9:=cell_at k 9
 have c10:=cell_at k 10
 have c11:=cell_at k 11
 have c12:=cell_at k 12
 have c13:=cell_at k 13
 have c14:=cell_at k 14
 simp at c0 c1 c2 c3 c4 c5 c6 c7 c8 c9 c10 c11 c12 c13 c14
 have cf:=frozen_at k
 clear k hb
 go_enter Try.func36,Try.ntmps36
 go_upto_region 1 with fail
 rw[<-hW1]
 clear hW1
 go_wp2
 refine bodyPost_ret (by simp [results,Try.results36,go_sem,c0,c1,c2,c3,c4,c5,c6,c7,c8,c9,c10,c11,c12,c13,c14]<;>rfl) rfl ⟨zeroPC,rfl,rfl,OwnP.zero _ _,?_⟩
 exact(((((((((((((((HB.out.setCell (p:=⟨w.heap.size,0,none⟩) (Nat.le_refl _) _).setCell (p:=⟨w.heap.size,1,none⟩) (Nat.le_refl _) _).setCell (p:=⟨w.heap.size,2,none⟩) (Nat.le_refl _) _).setCell (p:=⟨w.heap.size,3,none⟩) (Nat.le_refl _) _).setCell (p:=⟨w.heap.size,4,none⟩) (Nat.le_refl _) _).setCell (p:=⟨w.heap.size,5,none⟩) (Nat.le_refl _) _).setCell (p:=⟨w.heap.size,6,none⟩) (Nat.le_refl _) _).setCell (p:=⟨w.heap.size,7,none⟩) (Nat.le_refl _) _).setCell (p:=⟨w.heap.size,8,none⟩) (Nat.le_refl _) _).setCell (p:=⟨w.heap.size,9,none⟩) (Nat.le_refl _) _).setCell (p:=⟨w.heap.size,10,none⟩) (Nat.le_refl _) _).setCell (p:=⟨w.heap.size,11,none⟩) (Nat.le_refl _) _).setCell (p:=⟨w.heap.size,12,none⟩) (Nat.le_refl _) _).setCell (p:=⟨w.heap.size,13,none⟩) (Nat.le_refl _) _).setCell (p:=⟨w.heap.size,14,none⟩) (Nat.le_refl _) _)
set_option maxHeartbeats 4000000 in
theorem Find_any (g m:Nat) (s:LrnV) (t:Int) (w:World) (h:HasD w g m s) (hs:GoodN s) (ht: -9223372036854775808<=t):Calls Try.prog 36 #[.pointer (some ⟨g,0,none⟩),.int .i64 t] w (Finds m (findP s t) w):=by
 have hz:=fun w=>run_zeroL zeroVt w
 have hb:=newAlloc w (.cells #[.int .i64 0,.int .i64 0,.bool false,.int .i64 0,.int .i64 0,.int .i64 0,.int .i64 0,.slice none 0 0,.bool false,.bool false,.bool false,.bool false,.bool false,.bool false,.bool false] 60)
 have k:=alloc_atB w (.cells #[.int .i64 0,.int .i64 0,.bool false,.int .i64 0,.int .i64 0,.int .i64 0,.int .i64 0,.slice none 0 0,.bool false,.bool false,.bool false,.bool false,.bool false,.bool false,.bool false] 60) _ rfl
 obtain⟨W1,hW1⟩: ∃W1,W1=w.alloc (.cells #[.int .i64 0,.int .i64 0,.bool false,.int .i64 0,.int .i64 0,.int .i64 0,.int .i64 0,.slice none 0 0,.bool false,.bool false,.bool false,.bool false,.bool false,.bool false,.bool false] 60):=⟨_,rfl⟩
 rw[<-hW1] at hb k
 have HB:=hid hb
 have HH:=hid h
 have c0:=cell_at k 0
 have c1:=cell_at k 1
 have c2:=cell_at k 2
 have c3:=cell_at k 3
 have c4:=cell_at k 4
 have c5:=cell_at k 5
 have c6:=cell_at k 6
 have c7:=cell_at k 7
 have c8:=cell_at k 8
 have c9:=cell_at k 9
 have c10:=cell_at k 10
 have c11:=cell_at k 11
 have c12:=cell_at k 12
 have c13:=cell_at k 13
 have c14:=cell_at k 14
 simp at c0 c1 c2 c3 c4 c5 c6 c7 c8 c9 c10 c11 c12 c13 c14
 have cf:=frozen_at k
 have a1:=(h.later hb).c1
 have HG:=hid hs
 have hd0:=hs.d0
 have hd1:=hs.d1
 have e9:IntKind.i64.wrap (s.done+9)=s.done+9:=by rw[IntKind.wrap_i64];omega
 clear k hb h hs
 by_cases h1:t<=s.done
 ·have d1:decide (t<=s.done)=true:=decide_eq_true h1
  rw[findP_out HG.out (.inl h1)]
  clear h1 hd0 hd1 ht
  go_enter Try.func36,Try.ntmps36
  go_upto_region 1 with fail
  rw[<-hW1]
  clear hW1
  go_wp2
  refine bodyPost_ret (by simp [results,Try.results36,go_sem,c0,c1,c2,c3,c4,c5,c6,c7,c8,c9,c10,c11,c12,c13,c14]<;>rfl) rfl ⟨zeroPC,rfl,rfl,OwnP.zero _ _,?_⟩
  exact(((((((((((((((HB.out.setCell (p:=⟨w.heap.size,0,none⟩) (Nat.le_refl _) _).setCell (p:=⟨w.heap.size,1,none⟩) (Nat.le_refl _) _).setCell (p:=⟨w.heap.size,2,none⟩) (Nat.le_refl _) _).setCell (p:=⟨w.heap.size,3,none⟩) (Nat.le_refl _) _).setCell (p:=⟨w.heap.size,4,none⟩) (Nat.le_refl _) _).setCell (p:=⟨w.heap.size,5,none⟩) (Nat.le_refl _) _).setCell (p:=⟨w.heap.size,6,none⟩) (Nat.le_refl _) _).setCell (p:=⟨w.heap.size,7,none⟩) (Nat.le_refl _) _).setCell (p:=⟨w.heap.size,8,none⟩) (Nat.le_refl _) _).setCell (p:=⟨w.heap.size,9,none⟩) (Nat.le_refl _) _).setCell (p:=⟨w.heap.size,10,none⟩) (Nat.le_refl _) _).setCell (p:=⟨w.heap.size,11,none⟩) (Nat.le_refl _) _).setCell (p:=⟨w.heap.size,12,none⟩) (Nat.le_refl _) _).setCell (p:=⟨w.heap.size,13,none⟩) (Nat.le_refl _) _).setCell (p:=⟨w.heap.size,14,none⟩) (Nat.le_refl _) _)
 have d1:decide (t<=s.done)=false:=decide_eq_false h1
 by_cases h2:s.done+9<t
 ·have d2:decide (s.done+9<t)=true:=decide_eq_true h2
  rw[findP_out HG.out (.inr h2)]
  clear h1 h2 hd0 hd1 ht
  go_enter Try.func36,Try.ntmps36
  go_upto_region 1 with fail
  rw[<-hW1]
  clear hW1
  go_wp2
  refine bodyPost_ret (by simp [results,Try.results36,go_sem,c0,c1,c2,c3,c4,c5,c6,c7,c8,c9,c10,c11,c12,c13,c14]<;>rfl) rfl ⟨zeroPC,rfl,rfl,OwnP.zero _ _,?_⟩
  exact(((((((((((((((HB.out.setCell (p:=⟨w.heap.size,0,none⟩) (Nat.le_refl _) _).setCell (p:=⟨w.heap.size,1,none⟩) (Nat.le_refl _) _).setCell (p:=⟨w.heap.size,2,none⟩) (Nat.le_refl _) _).setCell (p:=⟨w.heap.size,3,none⟩) (Nat.le_refl _) _).setCell (p:=⟨w.heap.size,4,none⟩) (Nat.le_refl _) _).setCell (p:=⟨w.heap.size,5,none⟩) (Nat.le_refl _) _).setCell (p:=⟨w.heap.size,6,none⟩) (Nat.le_refl _) _).setCell (p:=⟨w.heap.size,7,none⟩) (Nat.le_refl _) _).setCell (p:=⟨w.heap.size,8,none⟩) (Nat.le_refl _) _).setCell (p:=⟨w.heap.size,9,none⟩) (Nat.le_refl _) _).setCell (p:=⟨w.heap.size,10,none⟩) (Nat.le_refl _) _).setCell (p:=⟨w.heap.size,11,none⟩) (Nat.le_refl _) _).setCell (p:=⟨w.heap.size,12,none⟩) (Nat.le_refl _) _).setCell (p:=⟨w.heap.size,13,none⟩) (Nat.le_refl _) _).setCell (p:=⟨w.heap.size,14,none⟩) (Nat.le_refl _) _)
 have d2:decide (s.done+9<t)=false:=decide_eq_false h2
 obtain⟨p,hp⟩: ∃p:Nat,t % 9=(p:Int):=⟨(t % 9).toNat,by omega⟩
 have hp9:p<9:=by omega
 have ht9:t.tmod 9=(p:Int):=by rw[Int.tmod_eq_emod_of_nonneg (by omega)];exact hp
 have q0:(0:Int)<=(p:Int):=by omega
 have q9:(p:Int)<9:=by omega
 rw[findP_in HG.out (by omega) (by omega) p hp]
 obtain⟨x,hx,hox,hc⟩:=HH.out.plc p hp9
 have HX:=hid hx
 have HO:=hid hox
 have hc:=hc W1 HB.out
 obtain⟨x1,x2,x3,⟨x4,x5,x6,x7,x8,x9⟩,xa,xc⟩:=x
 have m0:W1.cell? ⟨g,2+p*15,none⟩=some (.int .i64 x1):=hc 0 (by omega)
 have m1:W1.cell? ⟨g,2+p*15+1,none⟩=some (.int .i64 x2):=hc 1 (by omega)
 have m2:W1.cell? ⟨g,2+p*15+2,none⟩=some (.bool x4):=hc 2 (by omega)
 have m3:W1.cell? ⟨g,2+p*15+3,none⟩=some (.int .i64 x5):=hc 3 (by omega)
 have m4:W1.cell? ⟨g,2+p*15+4,none⟩=some (.int .i64 x6):=hc 4 (by omega)
 have m5:W1.cell? ⟨g,2+p*15+5,none⟩=some (.int .i64 x7):=hc 5 (by omega)
 have m6:W1.cell? ⟨g,2+p*15+6,none⟩=some (.int .i64 x8):=hc 6 (by omega)
 have m7:W1.cell? ⟨g,2+p*15+7,none⟩=some (.slice xa x9.length xc):=hc 7 (by omega)
 have m8:W1.cell? ⟨g,2+p*15+8,none⟩=some (.bool (inW x3 0)):=hc 8 (by omega)
 have m9:W1.cell? ⟨g,2+p*15+9,none⟩=some (.bool (inW x3 1)):=hc 9 (by omega)
 have m10:W1.cell? ⟨g,2+p*15+10,none⟩=some (.bool (inW x3 2)):=hc 10 (by omega)
 have m11:W1.cell? ⟨g,2+p*15+11,none⟩=some (.bool (inW x3 3)):=hc 11 (by omega)
 have m12:W1.cell? ⟨g,2+p*15+12,none⟩=some (.bool (inW x3 4)):=hc 12 (by omega)
 have m13:W1.cell? ⟨g,2+p*15+13,none⟩=some (.bool (inW x3 5)):=hc 13 (by omega)
 have m14:W1.cell? ⟨g,2+p*15+14,none⟩=some (.bool (inW x3 6)):=hc 14 (by omega)
 clear h1 h2 hd0 hd1 ht hp hp9 hx hox hc
 obtain⟨y0,hy0⟩: ∃y,y=inW x3 0:=⟨_,rfl⟩
 rw[<-hy0] at m8
 obtain⟨y1,hy1⟩: ∃y,y=inW x3 1:=⟨_,rfl⟩
 rw[<-hy1] at m9
 obtain⟨y2,hy2⟩: ∃y,y=inW x3 2:=⟨_,rfl⟩
 rw[<-hy2] at m10
 obtain⟨y3,hy3⟩: ∃y,y=inW x3 3:=⟨_,rfl⟩
 rw[<-hy3] at m11
 obtain⟨y4,hy4⟩: ∃y,y=inW x3 4:=⟨_,rfl⟩
 rw[<-hy4] at m12
 obtain⟨y5,hy5⟩: ∃y,y=inW x3 5:=⟨_,rfl⟩
 rw[<-hy5] at m13
 obtain⟨y6,hy6⟩: ∃y,y=inW x3 6:=⟨_,rfl⟩
 rw[<-hy6] at m14
 have HY:Hid (y0=inW x3 0/\y1=inW x3 1/\y2=inW x3 2/\y3=inW x3 3/\y4=inW x3 4/\y5=inW x3 5/\y6=inW x3 6):=hid ⟨hy0,hy1,hy2,hy3,hy4,hy5,hy6⟩
 clear hy0 hy1 hy2 hy3 hy4 hy5 hy6
 go_enter Try.func36,Try.ntmps36
 go_upto_region 1 with fail
 rw[<-hW1]
 clear hW1
 go_wp2
 refine bodyPost_ret (by simp [results,Try.results36,go_sem,c0,c1,c2,c3,c4,c5,c6,c7,c8,c9,c10,c11,c12,c13,c14]<;>rfl) rfl ⟨⟨x1,x2,x3,⟨x4,x5,x6,x7,x8,x9⟩,xa,xc⟩,?_,HX.out,?_,?_⟩
 ·obtain⟨rfl,rfl,rfl,rfl,rfl,rfl,rfl⟩:=HY.out
  rfl
 ·exact HO.out.later (((((((((((((((HB.out.setCell (p:=⟨w.heap.size,0,none⟩) (Nat.le_refl _) _).setCell (p:=⟨w.heap.size,1,none⟩) (Nat.le_refl _) _).setCell (p:=⟨w.heap.size,2,none⟩) (Nat.le_refl _) _).setCell (p:=⟨w.heap.size,3,none⟩) (Nat.le_refl _) _).setCell (p:=⟨w.heap.size,4,none⟩) (Nat.le_refl _) _).setCell (p:=⟨w.heap.size,5,none⟩) (Nat.le_refl _) _).setCell (p:=⟨w.heap.size,6,none⟩) (Nat.le_refl _) _).setCell (p:=⟨w.heap.size,7,none⟩) (Nat.le_refl _) _).setCell (p:=⟨w.heap.size,8,none⟩) (Nat.le_refl _) _).setCell (p:=⟨w.heap.size,9,none⟩) (Nat.le_refl _) _).setCell (p:=⟨w.heap.size,10,none⟩) (Nat.le_refl _) _).setCell (p:=⟨w.heap.size,11,none⟩) (Nat.le_refl _) _).setCell (p:=⟨w.heap.size,12,none⟩) (Nat.le_refl _) _).setCell (p:=⟨w.heap.size,13,none⟩) (Nat.le_refl _) _).setCell (p:=⟨w.heap.size,14,none⟩) (Nat.le_refl _) _)
 ·exact(((((((((((((((HB.out.setCell (p:=⟨w.heap.size,0,none⟩) (Nat.le_refl _) _).setCell (p:=⟨w.heap.size,1,none⟩) (Nat.le_refl _) _).setCell (p:=⟨w.heap.size,2,none⟩) (Nat.le_refl _) _).setCell (p:=⟨w.heap.size,3,none⟩) (Nat.le_refl _) _).setCell (p:=⟨w.heap.size,4,none⟩) (Nat.le_refl _) _).setCell (p:=⟨w.heap.size,5,none⟩) (Nat.le_refl _) _).setCell (p:=⟨w.heap.size,6,none⟩) (Nat.le_refl _) _).setCell (p:=⟨w.heap.size,7,none⟩) (Nat.le_refl _) _).setCell (p:=⟨w.heap.size,8,none⟩) (Nat.le_refl _) _).setCell (p:=⟨w.heap.size,9,none⟩) (Nat.le_refl _) _).setCell (p:=⟨w.heap.size,10,none⟩) (Nat.le_refl _) _).setCell (p:=⟨w.heap.size,11,none⟩) (Nat.le_refl _) _).setCell (p:=⟨w.heap.size,12,none⟩) (Nat.le_refl _) _).setCell (p:=⟨w.heap.size,13,none⟩) (Nat.le_refl _) _).setCell (p:=⟨w.heap.size,14,none⟩) (Nat.le_refl _) _)
end Ln
end Go.Proofs.Ytbcnednhfmchpaa

/- Contracts of package learn: who, copyOf. -/
set_option linter.unusedVariables false
set_option maxRecDepth 8000
set_option linter.unusedSimpArgs false
namespace Go.Proofs.Ytbcnednhfmchpaa
open Lib (hid)
open Go.RowKit
namespace Ln
open Cm

theorem boolP (i:Nat) (vs:Array Value) (w:World) (h:i<7) (v:Value) (hv:vs[i]?=some v) (hs:vs.size=7):(Instr.index 53 (.agg vs) (.int .i64 (i:Int))).run Try.prog w= .ok v w:=by
 have h1:(0:Int)<=(i:Int)/\(i:Int)<((7:Nat):Int):=by omega
 have hu:(underlying 53).run Try.prog w= .ok (.array 7 4) w:=run_underlying Try.underlying53 w
 have hsz:(sizeOf 4).run Try.prog w= .ok 1 w:=by kernel_rfl
 have hag:(isAgg 4).run Try.prog w= .ok false w:=by kernel_rfl
 simp only[Instr.index,asIntOf,Sem.run_bind,Sem.run_pure,Result.andThen_ok,hu,if_pos h1,part,hsz,hag,Int.toNat_natCast]
 simp [hv]
theorem index_bools (b0 b1 b2 b3 b4 b5 b6:Bool) (i:Nat) (hi:i<7) (w:World):
  (Instr.index 53 (.agg #[.bool b0,.bool b1,.bool b2,.bool b3,.bool b4,.bool b5,.bool b6]) (.int .i64 (i:Int))).run Try.prog w= .ok (.bool (([b0,b1,b2,b3,b4,b5,b6])[i]'(by simpa using hi))) w:=by
 refine boolP i _ w hi _ ?_ rfl
 match i,hi with
 | 0,_=>rfl
 | 1,_=>rfl
 | 2,_=>rfl
 | 3,_=>rfl
 | 4,_=>rfl
 | 5,_=>rfl
 | 6,_=>rfl
theorem inW_at (w:List Int) (i:Nat) (hi:i<7):([inW w 0,inW w 1,inW w 2,inW w 3,inW w 4,inW w 5,inW w 6])[i]'(by simpa using hi)=inW w i:=by
 match i,hi with
 | 0,_=>rfl
 | 1,_=>rfl
 | 2,_=>rfl
 | 3,_=>rfl
 | 4,_=>rfl
 | 5,_=>rfl
 | 6,_=>rfl
def TellsW (l:List Int) (w:World) (e:Ending) (w':World):Prop:= ∃a c,e= .returned (.slice a l.length c)/\w'.ownsRow w.heap.size 3 1 (.slice a l.length c) l.length (flatX cellsI l)/\Below w.heap.size w w'
set_option maxHeartbeats 4000000 in
theorem Who_any (x:VotC) (w:World):Calls Try.prog 37 #[votVal x] w (TellsW (whoK x.who 7) w):=by
 obtain⟨x1,x2,x3,⟨x4,x5,x6,x7,x8,x9⟩,xa,xc⟩:=x
 have hb:=newAlloc w (.cells #[.int .i64 x1,.int .i64 x2,.bool x4,.int .i64 x5,.int .i64 x6,.int .i64 x7,.int .i64 x8,.slice xa x9.length xc,.bool (inW x3 0),.bool (inW x3 1),.bool (inW x3 2),.bool (inW x3 3),.bool (inW x3 4),.bool (inW x3 5),.bool (inW x3 6)] 60)
 have k:=alloc_atB w (.cells #[.int .i64 x1,.int .i64 x2,.bool x4,.int .i64 x5,.int .i64 x6,.int .i64 x7,.int .i64 x8,.slice xa x9.length xc,.bool (inW x3 0),.bool (inW x3 1),.bool (inW x3 2),.bool (inW x3 3),.bool (inW x3 4),.bool (inW x3 5),.bool (inW x3 6)] 60) _ rfl
 obtain⟨W1,hW1⟩: ∃W1,W1=w.alloc (.cells #[.int .i64 x1,.int .i64 x2,.bool x4,.int .i64 x5,.int .i64 x6,.int .i64 x7,.int .i64 x8,.slice xa x9.length xc,.bool (inW x3 0),.bool (inW x3 1),.bool (inW x3 2),.bool (inW x3 3),.bool (inW x3 4),.bool (inW x3 5),.bool (inW x3 6)] 60):=⟨_,rfl⟩
 rw[<-hW1] at hb k
 have HB:=hid hb
 have c8:=cell_at k 8
 have c9:=cell_at k 9
 have c10:=cell_at k 10
 have c11:=cell_at k 11
 have c12:=cell_at k 12
 have c13:=cell_at k 13
 have c14:=cell_at k 14
 simp at c8 c9 c10 c11 c12 c13 c14
 have HX:Hid (∀(i:Nat) (hi:i<7) (w:World),(Instr.index 53 (.agg #[.bool (inW x3 0),.bool (inW x3 1),.bool (inW x3 2),.bool (inW x3 3),.bool (inW x3 4),.bool (inW x3 5),.bool (inW x3 6)]) (.int .i64 (i:Int))).run Try.prog w= .ok (.bool (inW x3 i)) w):=hid fun i hi w=>by
  rw[index_bools _ _ _ _ _ _ _ i hi w,inW_at x3 i hi]
 obtain⟨i0,hi0,hz0,hz1,hz2⟩:=info_partsS infoJ
 have hbs:=hb.size
 clear hb k
 unfold votVal VotC.u
 dsimp only
 obtain⟨y0,hy0⟩: ∃y,y=inW x3 0:=⟨_,rfl⟩
 obtain⟨y1,hy1⟩: ∃y,y=inW x3 1:=⟨_,rfl⟩
 obtain⟨y2,hy2⟩: ∃y,y=inW x3 2:=⟨_,rfl⟩
 obtain⟨y3,hy3⟩: ∃y,y=inW x3 3:=⟨_,rfl⟩
 obtain⟨y4,hy4⟩: ∃y,y=inW x3 4:=⟨_,rfl⟩
 obtain⟨y5,hy5⟩: ∃y,y=inW x3 5:=⟨_,rfl⟩
 obtain⟨y6,hy6⟩: ∃y,y=inW x3 6:=⟨_,rfl⟩
 rw[<-hy0,<-hy1,<-hy2,<-hy3,<-hy4,<-hy5,<-hy6] at hW1 HX ⊢
 rw[<-hy0] at c8
 rw[<-hy1] at c9
 rw[<-hy2] at c10
 rw[<-hy3] at c11
 rw[<-hy4] at c12
 rw[<-hy5] at c13
 rw[<-hy6] at c14
 clear hy0 hy1 hy2 hy3 hy4 hy5 hy6
 go_enter Try.func37,Try.ntmps37
 go_upto_region 1 with fail
 rw[<-hW1]
 clear hW1
 go_wp2
 go_loopw [3,4,5,8] (fun v _ _ i wr=> ∃k:Nat,k<=7/\i= .int .i64 (k:Int)/\Hid (wr.ownsRow w.heap.size 3 1 v (whoK x3 k).length (flatX cellsI (whoK x3 k)))/\Hid (Below w.heap.size w wr)) (fun _ _ _ i _=>7 - (intOf i).toNat)
 case atStart=>exact⟨0,by omega,rfl,hid (World.ownsRow_nil _ _ _ _),HB⟩
 case round=>
  obtain⟨k,hk,rfl,HO,HBR⟩:=hrel
  have hbr:=HBR.out.size
  by_cases hlt:k<7
  ·have hix:=HX.out k hlt wr
   have HS:=hid (whoK_succ x3 k)
   have hlen:=whoK_len x3 k
   generalize inW x3 k=v at hix HS
   generalize whoK x3 k=M at HO HS hlen
   cases v
   ·have HN:=HS.out
    rw[if_neg Bool.false_ne_true] at HN
    have HN:=hid HN
    clear HS
    go_wp2
    go_roundw
    case rel=>exact⟨k+1,by omega,by go_num,by rw[HN.out];exact HO,HBR⟩
    case measure=>simp [intOf];omega
   ·have HN:=HS.out
    rw[if_pos rfl] at HN
    have HN:=hid HN
    clear HS
    obtain⟨ma,mc,hmv⟩:=Rw.own_form HO.out
    subst hmv
    go_wp2_with (at_builtin;refine wpList_append_one cellsI_length (by omega) rfl _ _ 45 rfl 3 i0 _ 8 Try.underlying45 hi0 hz0 hz1 hz2 rfl #[.int .i64 (k:Int)] (k:Int) rfl (cellsI_one _) M w.heap.size w.heap.size w (.slice ma M.length mc) rfl rfl HO.out (by unfold maxLen;omega) (by omega) hbr HBR.out (Nat.le_refl _) ?_;intro v6 w6 ho6 hb6 _;have HO6:=hid ho6;have HB6:=hid hb6;clear ho6 hb6)
    go_roundw
    case rel=>exact⟨k+1,by omega,by go_num,by rw[HN.out];exact HO6,HB6⟩
    case measure=>simp [intOf];omega
  ·obtain rfl:k=7:=by omega
   obtain⟨ma,mc,hmv⟩:=Rw.own_form HO.out
   subst hmv
   go_wp2
   go_ret
   exact⟨ma,mc,rfl,HO.out,HBR.out⟩
def batObjL (f:Bool) (v t q m:Int) (u:Value):Obj:=.cells #[.bool f,.int .i64 v,.int .i64 t,.int .i64 q,.int .i64 m,u] 38
def CopiedB (b:BatV) (w:World) (e:Ending) (w':World):Prop:= ∃a c,e= .returned (batVal b (.slice a b.reqs.length c))/\w'.ownsRow w.heap.size 73 5 (.slice a b.reqs.length c) b.reqs.length (flatX cellsR b.reqs)/\Below w.heap.size w w'
theorem infoReqL:(Try.prog.info? 73).map (fun i=>(i.zero,i.size,i.bytes))=some (some (.agg #[.int .i64 0,.int .i64 0,.int .i64 0,.int .i64 0,.string ⟨#[]⟩]),5,48):=by kernel_rfl
set_option maxHeartbeats 2000000 in
theorem CopyL_any (b:BatV) (u:Value) (w:World) (h:RdR w u b.reqs) (h3:b.reqs.length<=1000):Calls Try.prog 30 #[batVal b u] w (CopiedB b w):=by
 obtain⟨ua,uc,rfl⟩:=h.form
 obtain⟨f,v,t,q,m,l⟩:=b
 unfold batVal
 dsimp only at h h3 ⊢
 have hb1:=newAlloc w (batObjL f v t q m (.slice ua l.length uc))
 have k1:=alloc_atB w (batObjL f v t q m (.slice ua l.length uc)) _ rfl
 obtain⟨W1,hW1⟩: ∃W1,W1=w.alloc (batObjL f v t q m (.slice ua l.length uc)):=⟨_,rfl⟩
 rw[<-hW1] at hb1 k1
 have hs1:W1.heap.size=w.heap.size+1:=by rw[hW1];simp
 have hb2:=newAlloc W1 (batObjL false 0 0 0 0 (.slice none 0 0))
 have d2:=alloc_atB W1 (batObjL false 0 0 0 0 (.slice none 0 0)) _ hs1
 have k2:=cells_later k1 hb2
 obtain⟨W2,hW2⟩: ∃W2,W2=W1.alloc (batObjL false 0 0 0 0 (.slice none 0 0)):=⟨_,rfl⟩
 rw[<-hW2] at hb2 d2 k2
 have hs2:W2.heap.size=w.heap.size+2:=by rw[hW2];simp [hs1]
 have HB2:=hid (step hb1 hb2)
 have HR2:=hid (h.later (step hb1 hb2))
 have HK2:=hid k2
 have HD2:=hid d2
 have HS2:=hid hs2
 have HL:=hid h3
 have c5:=cell_at k2 5
 simp at c5
 obtain⟨i5,hi5,h50,h51,h52⟩:=info_partsS infoReqL
 clear h hb1 hb2 k1 k2 d2 h3
 unfold batObjL at hW1 hW2
 go_enter Try.func30,Try.ntmps30
 go_upto_region 1 with fail
 rw[<-hW1,<-hW2]
 clear hW1 hW2 hs1 hs2
 go_wp2_with (at_builtin;refine wpList_append_rdx cellsR_length (by omega) cellsR_one rfl _ _ 36 rfl (w.heap.size+2) 73 i5 _ 48 Try.underlying36 hi5 h50 h51 h52 rfl (.slice none 0 0) 0 [] rfl (World.ownsRow_nil _ _ _ _) _ l rfl HR2.out (by have:=HL.out;unfold maxLen;omega) (by have:=HL.out;omega) (by have:=HS2.out;omega) ?_;intro v6 w6 hown6 hg6;rw[Nat.zero_add,List.nil_append] at hown6;obtain⟨va,vc,rfl⟩:=Rw.own_form hown6;have HO6:=hid hown6;have k6:w6.heap[w.heap.size]?= _:=(hg6.block _ (get_ltB HK2.out) (fun q=>by cases q)).trans HK2.out;have d6:w6.heap[w.heap.size+1]?= _:=(hg6.block _ (get_ltB HD2.out) (fun q=>by cases q)).trans HD2.out;have HB6:Hid (Below w.heap.size w w6):=hid (HB2.out.grown hg6 (by have:=HS2.out;omega) (fun k hk=>by cases hk));clear hown6 hg6;have g0:=cell_at k6 0;have g1:=cell_at k6 1;have g2:=cell_at k6 2;have g3:=cell_at k6 3;have g4:=cell_at k6 4;have g5:=cell_at k6 5;have gf:=frozen_at k6;have e0:=cell_at d6 0;have e1:=cell_at d6 1;have e2:=cell_at d6 2;have e3:=cell_at d6 3;have e4:=cell_at d6 4;have e5:=cell_at d6 5;have ef:=frozen_at d6;simp at g0 e0 g1 e1 g2 e2 g3 e3 g4 e4 g5 e5;have HK6:=hid k6;have HD6:=hid d6;clear k6 d6 c5)
 refine bodyPost_ret (by simp [results,Try.results30,go_sem,g0,e0,g1,e1,g2,e2,g3,e3,g4,e4,g5,e5]<;>rfl) rfl ⟨va,vc,rfl,?_,?_⟩
 ·refine own_lowerX (base:=w.heap.size+2) (Rw.own_keep HO6.out fun k hk=>?_) (by omega)
  have hk1:=(Rw.own_lt HO6.out k hk).1
  have key: ∀(W:World) (g j:Nat) (u:Value),k≠g->(W.setCell ⟨g,j,none⟩ u).heap[k]?=W.heap[k]?:=fun W g j u hne=>Below.heap_setCell _ _ _ _ hne
  have n1:k≠w.heap.size+1:=by omega
  rw[key _ _ _ _ n1,key _ _ _ _ n1,key _ _ _ _ n1,key _ _ _ _ n1,key _ _ _ _ n1,key _ _ _ _ n1,key _ _ _ _ (by omega)]
 ·have h1:w.heap.size<=w.heap.size+1:=by omega
  exact((((((HB6.out.setCell (p:=⟨w.heap.size,5,none⟩) (Nat.le_refl _) _).setCell h1 _).setCell h1 _).setCell h1 _).setCell h1 _).setCell h1 _).setCell h1 _
end Ln
end Go.Proofs.Ytbcnednhfmchpaa
