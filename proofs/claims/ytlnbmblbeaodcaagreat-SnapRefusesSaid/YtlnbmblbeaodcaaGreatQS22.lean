/- Texts laid together by program. -/
import Derived.Test.YtlnbmblbeaodcaaGreatQS21
import Derived.BigQuiet
import Derived.Lib.QuietBelow
import Derived.Lib.BufferOwn
/- Contracts: package reply's GetAnswer. -/
set_option linter.unusedVariables false
set_option maxRecDepth 8000
set_option linter.unusedSimpArgs false
namespace Go.Proofs.YtlnbmblbeaodcaaGreat
open Lib (hid)
open Go.RowKit
namespace Cm

set_option maxHeartbeats 4000000 in
theorem RepGetAnswer_any (v:Value) (bs:List UInt8) (t:Int) (w:World) (h:Rd w v bs) (ht:t<=9223372036854775807):
  Calls Tryz.prog 211 #[v,.int .i64 t] w (GetsA (getA bs t) w):=by
 have hlen:=Rd.len_le h
 unfold maxLen at hlen
 rcases hB:byteOf bs t with ⟨k,t1,e1⟩
 rcases hN:numOf bs t1 with ⟨s,t2,e2⟩
 rcases hT:getP bs t2 with ⟨⟨rk,rs,rd,rl⟩,t3,e3⟩
 have b1:t1<=bs.length:=by have:=byteOf_le bs t;rw[hB] at this;exact this
 have b2:t2<=bs.length:=by have:=numOf_le bs t1;rw[hN] at this;exact this
 have C1:Hid (∀w',Below w.heap.size w w'->Calls Tryz.prog 227 #[v,.int .i64 t] w' (Three (k,t1,e1) w')):=fun w' hb=>by rw[<-hB];exact Byte_any v bs t w' (h.later hb) ht
 have C2:Hid (∀w',Below w.heap.size w w'->Calls Tryz.prog 188 #[v,.int .i64 t1] w' (Three (s,t2,e2) w')):=fun w' hb=>by rw[<-hN];exact Num_any v bs t1 w' (h.later hb) (by omega)
 have C3:Hid (∀w',Below w.heap.size w w'->Calls Tryz.prog 229 #[v,.int .i64 t2] w' (fun e w''=> ∃a p,e= .returned (.tuple #[.agg #[.int .i64 rk,.int .i64 rs,.int .i64 rd,.slice a rl.length p],.int .i64 t3,.int .i64 e3])/\w''.ownsRow (w'.heap.size+1) 141 2 (.slice a rl.length p) rl.length (gCells rl)/\Below w'.heap.size w' w'')):=fun w' hb=>by
  have:=RepGet_any v bs t2 w' (h.later hb) (by omega)
  rw[hT] at this
  refine this.mono fun e w'' q=>?_
  obtain⟨u,q1,q2,q3⟩:=q
  obtain⟨a,p,rfl⟩:=Rw.own_form q2
  exact⟨a,p,q1,q2,q3⟩
 have C4:Hid (∀x w',RdH w' x rl->Calls Tryz.prog 92 #[ansVal ⟨k,s,⟨rk,rs,rd,rl⟩⟩ x] w' (SaysB (mayA ⟨k,s,⟨rk,rs,rd,rl⟩⟩) w')):=fun x w' hx=>RepMayAnswer_any _ x w' hx
 unfold ansVal at C4
 dsimp only at C4
 rw[getA_told bs t hB hN hT]
 clear h hB hN hT b1 b2 hlen ht
 by_cases z1:e1≠0
 ·have d1:(e1==0)=false:=by simpa using z1
  rw[if_pos z1]
  go_enter Tryz.func211,Tryz.ntmps211
  go_wp2_with (first
   | (go_at_call 227;refine(C1.out _ (newAlloc _ _)).mono ?_;rintro e w1 ⟨rfl,hb1⟩;have B1:=step (newAlloc w _) hb1;obtain⟨c0,c1,c2,c3,c4,c5⟩:=box6 hb1;have f0:=free6 hb1))
  refine bodyPost_ret (by simp [results,Tryz.results211,go_sem,c0,c1,c2,c3,c4,c5]<;>rfl) rfl (GetsA.zeroed rfl (set6 B1 _ _ _ _ _ _))
 rw[if_neg z1]
 obtain rfl:e1=0:=by omega
 clear z1
 by_cases z2:e2≠0
 ·have d1:(e2==0)=false:=by simpa using z2
  rw[if_pos z2]
  go_enter Tryz.func211,Tryz.ntmps211
  go_wp2_with (first
   | (go_at_call 227;refine(C1.out _ (newAlloc _ _)).mono ?_;rintro e w1 ⟨rfl,hb1⟩;have B1:=step (newAlloc w _) hb1;obtain⟨c0,c1,c2,c3,c4,c5⟩:=box6 hb1;have f0:=free6 hb1)
   | (go_at_call 188;refine(C2.out _ B1).mono ?_;rintro e w2 ⟨rfl,hb2⟩;have B2:=step B1 hb2;have hb2:=step hb1 hb2;obtain⟨c0,c1,c2,c3,c4,c5⟩:=box6 hb2;have f0:=free6 hb2))
  refine bodyPost_ret (by simp [results,Tryz.results211,go_sem,c0,c1,c2,c3,c4,c5]<;>rfl) rfl (GetsA.zeroed rfl (set6 B2 _ _ _ _ _ _))
 rw[if_neg z2]
 obtain rfl:e2=0:=by omega
 clear z2
 by_cases z3:e3≠0
 ·have d1:(e3==0)=false:=by simpa using z3
  rw[if_pos z3]
  go_enter Tryz.func211,Tryz.ntmps211
  go_wp2_with (first
   | (go_at_call 227;refine(C1.out _ (newAlloc _ _)).mono ?_;rintro e w1 ⟨rfl,hb1⟩;have B1:=step (newAlloc w _) hb1;obtain⟨c0,c1,c2,c3,c4,c5⟩:=box6 hb1;have f0:=free6 hb1)
   | (go_at_call 188;refine(C2.out _ B1).mono ?_;rintro e w2 ⟨rfl,hb2⟩;have B2:=step B1 hb2;have hb2:=step hb1 hb2;obtain⟨c0,c1,c2,c3,c4,c5⟩:=box6 hb2;have f0:=free6 hb2)
   | (go_at_call 229;refine(C3.out _ B2).mono ?_;rintro e w3 ⟨a3,p3,rfl,ho3,hb3⟩;have HO3:=hid ho3;have HR3:=hid (RdH.own ho3);clear ho3;have B3:=stepAlloc (step B2 hb3) (.cells #[.int .i64 rk,.int .i64 rs,.int .i64 rd,.slice a3 rl.length p3] 36);have hb3:=stepAlloc (step hb2 hb3) (.cells #[.int .i64 rk,.int .i64 rs,.int .i64 rd,.slice a3 rl.length p3] 36);obtain⟨c0,c1,c2,c3,c4,c5⟩:=box6 hb3;have f0:=free6 hb3))
  refine bodyPost_ret (by simp [results,Tryz.results211,go_sem,c0,c1,c2,c3,c4,c5]<;>rfl) rfl (GetsA.zeroed rfl (set6 B3 _ _ _ _ _ _))
 rw[if_neg z3]
 obtain rfl:e3=0:=by omega
 clear z3
 cases hm:mayA ⟨k,s,⟨rk,rs,rd,rl⟩⟩
 ·have HM:=hid hm
  clear hm
  go_enter Tryz.func211,Tryz.ntmps211
  go_wp2_with (first
   | (go_at_call 227;refine(C1.out _ (newAlloc _ _)).mono ?_;rintro e w1 ⟨rfl,hb1⟩;have B1:=step (newAlloc w _) hb1;obtain⟨c0,c1,c2,c3,c4,c5⟩:=box6 hb1;have f0:=free6 hb1)
   | (go_at_call 188;refine(C2.out _ B1).mono ?_;rintro e w2 ⟨rfl,hb2⟩;have B2:=step B1 hb2;have hb2:=step hb1 hb2;obtain⟨c0,c1,c2,c3,c4,c5⟩:=box6 hb2;have f0:=free6 hb2)
   | (go_at_call 229;refine(C3.out _ B2).mono ?_;rintro e w3 ⟨a3,p3,rfl,ho3,hb3⟩;have HO3:=hid ho3;have HR3:=hid (RdH.own ho3);clear ho3;have B3:=stepAlloc (step B2 hb3) (.cells #[.int .i64 rk,.int .i64 rs,.int .i64 rd,.slice a3 rl.length p3] 36);have hb3:=stepAlloc (step hb2 hb3) (.cells #[.int .i64 rk,.int .i64 rs,.int .i64 rd,.slice a3 rl.length p3] 36);obtain⟨c0,c1,c2,c3,c4,c5⟩:=box6 hb3;have f0:=free6 hb3)
   | (go_at_call 92;refine(C4.out _ _ (HR3.out.later (stepAlloc (newAlloc _ _) _))).mono ?_;rw[HM.out];rintro e w4 ⟨rfl,hb4⟩;have B4:=step (stepAlloc B3 _) hb4;obtain⟨g0,g1,g2,g3,g4,g5⟩:=box6 hb4;simp at g0 g1 g2 g3 g4 g5;have hb4':=step (stepAlloc (newAlloc _ _) _) hb4;have hb4:=step (stepAlloc hb3 _) hb4;obtain⟨c0,c1,c2,c3,c4,c5⟩:=box6 hb4;have f0:=free6 hb4))
  refine bodyPost_ret (by simp [results,Tryz.results211,go_sem,c0,c1,c2,c3,c4,c5]<;>rfl) rfl (GetsA.zeroed rfl (set6 B4 _ _ _ _ _ _))
 ·have HM:=hid hm
  clear hm
  go_enter Tryz.func211,Tryz.ntmps211
  go_wp2_with (first
   | (go_at_call 227;refine(C1.out _ (newAlloc _ _)).mono ?_;rintro e w1 ⟨rfl,hb1⟩;have B1:=step (newAlloc w _) hb1;obtain⟨c0,c1,c2,c3,c4,c5⟩:=box6 hb1;have f0:=free6 hb1)
   | (go_at_call 188;refine(C2.out _ B1).mono ?_;rintro e w2 ⟨rfl,hb2⟩;have B2:=step B1 hb2;have hb2:=step hb1 hb2;obtain⟨c0,c1,c2,c3,c4,c5⟩:=box6 hb2;have f0:=free6 hb2)
   | (go_at_call 229;refine(C3.out _ B2).mono ?_;rintro e w3 ⟨a3,p3,rfl,ho3,hb3⟩;have HO3:=hid ho3;have HR3:=hid (RdH.own ho3);clear ho3;have B3:=stepAlloc (step B2 hb3) (.cells #[.int .i64 rk,.int .i64 rs,.int .i64 rd,.slice a3 rl.length p3] 36);have hb3:=stepAlloc (step hb2 hb3) (.cells #[.int .i64 rk,.int .i64 rs,.int .i64 rd,.slice a3 rl.length p3] 36);obtain⟨c0,c1,c2,c3,c4,c5⟩:=box6 hb3;have f0:=free6 hb3)
   | (go_at_call 92;refine(C4.out _ _ (HR3.out.later (stepAlloc (newAlloc _ _) _))).mono ?_;rw[HM.out];rintro e w4 ⟨rfl,hb4⟩;have B4:=step (stepAlloc B3 _) hb4;obtain⟨g0,g1,g2,g3,g4,g5⟩:=box6 hb4;simp at g0 g1 g2 g3 g4 g5;have hb4':=step (stepAlloc (newAlloc _ _) _) hb4;have hb4:=step (stepAlloc hb3 _) hb4;obtain⟨c0,c1,c2,c3,c4,c5⟩:=box6 hb4;have f0:=free6 hb4))
  have ho9:=Rw.own_below HO3.out hb4'
  refine bodyPost_ret (by simp [results,Tryz.results211,go_sem,c0,c1,c2,c3,c4,c5]<;>rfl) rfl ⟨_,rfl,own_lower (own_set6 ho9 (by have:=B2.size;omega) _ _ _ _ _ _) (by have:=B2.size;omega),set6 B4 _ _ _ _ _ _⟩
end Cm
end Go.Proofs.YtlnbmblbeaodcaaGreat

/- The developers' writer of package snap: what stands in its box, and what is put behind it. -/
set_option linter.unusedVariables false
set_option maxRecDepth 8000
set_option linter.unusedSimpArgs false
namespace Go.Proofs.YtlnbmblbeaodcaaGreat
open Lib (hid)
open Go.RowKit
namespace Cm

theorem get_ltW {w:World} {g:Nat} {o:Obj} (h:w.heap[g]?=some o):g<w.heap.size:=(Array.getElem?_eq_some_iff.1 h).1
theorem cell_atW {w:World} {g:Nat} {cs:Array Value} {t:TypeId} (h:w.heap[g]?=some (.cells cs t)) (k:Nat):w.cell? ⟨g,k,none⟩=cs[k]?:=by simp [World.cell?,h]
theorem frozen_atW {w:World} {g:Nat} {cs:Array Value} {t:TypeId} (h:w.heap[g]?=some (.cells cs t)) (k:Nat):w.frozen? ⟨g,k,none⟩=false:=by simp [World.frozen?,h]
theorem set_atW {w:World} {g:Nat} {cs:Array Value} {t:TypeId} (h:w.heap[g]?=some (.cells cs t)) (i:Nat) (u:Value):(w.setCell ⟨g,i,none⟩ u).heap[g]?=some (.cells (cs.setIfInBounds i u) t):=by
 have hl:=get_ltW h
 have h':w.heap[g]= .cells cs t:=by simpa [hl] using h
 simp [World.setCell,h',hl,Array.getElem_modify]
structure WB (w0:World) (g:Nat) (bs:List UInt8) (w:World):Prop where
 below:Below w0.heap.size w0 w
 ge:w0.heap.size<=g
 box: ∃v,w.heap[g]?=some (.cells #[v] 104)/\w.ownsRow (g+1) 5 1 v bs.length (cellsOf bs)
def Kp (w w':World):Prop:= ∀(k:Nat) (cs:Array Value) (t:TypeId),w.heap[k]?=some (Obj.cells cs t)->t≠5->t≠104->w'.heap[k]?=some (Obj.cells cs t)
theorem Kp.of {w w':World} (h:Below w.heap.size w w'):Kp w w':=fun k cs t hk _ _=>(h.block k (get_ltW hk)).trans hk
theorem Kp.step {w w' w'':World} (h:Kp w w') (h2:Kp w' w''):Kp w w'':=fun k cs t hk h1 h3=>h2 k cs t (h k cs t hk h1 h3) h1 h3
theorem own_tagW {w:World} {base n k:Nat} {v:Value} {xs:List Value} (ho:w.ownsRow base 5 1 v n xs) (hk:v.ownBlock=some k): ∃cs,w.heap[k]?=some (.cells cs 5):=by
 rcases ho.2 with ⟨h,_⟩ | ⟨g,cap,cur,rfl,_,hh,_⟩
 ·subst h;cases hk
 ·cases hk;exact⟨cur,hh⟩
theorem WB.later {w0 w w2:World} {g:Nat} {bs:List UInt8} (h:WB w0 g bs w) (hb:Below w.heap.size w w2):WB w0 g bs w2:=by
 obtain⟨v,h1,h2⟩:=h.box
 exact⟨_root_.Go.Proofs.YtlnbmblbeaodcaaGreat.step h.below hb,h.ge,v,(hb.block g (get_ltW h1)).trans h1,Rw.own_below h2 hb⟩
theorem WB.put {w0 w w2 w3:World} {g:Nat} {bs xs:List UInt8} {u v:Value} (h:WB w0 g bs w) (hb:Below w.heap.size w w2) (hu:w2.heap[g]?=some (.cells #[u] 104)) (ho:w2.ownsRow (g+1) 5 1 u bs.length (cellsOf bs))
  (hg:w2.grownBy w3 u.ownBlock) (hv:w3.ownsRow (g+1) 5 1 v (bs.length+xs.length) (cellsOf bs++cellsOf xs)):WB w0 g (bs++xs) (w3.setCell ⟨g,0,none⟩ v)/\Kp w (w3.setCell ⟨g,0,none⟩ v):=by
 have hlt:=get_ltW hu
 have hne: ∀k,u.ownBlock=some k->g+1<=k:=fun k hk=>(Rw.own_lt ho k hk).1
 have hbox:w3.heap[g]?=some (.cells #[u] 104):=(hg.block g hlt (fun q=>by have:=hne g q.symm;omega)).trans hu
 have hB:=step h.below hb
 refine⟨⟨(hB.grown hg hB.size (fun k hk=>by have:=hne k hk;have:=h.ge;omega)).setCell (p:=⟨g,0,none⟩) h.ge v,h.ge,v,?_,?_⟩,?_⟩
 ·exact set_atW hbox 0 v
 ·rw[List.length_append,cellsOf_append]
  exact Rw.own_keep hv fun k hk=>Below.heap_setCell _ _ _ _ (by have:=(Rw.own_lt hv k hk).1;show k≠g;omega)
 ·intro k cs t hk h1 h2
  have h3:=(hb.block k (get_ltW hk)).trans hk
  have h4:w3.heap[k]?=some (.cells cs t):=(hg.block k (get_ltW h3) (fun q=>by
   obtain⟨cs',hq⟩:=own_tagW ho q.symm
   rw[h3] at hq
   cases hq
   exact h1 rfl)).trans h3
  have hkg:k≠g:=fun q=>by subst q;rw[h4] at hbox;cases hbox;exact h2 rfl
  exact(Below.heap_setCell _ _ _ _ hkg).trans h4
theorem WB.at {w0 w w2:World} {g:Nat} {bs:List UInt8} (h:WB w0 g bs w): ∃a c,w.heap[g]?=some (.cells #[.slice a bs.length c] 104)/\w.ownsRow (g+1) 5 1 (.slice a bs.length c) bs.length (cellsOf bs):=by
 obtain⟨v,h1,h2⟩:=h.box
 obtain⟨a,c,rfl⟩:=Rw.own_form h2
 exact⟨a,c,h1,h2⟩
theorem SnapPutNum (w0:World) (g:Nat) (bs:List UInt8) (w:World) (h:WB w0 g bs w) (v:Int) (h0:0<=v) (h1:v<4611686018427387904) (hl:bs.length<=1000000):
  Calls Tryz.prog 76 #[.pointer (some ⟨g,0,none⟩),.int .i64 v] w fun e w'=>e= .returned (.tuple #[])/\WB w0 g (bs++be8 v.toNat) w'/\Kp w w':=by
 obtain⟨n,rfl⟩:=Int.eq_ofNat_of_zero_le h0
 rw[Int.toNat_natCast]
 have C1:Hid (∀w,Calls Tryz.prog 143 #[.int .i64 (n:Int)] w (Row 8 (be8 n) w)):=fun w=>PutNum_row n w (by omega)
 obtain⟨a,c,hbox,hown⟩:=WB.at (w2:=w) h
 have HW:=hid h
 have HX:=hid hbox
 have HO:=hid hown
 obtain⟨i0,hi,hz0,hz1,hz2⟩:=info_parts info8
 have HN:=hid (And.intro hl h1)
 clear h hbox hown hl h1 h0
 go_enter Tryz.func76,Tryz.ntmps76
 go_upto_region 1 with (go_at_call 143;refine(C1.out _).mono ?_;rintro e w2 ⟨pg,pc,rfl,ho2,hr2,hb2⟩;have HB2:=hid hb2;have HR2:=hid hr2;have hA:=(hb2.block g (get_ltW HX.out)).trans HX.out;have HX2:=hid hA;have HO2:=hid (Rw.own_below HO.out hb2);have k0:=cell_atW hA 0;have kf:=frozen_atW hA 0;simp only[List.getElem?_toArray,List.getElem?_cons_zero] at k0;clear hA ho2 hr2 hb2)
 go_wp2_with (at_builtin;refine wpList_append_rd rfl (.tmp 15) (.tmp 16) 47 rfl (g+1) 5 i0 Tryz.underlying47 hi hz0 hz1 hz2 (.slice a bs.length c) _ _ rfl HO2.out _ (be8 n) rfl HR2.out (by have:=HN.out.1;rw[be8_length];omega) (by have:=get_ltW HX2.out;omega) ?_;intro v' w3 hown3 hgrow3;obtain⟨va,vc,rfl⟩:=Rw.own_form hown3;have HP:=hid (WB.put HW.out HB2.out HX2.out HO2.out hgrow3 hown3);have hA:=(hgrow3.block g (get_ltW HX2.out) (fun q=>by have:=(Rw.own_lt HO2.out g q.symm).1;omega)).trans HX2.out;have k0:=cell_atW hA 0;have kf:=frozen_atW hA 0;simp only[List.getElem?_toArray,List.getElem?_cons_zero] at k0;clear hA hown3 hgrow3)
 go_end0
 exact⟨rfl,HP.out⟩
end Cm
end Go.Proofs.YtlnbmblbeaodcaaGreat

/- The developers' reader of package snap: its box, one step of it. -/
set_option linter.unusedVariables false
set_option maxRecDepth 8000
set_option linter.unusedSimpArgs false
namespace Go.Proofs.YtlnbmblbeaodcaaGreat
open Lib (hid)
open Go.RowKit
namespace Cm

def FailsSn (c:Int) (e:Ending):Prop:=e= .panicked [{ v:=.iface 168 (.agg #[.int .i64 c]),recovered:=false }]
def RB (g:Nat) (v:Value) (t:Int) (w:World):Prop:=w.heap[g]?=some (.cells #[v,.int .i64 t] 171)
theorem SnapStep_ok (g:Nat) (v:Value) (t n:Int) (w:World) (h:RB g v t w):
  Calls Tryz.prog 189 #[.pointer (some ⟨g,0,none⟩),.int .i64 n,.int .i64 0] w fun e w'=>e= .returned (.tuple #[])/\w'=w.setCell ⟨g,1,none⟩ (.int .i64 n):=by
 have k0:=cell_atW h 0
 have k1:=cell_atW h 1
 have kf:=frozen_atW h 1
 simp only[List.getElem?_toArray,List.getElem?_cons_zero,List.getElem?_cons_succ] at k0 k1
 clear h
 go_enter Tryz.func189,Tryz.ntmps189
 go_wp2
 go_end0
 exact⟨rfl,rfl⟩
theorem SnapStep_bad (p:Value) (n c:Int) (w:World) (hc:c≠0):
  Calls Tryz.prog 189 #[p,.int .i64 n,.int .i64 c] w fun e w'=>FailsSn c e/\Below w.heap.size w w':=by
 have d:(c != 0)=true:=by simpa using hc
 go_enter Tryz.func189,Tryz.ntmps189
 go_wp2
 exact⟨rfl,rfl,Below.refl _ _⟩
end Cm
end Go.Proofs.YtlnbmblbeaodcaaGreat

/- The developers' reader of package snap: numbers, bytes, names, counts. -/
set_option linter.unusedVariables false
set_option maxRecDepth 8000
set_option linter.unusedSimpArgs false
namespace Go.Proofs.YtlnbmblbeaodcaaGreat
open Lib (hid)
open Go.RowKit
open Go.Sort (grow)
namespace Cm

structure RX (w0:World) (g:Nat) (v:Value) (bs:List UInt8) (t:Int) (w:World):Prop where
 rd:Rd w0 v bs
 ge:w0.heap.size<=g
 below:Below w0.heap.size w0 w
 box:RB g v t w
 top:t<=9223372036854775807
theorem RX.rd' {w0 w:World} {g:Nat} {v:Value} {bs:List UInt8} {t:Int} (h:RX w0 g v bs t w):Rd w v bs:=h.rd.later h.below
theorem RX.later {w0 w w':World} {g:Nat} {v:Value} {bs:List UInt8} {t:Int} (h:RX w0 g v bs t w) (hb:Below w.heap.size w w'):RX w0 g v bs t w':=
 ⟨h.rd,h.ge,step h.below hb,(hb.block g (get_ltW h.box)).trans h.box,h.top⟩
theorem RX.lt {w0 w:World} {g:Nat} {v:Value} {bs:List UInt8} {t:Int} (h:RX w0 g v bs t w):g<w.heap.size:=get_ltW h.box
theorem RX.go {w0 w w':World} {g:Nat} {v:Value} {bs:List UInt8} {t:Int} (h:RX w0 g v bs t w) (hb:Below w.heap.size w w') (n:Int) (hn:n<=9223372036854775807):
  RX w0 g v bs n (w'.setCell ⟨g,1,none⟩ (.int .i64 n))/\w.grownBy (w'.setCell ⟨g,1,none⟩ (.int .i64 n)) (some g):=by
 have h':=h.later hb
 exact⟨⟨h.rd,h.ge,h'.below.setCell (p:=⟨g,1,none⟩) h.ge _,set_atW h'.box 1 (.int .i64 n),hn⟩,Lib.grownBy_setB (Lib.grownBy_below (World.grownBy.refl _ _) hb) 1 _⟩
def GetsSn {α:Type} (val:α->Value) (r:Except Int (α × Int)) (w0:World) (g:Nat) (v:Value) (bs:List UInt8) (w:World) (e:Ending) (w':World):Prop:=
 match r with
 | .ok p=>e= .returned (val p.1)/\RX w0 g v bs p.2 w'/\w.grownBy w' (some g)
 | .error c=>FailsSn c e/\Below w0.heap.size w0 w'
def intV (x:Int):Value:=.int .i64 x
def strV (x:List UInt8):Value:=.string (bstr x)
theorem numOf_top {bs:List UInt8} {t:Int} (ht:t<=9223372036854775807) (hl:bs.length<=9223372036854775807):(numOf bs t).2.1<=9223372036854775807:=by
 unfold numOf
 split
 ·simp
 ·split<;>dsimp only<;>omega
theorem byteOf_top {bs:List UInt8} {t:Int} (ht:t<=9223372036854775807) (hl:bs.length<=9223372036854775807):(byteOf bs t).2.1<=9223372036854775807:=by
 unfold byteOf
 split<;>dsimp only<;>omega
theorem textOf_top {bs:List UInt8} {t m:Int} (ht:t<=9223372036854775807) (hl:bs.length<=9223372036854775807):(textOf bs t m).2.1<=9223372036854775807:=by
 unfold textOf
 split
 ·simp
 ·split
  ·simp
  ·split<;>dsimp only<;>omega
theorem SnapGetNum (w0:World) (g:Nat) (v:Value) (bs:List UInt8) (t:Int) (w:World) (h:RX w0 g v bs t w):
  Calls Tryz.prog 144 #[.pointer (some ⟨g,0,none⟩)] w (GetsSn intV (numR bs t) w0 g v bs w):=by
 have hlen:=Rd.len_le h.rd
 unfold maxLen at hlen
 have htop:=numOf_top (bs:=bs) h.top (by omega)
 have D:=hid (fun d os=>Calls.regrown_of (w:=w) (d:=d) (os:=os) (Num_any v bs t (grow (redrawn w d) os) (h.rd'.later (below_regrown w d os)) h.top))
 have HR:Hid (numR bs t=if (numOf bs t).2.2=0 then .ok ((numOf bs t).1,(numOf bs t).2.1) else .error (numOf bs t).2.2):=hid rfl
 generalize numOf bs t=q at D HR htop
 obtain⟨x,t',c⟩:=q
 dsimp only at D HR htop
 have HX:=hid h
 have HT:=hid htop
 have hb:=h.box
 have k0:=cell_atW hb 0
 have k1:=cell_atW hb 1
 simp only[List.getElem?_toArray,List.getElem?_cons_zero,List.getElem?_cons_succ] at k0 k1
 have q0:=cell_regrown k0
 have q1:=cell_regrown k1
 clear h htop hlen hb k0 k1
 go_enter Tryz.func144,Tryz.ntmps144
 go_upto_region 1 with fail
 refine wp_region_quiet_below (by kernel_rfl) (by kernel_rfl) ?_
 repeat (go_big_quiet_step (fail))
 go_big_quiet_step (exact D.out _ _)
 repeat (go_big_quiet_step (fail))
 refine wpQuiet_nil ?_
 intro _ hw'
 obtain⟨⟨dq,osq⟩,hw''⟩:=hw'
 have HB:Hid (Below w.heap.size w (grow (redrawn w dq) osq)):=hid (below_regrown w dq osq)
 rw[show(Regrown.mk dq osq).d =dq from rfl,show(Regrown.mk dq osq).os =osq from rfl] at hw''
 rw[<-hw''] at HB
 rename_i W
 clear hw'' D
 by_cases hc:c=0
 ·subst hc
  have HP:=hid (HX.out.go HB.out t' HT.out)
  have CS:=hid (SnapStep_ok g v t t' W (HX.out.later HB.out).box)
  go_wp2_with (go_at_call 189;refine CS.out.mono ?_;rintro e w2 ⟨rfl,rfl⟩)
  go_ret
  rw[HR.out]
  exact⟨rfl,HP.out.1,HP.out.2⟩
 ·have CS:=hid (SnapStep_bad (.pointer (some ⟨g,0,none⟩)) t' c W hc)
  go_wp2_with (go_at_call 189;refine CS.out.mono ?_;rintro e w2 ⟨rfl,hb2⟩)
  have hr:=HR.out
  rw[if_neg hc] at hr
  rw[hr]
  exact⟨rfl,rfl,step (HX.out.later HB.out).below hb2⟩
theorem SnapGetByte (w0:World) (g:Nat) (v:Value) (bs:List UInt8) (t:Int) (w:World) (h:RX w0 g v bs t w):
  Calls Tryz.prog 209 #[.pointer (some ⟨g,0,none⟩)] w (GetsSn intV (byteR bs t) w0 g v bs w):=by
 have hlen:=Rd.len_le h.rd
 unfold maxLen at hlen
 have htop:=byteOf_top (bs:=bs) h.top (by omega)
 have D:=hid (fun d os=>Calls.regrown_of (w:=w) (d:=d) (os:=os) (Byte_any v bs t (grow (redrawn w d) os) (h.rd'.later (below_regrown w d os)) h.top))
 have HR:Hid (byteR bs t=if (byteOf bs t).2.2=0 then .ok ((byteOf bs t).1,(byteOf bs t).2.1) else .error (byteOf bs t).2.2):=hid rfl
 generalize byteOf bs t=q at D HR htop
 obtain⟨x,t',c⟩:=q
 dsimp only at D HR htop
 have HX:=hid h
 have HT:=hid htop
 have hb:=h.box
 have k0:=cell_atW hb 0
 have k1:=cell_atW hb 1
 simp only[List.getElem?_toArray,List.getElem?_cons_zero,List.getElem?_cons_succ] at k0 k1
 have q0:=cell_regrown k0
 have q1:=cell_regrown k1
 clear h htop hlen hb k0 k1
 go_enter Tryz.func209,Tryz.ntmps209
 go_upto_region 1 with fail
 refine wp_region_quiet_below (by kernel_rfl) (by kernel_rfl) ?_
 repeat (go_big_quiet_step (fail))
 go_big_quiet_step (exact D.out _ _)
 repeat (go_big_quiet_step (fail))
 refine wpQuiet_nil ?_
 intro _ hw'
 obtain⟨⟨dq,osq⟩,hw''⟩:=hw'
 have HB:Hid (Below w.heap.size w (grow (redrawn w dq) osq)):=hid (below_regrown w dq osq)
 rw[show(Regrown.mk dq osq).d =dq from rfl,show(Regrown.mk dq osq).os =osq from rfl] at hw''
 rw[<-hw''] at HB
 rename_i W
 clear hw'' D
 by_cases hc:c=0
 ·subst hc
  have HP:=hid (HX.out.go HB.out t' HT.out)
  have CS:=hid (SnapStep_ok g v t t' W (HX.out.later HB.out).box)
  go_wp2_with (go_at_call 189;refine CS.out.mono ?_;rintro e w2 ⟨rfl,rfl⟩)
  go_ret
  rw[HR.out]
  exact⟨rfl,HP.out.1,HP.out.2⟩
 ·have CS:=hid (SnapStep_bad (.pointer (some ⟨g,0,none⟩)) t' c W hc)
  go_wp2_with (go_at_call 189;refine CS.out.mono ?_;rintro e w2 ⟨rfl,hb2⟩)
  have hr:=HR.out
  rw[if_neg hc] at hr
  rw[hr]
  exact⟨rfl,rfl,step (HX.out.later HB.out).below hb2⟩
theorem SnapGetName (w0:World) (g:Nat) (v:Value) (bs:List UInt8) (t:Int) (w:World) (h:RX w0 g v bs t w):
  Calls Tryz.prog 210 #[.pointer (some ⟨g,0,none⟩)] w (GetsSn strV ((textR 12) bs t) w0 g v bs w):=by
 have hlen:=Rd.len_le h.rd
 unfold maxLen at hlen
 have htop:=textOf_top (m:=12) (bs:=bs) h.top (by omega)
 have D:=hid (fun d os=>Calls.regrown_of (w:=w) (d:=d) (os:=os) (Text_any v bs t 12 (grow (redrawn w d) os) (h.rd'.later (below_regrown w d os)) h.top))
 have HR:Hid ((textR 12) bs t=if (textOf bs t 12).2.2=0 then .ok ((textOf bs t 12).1,(textOf bs t 12).2.1) else .error (textOf bs t 12).2.2):=hid rfl
 generalize textOf bs t 12=q at D HR htop
 obtain⟨x,t',c⟩:=q
 dsimp only at D HR htop
 have HX:=hid h
 have HT:=hid htop
 have hb:=h.box
 have k0:=cell_atW hb 0
 have k1:=cell_atW hb 1
 simp only[List.getElem?_toArray,List.getElem?_cons_zero,List.getElem?_cons_succ] at k0 k1
 have q0:=cell_regrown k0
 have q1:=cell_regrown k1
 clear h htop hlen hb k0 k1
 go_enter Tryz.func210,Tryz.ntmps210
 go_upto_region 1 with fail
 refine wp_region_quiet_below (by kernel_rfl) (by kernel_rfl) ?_
 repeat (go_big_quiet_step (fail))
 go_big_quiet_step (exact D.out _ _)
 repeat (go_big_quiet_step (fail))
 refine wpQuiet_nil ?_
 intro _ hw'
 obtain⟨⟨dq,osq⟩,hw''⟩:=hw'
 have HB:Hid (Below w.heap.size w (grow (redrawn w dq) osq)):=hid (below_regrown w dq osq)
 rw[show(Regrown.mk dq osq).d =dq from rfl,show(Regrown.mk dq osq).os =osq from rfl] at hw''
 rw[<-hw''] at HB
 rename_i W
 clear hw'' D
 by_cases hc:c=0
 ·subst hc
  have HP:=hid (HX.out.go HB.out t' HT.out)
  have CS:=hid (SnapStep_ok g v t t' W (HX.out.later HB.out).box)
  go_wp2_with (go_at_call 189;refine CS.out.mono ?_;rintro e w2 ⟨rfl,rfl⟩)
  go_ret
  rw[HR.out]
  exact⟨rfl,HP.out.1,HP.out.2⟩
 ·have CS:=hid (SnapStep_bad (.pointer (some ⟨g,0,none⟩)) t' c W hc)
  go_wp2_with (go_at_call 189;refine CS.out.mono ?_;rintro e w2 ⟨rfl,hb2⟩)
  have hr:=HR.out
  rw[if_neg hc] at hr
  rw[hr]
  exact⟨rfl,rfl,step (HX.out.later HB.out).below hb2⟩
theorem SnapGetCount (m:Int) (w0:World) (g:Nat) (v:Value) (bs:List UInt8) (t:Int) (w:World) (h:RX w0 g v bs t w):
  Calls Tryz.prog 181 #[.pointer (some ⟨g,0,none⟩),.int .i64 m] w (GetsSn intV (countR m bs t) w0 g v bs w):=by
 have C:=hid (SnapGetByte w0 g v bs t w h)
 have HR:Hid (countR m bs t=match byteR bs t with | .error e=>.error e | .ok r=>(if m<r.1 then failR 4 else pureR r.1:Rdr Int) bs r.2):=hid (by unfold countR thenR;cases byteR bs t<;>rfl)
 generalize byteR bs t=q at C HR
 clear h
 go_enter Tryz.func181,Tryz.ntmps181
 go_wp2_with fail
 cases q with
 | error c=>
  refine C.out.mono ?_
  rintro e w2 ⟨rfl,hb⟩
  have hr:=HR.out
  dsimp only at hr
  rw[hr]
  exact⟨rfl,rfl,hb⟩
 | ok p=>
  obtain⟨n,t'⟩:=p
  refine C.out.mono ?_
  rintro e w2 ⟨rfl,hx,hg⟩
  have HX:=hid hx
  have HG:=hid hg
  have hr:=HR.out
  dsimp only[intV] at hr ⊢
  have HRR:=hid hr
  clear hx hg hr HR C
  by_cases hn:m<n
  ·have d:decide (m<n)=true:=by simpa using hn
   go_wp2
   have hr:=HRR.out
   rw[if_pos hn] at hr
   rw[hr]
   exact⟨rfl,rfl,HX.out.below⟩
  ·have d:decide (m<n)=false:=by simpa using hn
   go_wp2
   go_ret
   have hr:=HRR.out
   rw[if_neg (by omega)] at hr
   rw[hr]
   exact⟨rfl,HX.out,HG.out⟩
end Cm
end Go.Proofs.YtlnbmblbeaodcaaGreat
