/- Texts laid together by program. -/
import Derived.Test.YtclcgkpfcogcdaaGreatQ24
/- Contract: slices.Insert of one memo (made from XInsL by tools/gen_insm.py). -/
set_option linter.unusedVariables false
set_option maxRecDepth 8000
set_option linter.unusedSimpArgs false
namespace Go.Proofs.YtclcgkpfcogcdaaGreat
open Lib (hid)
open Go.RowKit Go.Shelf
namespace Cm

def InsertedM (base:Nat) (m:Value) (M:List MemC) (k:Nat) (y:MemC) (w:World) (e:Ending) (w':World):Prop:=
 ∃v,e= .returned v/\w'.ownsRow base 51 6 v (M.length+1) (flatX cellsM (M.take k++y::M.drop k))/\w.grownBy w' m.ownBlock
section
variable (base : Nat) (M : List MemC) (k : Nat) (y : MemC) (b : Nat) (w : World)

theorem sizeM:(Tryz.prog.info? 51).map (·.size)=some 6:=by
 obtain⟨i1,hi',_,hz1',_⟩:=info_parts infoM
 rw[hi']
 simp [hz1']
theorem src_oneM (hy:w.heap[b]?=some (.cells #[.int .i64 y.m.client,.int .i64 y.m.seq,.int .i64 y.m.rep.code,.int .i64 y.m.rep.session,.int .i64 y.m.rep.ahead,y.hv] 51)):RdX 6 cellsM w (.slice (some ⟨b,0,none⟩) 1 1) [y]:=RdX.one hy rfl
set_option maxRecDepth 8000 in
set_option maxHeartbeats 1000000 in
theorem InsertM_end (m:Value) (hown:w.ownsRow base 51 6 m M.length (flatX cellsM M)) (h5:M.length<=1000) (hb:base<=w.heap.size) (hy:w.heap[b]?=some (.cells #[.int .i64 y.m.client,.int .i64 y.m.seq,.int .i64 y.m.rep.code,.int .i64 y.m.rep.session,.int .i64 y.m.rep.ahead,y.hv] 51)) (hk:k=M.length):
  Calls Tryz.prog 122 #[m,.int .i64 (k:Int),.slice (some ⟨b,0,none⟩) 1 1] w (InsertedM base m M k y w):=by
 subst hk
 have HR:=hid (src_oneM y b w hy)
 obtain⟨a,c,rfl⟩:=Rw.own_form hown
 have HO:=hid hown
 have hc:M.length<=c:=by
  rcases hown.2 with ⟨q,_⟩ | ⟨g,cap,cur,q,_,_,q2,_⟩
  ·injection q with _ q1 q2;omega
  ·injection q with _ q1 q3;omega
 obtain⟨i1,hi',hz0',hz1',hz2'⟩:=info_parts infoM
 have HT:Hid (flatX cellsM (M.take M.length++y::M.drop M.length)=flatX cellsM M++flatX cellsM [y]):=hid (by rw[List.take_length,List.drop_length,flatX_append])
 clear hown hy
 obtain⟨N,hN⟩: ∃N,M.length=N:=⟨_,rfl⟩
 unfold InsertedM
 rw[hN] at HT HO h5 hc ⊢
 clear hN
 generalize hF:flatX cellsM (M.take N++y::M.drop N)=F at HT ⊢
 clear hF
 generalize flatX cellsM M=FM at HT HO
 have g1:(0:Int)<=(N:Int):=by omega
 have g2:(N:Int)<=(c:Int):=by omega
 have g3:decide ((N:Int)<0)=false:=by simp
 go_enter Tryz.func122,Tryz.ntmps122
 go_wp2_with (at_builtin;refine wpList_append_rdx cellsM_length (by omega) cellsM_one rfl (.tmp 23) (.tmp 24) 24 rfl base 51 i1 _ 64 Tryz.underlying24 hi' hz0' hz1' hz2' rfl (.slice a N c) N FM rfl HO.out _ [y] rfl HR.out (by unfold maxLen;simp;omega) (by simp;omega) hb ?_;intro v1 w2 hown2 hgrow2)
 all_goals
  go_ret
  exact⟨v1,rfl,by rw[HT.out];exact hown2,by cases a<;>exact hgrow2⟩
theorem row_openM {v:Value} (h:w.ownsRow base 51 6 v M.length (flatX cellsM M)) (h0:0<M.length): ∃g c cur,v= .slice (some ⟨g,0,none⟩) M.length c/\base<=g/\w.heap[g]?=some (.cells cur 51 (0,0))/\M.length<=c/\c<=maxLen/\cur.size=c*6/\cur.toList.take (M.length*6)=flatX cellsM M:=by
 rcases h.2 with ⟨_,q⟩ | q
 ·omega
 ·exact q
set_option maxRecDepth 8000 in
set_option maxHeartbeats 2000000 in
theorem InsertM_grow (m:Value) (hown:w.ownsRow base 51 6 m M.length (flatX cellsM M)) (h5:M.length<=1000) (hb:base<=w.heap.size) (hy:w.heap[b]?=some (.cells #[.int .i64 y.m.client,.int .i64 y.m.seq,.int .i64 y.m.rep.code,.int .i64 y.m.rep.session,.int .i64 y.m.rep.ahead,y.hv] 51)) (hk:k<M.length)
  (g c:Nat) (hm:m= .slice (some ⟨g,0,none⟩) M.length c) (hroom:c<M.length+1):
  Calls Tryz.prog 122 #[m,.int .i64 (k:Int),.slice (some ⟨b,0,none⟩) 1 1] w (InsertedM base m M k y w):=by
 obtain⟨g',c',cur,hm',hbg,hcur,hc1,hc2,hc3,hc4⟩:=row_openM base M w hown (by omega)
 rw[hm] at hm'
 injection hm' with e1 e2 e3
 cases e1
 subst e3
 subst hm
 obtain rfl:c=M.length:=by omega
 unfold maxLen at hc2
 have HR:=hid (RdX.own cellsM_length hown)
 have HY:=hid (src_oneM y b w hy)
 have hgw:g<w.heap.size:=(Rw.own_lt hown g rfl).2
 have HM:Hid (flatX cellsM (M.take k++y::M.drop k)=flatX cellsM (M.take k)++(flatX cellsM [y]++flatX cellsM (M.drop k))):=hid (by
  rw[flatX_append,flatX_cons,<-flatX_cons,show y::M.drop k= [y]++M.drop k from rfl,flatX_append])
 have hA:(flatX cellsM (M.take k)).length =k*6:=by rw[flatX_length cellsM_length,List.length_take,Nat.min_eq_left (by omega)]
 have hD:(flatX cellsM (M.drop k)).length =(M.length - k)*6:=by rw[flatX_length cellsM_length,List.length_drop]
 obtain⟨i1,hi',hz0',hz1',hz2'⟩:=info_parts infoM
 have hold:(Builtin.firstCells i1.size k (.slice (some ⟨g,0,none⟩) k M.length)).run Tryz.prog w.drew= .ok (flatX cellsM (M.take k)).toArray w.drew:=by
  rw[hz1']
  exact run_firstCells_some (P:=Tryz.prog) (w:=w.drew) 6 k ⟨g,0,none⟩ k M.length _ hA (RdX.news cellsM_length (by omega) ((HR.out.take k (by omega)).later (Below.refl _ _).drew))
 have hrz: ∀ty,(Builtin.append_ #[24,3] ty #[.slice (some ⟨g,0,none⟩) k M.length,.int .i64 ((M.length+1 - k:Nat):Int)]).run Tryz.prog w= _:=fun ty=>
  Lib.run_append_grow_zeros (P:=Tryz.prog) w 24 3 ty 51 i1 _ .i64 .i64 Tryz.underlying24 Tryz.underlying3 hi' hz0' (some ⟨g,0,none⟩) k M.length _ hold (M.length+1 - k) (by omega) (by omega) (by omega) (by omega) (by rw[hz2'];omega) (by rw[hz2',show k+(M.length+1 - k)=M.length+1 by omega];exact growslice_fits (by omega) (by omega))
 rw[show k+(M.length+1 - k)=M.length+1 by omega] at hrz
 have hge:=grownCap_ge w (M.length+1) M.length 51
 have hle:=grownCap_le_maxLen w (M.length+1) M.length 51 (by unfold maxLen;omega)
 generalize grownCap w (M.length+1) M.length 51=G at hrz hge hle
 have hle':=hle
 unfold maxLen at hle'
 have hbw:b<w.heap.size:=(Array.getElem?_eq_some_iff.1 hy).1
 obtain⟨Z,hZ⟩: ∃Z:List Value,Z=(Builtin.zeroCells (Value.agg #[.int .i64 0,.int .i64 0,.int .i64 0,.int .i64 0,.int .i64 0,.slice none 0 0]).cells (M.length+1 - k)).toList ++(Builtin.zeroCells (Value.agg #[.int .i64 0,.int .i64 0,.int .i64 0,.int .i64 0,.int .i64 0,.slice none 0 0]).cells (G - (M.length+1))).toList :=⟨_,rfl⟩
 have hZl:Z.length=(G - k)*6:=by
  rw[hZ]
  simp [Builtin.zeroCells,Value.cells]
  omega
 have hZe:(flatX cellsM (M.take k)).toArray ++Builtin.zeroCells (Value.agg #[.int .i64 0,.int .i64 0,.int .i64 0,.int .i64 0,.int .i64 0,.slice none 0 0]).cells (M.length+1 - k)++Builtin.zeroCells (Value.agg #[.int .i64 0,.int .i64 0,.int .i64 0,.int .i64 0,.int .i64 0,.slice none 0 0]).cells (G - (M.length+1))=(flatX cellsM (M.take k)++Z).toArray :=by
  rw[hZ]
  apply Array.ext'
  simp
 rw[hZe] at hrz
 clear hZe hZ hold
 have HDR:=hid (HR.out.drop (by omega) k (by omega))
 rw[if_neg (by omega),Option.map_some,show(⟨g,0,none⟩:Addr).add (k*6)=⟨g,k*6,none⟩ by unfold Addr.add;split<;>simp_all] at HDR
 have HYN:=hid (RdX.news cellsM_length (by omega) HY.out)
 obtain⟨W1,hW1⟩: ∃W1,W1=w.drew.alloc (.cells (flatX cellsM (M.take k)++Z).toArray 51):=⟨_,rfl⟩
 have HG1:Hid (W1.heap[w.heap.size]?=some (.cells (flatX cellsM (M.take k)++Z).toArray 51 (0,0))):=hid (by rw[hW1];exact heap_alloc_new w.drew _)
 have HB1:Hid (Below w.heap.size w W1):=hid (by rw[hW1];exact(Below.refl _ _).drew.alloc (Nat.le_refl _) _)
 rw[<-hW1] at hrz
 have HY1:=hid (RdX.news cellsM_length (by omega) (HY.out.later HB1.out))
 have HDN:Hid (∀w',Below w.heap.size w w'-> ∀j u,(flatX cellsM (M.drop k))[j]?=some u->w'.cell? ((⟨g,k*6,none⟩:Addr).add j)=some u):=hid (fun w' hbb=>RdX.news cellsM_length (by omega) (HDR.out.later hbb))
 have hlY:(flatX cellsM [y]).length =6:=by rw[flatX_length cellsM_length];rfl
 have HF:=hid (splice_new (flatX cellsM (M.take k)) Z (flatX cellsM [y]) (flatX cellsM (M.drop k)))
 rw[hA,hlY] at HF
 have H1Y:=hid (flatX_one cellsM_one [y])
 have H1D:=hid (flatX_one cellsM_one (M.drop k))
 have hpl:(flatX cellsM (M.take k)++Z).length =G*6:=by rw[List.length_append,hA,hZl];omega
 have hsl:(splice (flatX cellsM (M.take k)++Z) (k*6) (flatX cellsM [y])).length =G*6:=by rw[length_splice _ _ _ (by rw[hpl,hlY];omega),hpl]
 have HRZ:=hid hrz
 clear hrz hW1 hcur hc3 hc4 hc1 hy hown
 unfold InsertedM
 rw[HM.out]
 generalize flatX cellsM (M.take k)=A at*
 generalize flatX cellsM (M.drop k)=D at*
 generalize flatX cellsM [y]=Y at*
 generalize M.length=N at*
 have hw1:IntKind.i64.wrap ((k:Int)+1)=(k:Int)+1:=by rw[IntKind.wrap_i64];omega
 have hkk:((N+1 - k:Nat):Int)=(N:Int)+1 - (k:Int):=by omega
 rw[hkk] at HRZ
 have z1:((k:Int)==(N:Int))=false:=by simp;omega
 have z2:decide ((N:Int)<(N:Int)+1)=true:=decide_eq_true (by omega)
 have g1:(0:Int)<=(k:Int):=by omega
 have g2:(k:Int)<=(N:Int):=by omega
 have g3:decide ((k:Int)<0)=false:=by simp
 have g4:(0:Int)<=(k:Int)+1:=by omega
 have g5:((k:Int)+1).toNat =k+1:=by omega
 have n1: ¬(N=k):=by omega
 have n2: ¬(G=k):=by omega
 have n3: ¬(G=k+1):=by omega
 clear hkk
 go_enter Tryz.func122,Tryz.ntmps122
 go_wp2_with (first
  | (at_builtin;refine Lib.wpList_append_run _ rfl _ _ _ _ rfl _ _ rfl rfl _ _ (HRZ.out _) ?_)
  | (refine wpList_copy_N rfl (.tmp 43) (.tmp 44) 24 24 rfl 51 6 Tryz.underlying24 sizeM w.heap.size (k*6) _ _ ⟨b,0,none⟩ 1 1 rfl rfl (A++Z) 51 HG1.out Y (by rw[hlY];simp only[Nat.min_def];split<;>omega) HY1.out (by rw[hlY,hpl];omega) H1Y.out ?_;intro w2 HG2 HW2 r2))
 have mixed:Tryz.prog.follows Departure.mixedOrders=true:=by kernel_rfl
 have HB2:Hid (Below w.heap.size w w2):=hid (HB1.out.grown HW2.out HB1.out.size (fun q hq=>by cases hq;exact Nat.le_refl _))
 go_region_law_o (refine step_copy_N rfl (.tmp 50) (.tmp 53) 24 24 rfl 51 6 Tryz.underlying24 sizeM w.heap.size ((k+1)*6) (N+1 - (k+1)) (G - (k+1)) ⟨g,k*6,none⟩ (N - k) (N - k) (by simp [Act.eval,Act.put]) (by simp [Act.eval,Act.put]) (splice (A++Z) (k*6) Y) 51 HG2.out D (by rw[hD];simp only[Nat.min_def];split<;>omega) (HDN.out _ HB2.out.drew) (by rw[hsl,hD];omega) H1D.out ?_;intro w3 HG3 HW3 r3)
 have HB3:Hid (Below w.heap.size w w3):=hid (HB2.out.drew.grown HW3.out HB2.out.size (fun q hq=>by cases hq;exact Nat.le_refl _))
 have hg3:=HG3.out
 rw[show(k+1)*6=k*6+6 by omega,HF.out] at hg3
 have HGG:=hid hg3
 clear hg3 HG3 HG2 HG1 HRZ HF HDN HYN HY1 HB1 HB2 HW2 HW3
 go_wp2
 go_ret
 refine⟨_,rfl,⟨by simp [hA,hlY,hD];omega,.inr ⟨w.heap.size,G,_,rfl,hb,HGG.out,hge,hle,?_,?_⟩⟩,grown_below HB3.out _⟩
 ·simp [hA,hlY,hD,hZl]
  omega
 ·have e:(N+1)*6=(A++(Y++D)).length :=by simp [hA,hlY,hD];omega
  rw[e,show A++(Y++(D++Z.drop (6+D.length)))=(A++(Y++D))++Z.drop (6+D.length) by simp]
  exact List.take_left' rfl
set_option maxRecDepth 8000 in
set_option maxHeartbeats 2000000 in
theorem InsertM_shift (m:Value) (hown:w.ownsRow base 51 6 m M.length (flatX cellsM M)) (h5:M.length<=1000) (hb:base<=w.heap.size) (hy:w.heap[b]?=some (.cells #[.int .i64 y.m.client,.int .i64 y.m.seq,.int .i64 y.m.rep.code,.int .i64 y.m.rep.session,.int .i64 y.m.rep.ahead,y.hv] 51)) (hk:k<M.length)
  (g c:Nat) (hm:m= .slice (some ⟨g,0,none⟩) M.length c) (hroom:M.length+1<=c) (hne:b≠g):
  Calls Tryz.prog 122 #[m,.int .i64 (k:Int),.slice (some ⟨b,0,none⟩) 1 1] w (InsertedM base m M k y w):=by
 obtain⟨g',c',cur,hm',hbg,hcur,hc1,hc2,hc3,hc4⟩:=row_openM base M w hown (by omega)
 rw[hm] at hm'
 injection hm' with e1 e2 e3
 cases e1
 subst e3
 subst hm
 have hmx:=hc2
 unfold maxLen at hc2
 have hgw:g<w.heap.size:=(Rw.own_lt hown g rfl).2
 have hbw:b<w.heap.size:=(Array.getElem?_eq_some_iff.1 hy).1
 have HM:Hid (flatX cellsM (M.take k++y::M.drop k)=flatX cellsM (M.take k)++(flatX cellsM [y]++flatX cellsM (M.drop k))):=hid (by
  rw[flatX_append,flatX_cons,<-flatX_cons,show y::M.drop k= [y]++M.drop k from rfl,flatX_append])
 have hA:(flatX cellsM (M.take k)).length =k*6:=by rw[flatX_length cellsM_length,List.length_take,Nat.min_eq_left (by omega)]
 have hD:(flatX cellsM (M.drop k)).length =(M.length - k)*6:=by rw[flatX_length cellsM_length,List.length_drop]
 have hlY:(flatX cellsM [y]).length =6:=by rw[flatX_length cellsM_length];rfl
 obtain⟨E,hE⟩: ∃E,E=cur.toList.drop (M.length*6):=⟨_,rfl⟩
 have hEl:E.length=(c - M.length)*6:=by rw[hE,List.length_drop,Array.length_toList,hc3];omega
 have hcE:cur.toList=flatX cellsM (M.take k)++(flatX cellsM (M.drop k)++E):=by
  rw[<-List.append_assoc,<-flatX_append,List.take_append_drop,<-hc4,hE,List.take_append_drop]
 have hcA:cur=(flatX cellsM (M.take k)++(flatX cellsM (M.drop k)++E)).toArray :=by rw[<-hcE]
 have hov: ∀lb cb,(callFunc 169 #[.slice (some ⟨b,0,none⟩) 1 1,.slice (some ⟨g,(k+1)*6,none⟩) lb cb]).run Tryz.prog w= .ok (.value (.bool false)) w:=fun lb cb=>by
  obtain⟨i1,hi',hz0',hz1',hz2'⟩:=info_parts infoM
  rw[run_callFunc_extern Tryz.func169 (by kernel_rfl) (by kernel_rfl) (by kernel_rfl) (e:=Extern.SlicesOverlaps.overlaps #[24,24] #[4]) (by kernel_rfl),
   Lib.run_overlaps_apart w 24 4 51 Tryz.underlying24 6 (fun w=>by simp [sizeOf,typeInfo,hi',hz1']) ⟨b,0,none⟩ ⟨g,(k+1)*6,none⟩ 1 1 lb cb hne 51 51 6 (c*6) (shape_at hy) (by rw[<-hc3];exact shape_at hcur) (by omega) (frozen_at hy) (frozen_at hy)]
  rfl
 have HOV:=hid hov
 rw[hcA] at hcur
 have HG0:=hid hcur
 have HR:=hid (RdX.own cellsM_length hown)
 have HDR:=hid (HR.out.drop (by omega) k (by omega))
 rw[if_neg (by omega),Option.map_some,show(⟨g,0,none⟩:Addr).add (k*6)=⟨g,k*6,none⟩ from add_at g (k*6)] at HDR
 have HDN:=hid (RdX.news cellsM_length (by omega) (HDR.out.later (Below.refl _ w).drew))
 have HYN:Hid (∀w':World,w'.heap[b]?=w.heap[b]?-> ∀j u,(flatX cellsM [y])[j]?=some u->w'.cell? ((⟨b,0,none⟩:Addr).add j)=some u):=hid (fun w' hw'=>RdX.news cellsM_length (by omega) (src_oneM y b w' (hw'.trans hy)))
 have HF:=hid (splice_in (flatX cellsM (M.take k)) (flatX cellsM (M.drop k)) E (flatX cellsM [y]) (by rw[hlY];omega))
 rw[hA,hlY] at HF
 have H1Y:=hid (flatX_one cellsM_one [y])
 have H1D:=hid (flatX_one cellsM_one (M.drop k))
 have hpl:(flatX cellsM (M.take k)++(flatX cellsM (M.drop k)++E)).length =c*6:=by rw[List.length_append,List.length_append,hA,hD,hEl];omega
 have hsl:(splice (flatX cellsM (M.take k)++(flatX cellsM (M.drop k)++E)) ((k+1)*6) (flatX cellsM (M.drop k))).length =c*6:=by rw[length_splice _ _ _ (by rw[hpl,hD];omega),hpl]
 clear hov hcA hcE hE hcur hc3 hc4 hc1 hy hown HR HDR
 unfold InsertedM
 rw[HM.out]
 generalize flatX cellsM (M.take k)=A at*
 generalize flatX cellsM (M.drop k)=D at*
 generalize flatX cellsM [y]=Y at*
 generalize M.length=N at*
 have hw1:IntKind.i64.wrap ((k:Int)+1)=(k:Int)+1:=by rw[IntKind.wrap_i64];omega
 have z1:((k:Int)==(N:Int))=false:=by simp;omega
 have z2:decide ((c:Int)<(N:Int)+1)=false:=decide_eq_false (by omega)
 have g1:(0:Int)<=(k:Int):=by omega
 have g2:(k:Int)<=(N:Int):=by omega
 have g3:decide ((k:Int)<0)=false:=by simp
 have g4:(0:Int)<=(k:Int)+1:=by omega
 have g5:((k:Int)+1).toNat =k+1:=by omega
 have g6:(N:Int)+1<=(c:Int):=by omega
 have g7:(k:Int)<=(N:Int)+1:=by omega
 have g8:(k:Int)+1<=(N:Int)+1:=by omega
 have g9:((N:Int)+1).toNat =N+1:=by omega
 have g10:(0:Int)<=(N:Int)+1:=by omega
 have n2: ¬(c=k):=by omega
 have n3: ¬(c=k+1):=by omega
 have mixed:Tryz.prog.follows Departure.mixedOrders=true:=by kernel_rfl
 go_enter Tryz.func122,Tryz.ntmps122
 go_wp2_with (simp only[HOV.out])
 go_region_law_o (refine step_copy_N rfl (.tmp 73) (.tmp 76) 24 24 rfl 51 6 Tryz.underlying24 sizeM g ((k+1)*6) (N+1 - (k+1)) (c - (k+1)) ⟨g,k*6,none⟩ (N+1 - k) (c - k) (by simp [Act.eval,Act.put]) (by simp [Act.eval,Act.put]) (A++(D++E)) 51 HG0.out D (by rw[hD];simp only[Nat.min_def];split<;>omega) HDN.out (by rw[hpl,hD];omega) H1D.out ?_;intro w3 HG3 HW3 r3)
 have HY3:=hid (HYN.out w3 (HW3.out.block b hbw (fun e=>by cases e;exact hne rfl)))
 go_wp2_with (refine wpList_copy_N rfl (.tmp 80) (.tmp 81) 24 24 rfl 51 6 Tryz.underlying24 sizeM g (k*6) (N+1 - k) (c - k) ⟨b,0,none⟩ 1 1 rfl rfl (splice (A++(D++E)) ((k+1)*6) D) 51 HG3.out Y (by rw[hlY];simp only[Nat.min_def];split<;>omega) HY3.out (by rw[hlY,hsl];omega) H1Y.out ?_;intro w4 HG4 HW4 r4)
 go_ret
 have hg4:=HG4.out
 rw[show(k+1)*6=k*6+6 by omega,HF.out] at hg4
 refine⟨_,rfl,⟨by simp [hA,hlY,hD];omega,.inr ⟨g,c,_,rfl,hbg,hg4,hroom,hmx,?_,?_⟩⟩,grown_trans (show w.grownBy w3 (some g) from⟨HW3.out.os,HW3.out.tape,HW3.out.output,HW3.out.size,HW3.out.block⟩) HW4.out⟩
 ·simp [hA,hlY,hD,hEl]
  omega
 ·have e:(N+1)*6=(A++(Y++D)).length :=by simp [hA,hlY,hD];omega
  rw[e,show A++(Y++(D++E.drop 6))=(A++(Y++D))++E.drop 6 by simp]
  exact List.take_left' rfl
theorem InsertM_any (m:Value) (hown:w.ownsRow base 51 6 m M.length (flatX cellsM M)) (h5:M.length<=1000) (hb:base<=w.heap.size) (hy:w.heap[b]?=some (.cells #[.int .i64 y.m.client,.int .i64 y.m.seq,.int .i64 y.m.rep.code,.int .i64 y.m.rep.session,.int .i64 y.m.rep.ahead,y.hv] 51)) (hk:k<=M.length) (hne:m.ownBlock≠some b):
  Calls Tryz.prog 122 #[m,.int .i64 (k:Int),.slice (some ⟨b,0,none⟩) 1 1] w (InsertedM base m M k y w):=by
 rcases Nat.lt_or_ge k M.length with hlt | hge
 ·obtain⟨g,c,cur,rfl,hbg,hcur,hc1,hc2,hc3,hc4⟩:=row_openM base M w hown (by omega)
  rcases Nat.lt_or_ge c (M.length+1) with q | q
  ·exact InsertM_grow base M k y b w _ hown h5 hb hy hlt g c rfl q
  ·exact InsertM_shift base M k y b w _ hown h5 hb hy hlt g c rfl q (fun e=>hne (by rw[e];rfl))
 ·exact InsertM_end base M k y b w m hown h5 hb hy (by omega)
end
end Cm
end Go.Proofs.YtclcgkpfcogcdaaGreat
