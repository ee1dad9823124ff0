/- Texts laid together by program. -/
import Derived.Test.YtclcgkpfcogcdaaGreatQ24
import Derived.Deep.RegionWith
/- Contracts: package lock's replaced. -/
set_option linter.unusedVariables false
set_option maxRecDepth 8000
set_option linter.unusedSimpArgs false
namespace Go.Proofs.YtclcgkpfcogcdaaGreat
open Lib (hid)
open Go.RowKit Go.Shelf
namespace Cm

theorem RdK.take {w:World} {a:Option Addr} {n cap:Nat} {L:List LockC} (h:RdK w (.slice a n cap) L) (k:Nat) (hk:k<=n):RdK w (.slice a k cap) (L.take k):=
 ⟨h.row.take k hk,fun x hx=>h.line x (List.mem_of_mem_take hx)⟩
theorem RdK.drop {w:World} {a:Option Addr} {n cap:Nat} {L:List LockC} (h:RdK w (.slice a n cap) L) (k:Nat) (hk:k<=n):RdK w (.slice (if cap=k then a else a.map (·.add (k*4))) (n - k) (cap - k)) (L.drop k):=
 ⟨h.row.drop (by omega) k hk,fun x hx=>h.line x (List.mem_of_mem_drop hx)⟩
def MadeT (base:Nat) (l:List LockV) (w:World) (e:Ending) (w':World):Prop:=
 ∃v M,e= .returned v/\vals M=l/\OwnN base w' v M/\Below w.heap.size w w'
theorem vals_append (A B:List LockC):vals (A++B)=vals A++vals B:=by unfold vals;rw[List.map_append]
theorem NewI.lower {base base':Nat} {w:World} {u:Value} {l:List Int} (h:NewI base w u l) (hb:base'<=base):NewI base' w u l:=⟨h.1,fun g hg=>⟨Nat.le_trans hb (h.2 g hg).1,(h.2 g hg).2⟩⟩
theorem vlen {M A:List LockC} (h:vals M=vals A):M.length=A.length:=by rw[<-vals_length M,h,vals_length]
theorem cat_done {base:Nat} {w w1 w2 w3:World} {v1 v2 v3:Value} {M1 Y M2:List LockC} (h1:OwnD w.heap.size w1 v1 M1) (hY: ∀y∈Y,NewI base w y.lv y.line) (h2:OwnD w1.heap.size w2 v2 M2)
  (hb:base<=w.heap.size) (b1:Below w.heap.size w w1) (b2:Below w1.heap.size w1 w2) (b3:Below w2.heap.size w2 w3)
  (ho:w3.ownsRow w2.heap.size 60 4 v3 (M1++(Y++M2)).length (flatX cellsK (M1++(Y++M2)))):OwnN base w3 v3 (M1++(Y++M2)):=by
 have s1:=b1.size
 have s2:=b2.size
 refine⟨own_lowerX ho (by omega),fun x hx=>?_⟩
 rcases List.mem_append.1 hx with q | q
 ·exact((h1.n.later (step b2 b3)).line x q).lower hb
 rcases List.mem_append.1 q with q | q
 ·exact(hY x q).later (step b1 (step b2 b3))
 ·exact((h2.n.later b3).line x q).lower (by omega)
set_option maxHeartbeats 4000000 in
theorem replaced_any (base:Nat) (v u:Value) (L Y:List LockC) (k:Nat) (w:World) (hk:k<L.length) (h:RdK w v L) (h5:L.length<=1000) (h6: ∀x∈L,x.line.length<=1000) (hu:RdX 4 cellsK w u Y) (h7:Y.length<=1000) (hY: ∀y∈Y,NewI base w y.lv y.line) (hb:base<=w.heap.size):
  Calls Tryz.prog 204 #[v,.int .i64 (k:Int),u] w (MadeT base ((vals L).take k++(vals Y++(vals L).drop (k+1))) w):=by
 have hm:=h.len
 have HR:=hid h
 obtain⟨a,cap,rfl⟩:=h.form
 have hcap:L.length<=cap/\cap<=maxLen:=by
  obtain⟨a',cap',hv,q1,q2,_⟩:=h.row.ex
  cases hv
  exact⟨q1,q2⟩
 unfold maxLen at hcap
 obtain⟨hc1,hc2⟩:=hcap
 have HT:Hid (∀w',Below w.heap.size w w'->Calls Tryz.prog 221 #[.slice a k cap] w' (MadeC (vals (L.take k)) w')):=hid fun w' hb=>copies_any _ _ w' ((h.take k (by omega)).later hb) (by rw[List.length_take];omega) (fun x hx=>h6 x (List.mem_of_mem_take hx))
 have HD:Hid (∀w',Below w.heap.size w w'->Calls Tryz.prog 221 #[.slice (if cap=k+1 then a else a.map (·.add ((k+1)*4))) (L.length - (k+1)) (cap - (k+1))] w' (MadeC (vals (L.drop (k+1))) w')):=hid fun w' hb=>copies_any _ _ w' ((h.drop (k+1) (by omega)).later hb) (by rw[List.length_drop];omega) (fun x hx=>h6 x (List.mem_of_mem_drop hx))
 have HU:=hid hu
 have HY:=hid hY
 have H7:Hid (Y.length<=1000):=hid h7
 have HBB:=hid hb
 have HT1:Hid ((L.take k).length <=1000):=hid (by rw[List.length_take];omega)
 have HD1:Hid ((L.drop (k+1)).length <=1000):=hid (by rw[List.length_drop];omega)
 obtain⟨ua,uc,rfl⟩:=hu.form
 clear hu hY h7 hb
 rw[<-vals_take,<-vals_drop]
 have g1:(0:Int)<=(k:Int):=by omega
 have g2:(k:Int)<=(cap:Int):=by omega
 have g3:IntKind.i64.wrap ((k:Int)+1)=(k:Int)+1:=by rw[IntKind.wrap_i64];omega
 have g4:(0:Int)<=(k:Int)+1:=by omega
 have g5:(k:Int)+1<=(L.length:Int):=by omega
 have g6:((k:Int)+1).toNat =k+1:=by omega
 have g7:decide ((k:Int)<0)=false:=by simp
 have g8:(k:Int)<=(L.length:Int):=by omega
 clear HR h h6
 generalize L.take k=A at HT HT1 ⊢
 generalize L.drop (k+1)=B at HD HD1 ⊢
 generalize L.length=N at*
 by_cases hcp:cap=k+1
 ·rw[if_pos hcp] at HD
  obtain rfl:N=k+1:=by omega
  subst hcp
  rw[Nat.sub_self] at HD
  have g9:(k:Int)<=(k:Int)+1:=by omega
  clear g2
  go_enter Tryz.func204,Tryz.ntmps204
  go_upto_region 1 with fail
  go_region_held3 (fun _=>True) (trivial) (first
   | (go_at_call 221;refine(HD.out _ (step (Below.refl _ _).drew hb1)).mono ?_;rintro e w2 ⟨v2,M2,rfl,hm2,ho2,hb2⟩;obtain⟨a2,c2,rfl⟩:=Rw.own_form ho2.row)
   | (go_at_call 221;refine(HT.out _ (Below.refl _ _).drew).mono ?_;rintro e w1 ⟨v1,M1,rfl,hm1,ho1,hb1⟩;obtain⟨a1,c1,rfl⟩:=Rw.own_form ho1.row)
   | (go_at_call 225;refine(ConcatK_three _ _ _ _ _ M1 Y M2 ((ho1.later hb2).rd.row.later (newAlloc w2 _)) (HU.out.later (step (step (Below.refl _ _).drew hb1) (step hb2 (newAlloc w2 _)))) (ho2.rd.row.later (newAlloc w2 _)) (by simp [go_sem]) (by simp [go_sem]) (by simp [go_sem]) (by have q1:=vlen hm1;have q2:=vlen hm2;have q3:=HT1.out;have q4:=HD1.out;have q5:=H7.out;omega)).mono ?_;rintro e w3 ⟨v3,rfl,ho3,hb3⟩))
  go_wp2
  go_ret
  exact⟨v3,M1++(Y++M2),rfl,by rw[vals_append,vals_append,hm1,hm2],cat_done ho1 (fun y hy=>(HY.out y hy).later (Below.refl _ _).drew) ho2 HBB.out hb1 hb2 (step (newAlloc w2 _) hb3) (own_lowerX ho3 (newAlloc w2 _).size),step (step (Below.refl w.heap.size w).drew hb1) (step hb2 (step (newAlloc w2 _) hb3))⟩
 ·rw[if_neg hcp] at HD
  go_enter Tryz.func204,Tryz.ntmps204
  go_upto_region 1 with fail
  go_region_held3 (fun _=>True) (trivial) (first
   | (go_at_call 221;refine(HD.out _ (step (Below.refl _ _).drew hb1)).mono ?_;rintro e w2 ⟨v2,M2,rfl,hm2,ho2,hb2⟩;obtain⟨a2,c2,rfl⟩:=Rw.own_form ho2.row)
   | (go_at_call 221;refine(HT.out _ (Below.refl _ _).drew).mono ?_;rintro e w1 ⟨v1,M1,rfl,hm1,ho1,hb1⟩;obtain⟨a1,c1,rfl⟩:=Rw.own_form ho1.row)
   | (go_at_call 225;refine(ConcatK_three _ _ _ _ _ M1 Y M2 ((ho1.later hb2).rd.row.later (newAlloc w2 _)) (HU.out.later (step (step (Below.refl _ _).drew hb1) (step hb2 (newAlloc w2 _)))) (ho2.rd.row.later (newAlloc w2 _)) (by simp [go_sem]) (by simp [go_sem]) (by simp [go_sem]) (by have q1:=vlen hm1;have q2:=vlen hm2;have q3:=HT1.out;have q4:=HD1.out;have q5:=H7.out;omega)).mono ?_;rintro e w3 ⟨v3,rfl,ho3,hb3⟩))
  go_wp2
  go_ret
  exact⟨v3,M1++(Y++M2),rfl,by rw[vals_append,vals_append,hm1,hm2],cat_done ho1 (fun y hy=>(HY.out y hy).later (Below.refl _ _).drew) ho2 HBB.out hb1 hb2 (step (newAlloc w2 _) hb3) (own_lowerX ho3 (newAlloc w2 _).size),step (step (Below.refl w.heap.size w).drew hb1) (step hb2 (step (newAlloc w2 _) hb3))⟩
end Cm
end Go.Proofs.YtclcgkpfcogcdaaGreat

/- Contract: slices.Insert of one lock. -/
set_option linter.unusedVariables false
set_option maxRecDepth 8000
set_option linter.unusedSimpArgs false
namespace Go.Proofs.YtclcgkpfcogcdaaGreat
open Lib (hid)
open Go.RowKit Go.Shelf
namespace Cm

def Inserted (base:Nat) (m:Value) (M:List LockC) (k:Nat) (y:LockC) (w:World) (e:Ending) (w':World):Prop:=
 ∃v,e= .returned v/\w'.ownsRow base 60 4 v (M.length+1) (flatX cellsK (M.take k++y::M.drop k))/\w.grownBy w' m.ownBlock
section
variable (base : Nat) (M : List LockC) (k : Nat) (y : LockC) (b : Nat) (w : World)

theorem sizeK:(Tryz.prog.info? 60).map (·.size)=some 4:=by
 obtain⟨i1,hi',_,hz1',_⟩:=info_parts infoK
 rw[hi']
 simp [hz1']
theorem src_one (hy:w.heap[b]?=some (.cells #[.string (bstr y.name),.int .i64 y.holder,.int .i64 y.token,y.lv] 60)):RdX 4 cellsK w (.slice (some ⟨b,0,none⟩) 1 1) [y]:=RdX.one hy rfl
set_option maxRecDepth 8000 in
set_option maxHeartbeats 1000000 in
theorem Insert_end (m:Value) (hown:w.ownsRow base 60 4 m M.length (flatX cellsK M)) (h5:M.length<=1000) (hb:base<=w.heap.size) (hy:w.heap[b]?=some (.cells #[.string (bstr y.name),.int .i64 y.holder,.int .i64 y.token,y.lv] 60)) (hk:k=M.length):
  Calls Tryz.prog 220 #[m,.int .i64 (k:Int),.slice (some ⟨b,0,none⟩) 1 1] w (Inserted base m M k y w):=by
 subst hk
 have HR:=hid (src_one y b w hy)
 obtain⟨a,c,rfl⟩:=Rw.own_form hown
 have HO:=hid hown
 have hc:M.length<=c:=by
  rcases hown.2 with ⟨q,_⟩ | ⟨g,cap,cur,q,_,_,q2,_⟩
  ·injection q with _ q1 q2;omega
  ·injection q with _ q1 q3;omega
 obtain⟨i1,hi',hz0',hz1',hz2'⟩:=info_parts infoK
 have HT:Hid (flatX cellsK (M.take M.length++y::M.drop M.length)=flatX cellsK M++flatX cellsK [y]):=hid (by rw[List.take_length,List.drop_length,flatX_append])
 clear hown hy
 obtain⟨N,hN⟩: ∃N,M.length=N:=⟨_,rfl⟩
 unfold Inserted
 rw[hN] at HT HO h5 hc ⊢
 clear hN
 generalize hF:flatX cellsK (M.take N++y::M.drop N)=F at HT ⊢
 clear hF
 generalize flatX cellsK M=FM at HT HO
 have g1:(0:Int)<=(N:Int):=by omega
 have g2:(N:Int)<=(c:Int):=by omega
 have g3:decide ((N:Int)<0)=false:=by simp
 go_enter Tryz.func220,Tryz.ntmps220
 go_wp2_with (at_builtin;refine wpList_append_rdx cellsK_length (by omega) cellsK_one rfl (.tmp 23) (.tmp 24) 23 rfl base 60 i1 _ 56 Tryz.underlying23 hi' hz0' hz1' hz2' rfl (.slice a N c) N FM rfl HO.out _ [y] rfl HR.out (by unfold maxLen;simp;omega) (by simp;omega) hb ?_;intro v1 w2 hown2 hgrow2)
 all_goals
  go_ret
  exact⟨v1,rfl,by rw[HT.out];exact hown2,by cases a<;>exact hgrow2⟩
theorem row_open {v:Value} (h:w.ownsRow base 60 4 v M.length (flatX cellsK M)) (h0:0<M.length): ∃g c cur,v= .slice (some ⟨g,0,none⟩) M.length c/\base<=g/\w.heap[g]?=some (.cells cur 60 (0,0))/\M.length<=c/\c<=maxLen/\cur.size=c*4/\cur.toList.take (M.length*4)=flatX cellsK M:=by
 rcases h.2 with ⟨_,q⟩ | q
 ·omega
 ·exact q
set_option maxRecDepth 8000 in
set_option maxHeartbeats 2000000 in
theorem Insert_grow (m:Value) (hown:w.ownsRow base 60 4 m M.length (flatX cellsK M)) (h5:M.length<=1000) (hb:base<=w.heap.size) (hy:w.heap[b]?=some (.cells #[.string (bstr y.name),.int .i64 y.holder,.int .i64 y.token,y.lv] 60)) (hk:k<M.length)
  (g c:Nat) (hm:m= .slice (some ⟨g,0,none⟩) M.length c) (hroom:c<M.length+1):
  Calls Tryz.prog 220 #[m,.int .i64 (k:Int),.slice (some ⟨b,0,none⟩) 1 1] w (Inserted base m M k y w):=by
 obtain⟨g',c',cur,hm',hbg,hcur,hc1,hc2,hc3,hc4⟩:=row_open base M w hown (by omega)
 rw[hm] at hm'
 injection hm' with e1 e2 e3
 cases e1
 subst e3
 subst hm
 obtain rfl:c=M.length:=by omega
 unfold maxLen at hc2
 have HR:=hid (RdX.own cellsK_length hown)
 have HY:=hid (src_one y b w hy)
 have hgw:g<w.heap.size:=(Rw.own_lt hown g rfl).2
 have HM:Hid (flatX cellsK (M.take k++y::M.drop k)=flatX cellsK (M.take k)++(flatX cellsK [y]++flatX cellsK (M.drop k))):=hid (by
  rw[flatX_append,flatX_cons,<-flatX_cons,show y::M.drop k= [y]++M.drop k from rfl,flatX_append])
 have hA:(flatX cellsK (M.take k)).length =k*4:=by rw[flatX_length cellsK_length,List.length_take,Nat.min_eq_left (by omega)]
 have hD:(flatX cellsK (M.drop k)).length =(M.length - k)*4:=by rw[flatX_length cellsK_length,List.length_drop]
 obtain⟨i1,hi',hz0',hz1',hz2'⟩:=info_parts infoK
 have hold:(Builtin.firstCells i1.size k (.slice (some ⟨g,0,none⟩) k M.length)).run Tryz.prog w.drew= .ok (flatX cellsK (M.take k)).toArray w.drew:=by
  rw[hz1']
  exact run_firstCells_some (P:=Tryz.prog) (w:=w.drew) 4 k ⟨g,0,none⟩ k M.length _ hA (RdX.news cellsK_length (by omega) ((HR.out.take k (by omega)).later (Below.refl _ _).drew))
 have hrz: ∀ty,(Builtin.append_ #[23,3] ty #[.slice (some ⟨g,0,none⟩) k M.length,.int .i64 ((M.length+1 - k:Nat):Int)]).run Tryz.prog w= _:=fun ty=>
  Lib.run_append_grow_zeros (P:=Tryz.prog) w 23 3 ty 60 i1 _ .i64 .i64 Tryz.underlying23 Tryz.underlying3 hi' hz0' (some ⟨g,0,none⟩) k M.length _ hold (M.length+1 - k) (by omega) (by omega) (by omega) (by omega) (by rw[hz2'];omega) (by rw[hz2',show k+(M.length+1 - k)=M.length+1 by omega];exact growslice_fits (by omega) (by omega))
 rw[show k+(M.length+1 - k)=M.length+1 by omega] at hrz
 have hge:=grownCap_ge w (M.length+1) M.length 60
 have hle:=grownCap_le_maxLen w (M.length+1) M.length 60 (by unfold maxLen;omega)
 generalize grownCap w (M.length+1) M.length 60=G at hrz hge hle
 have hle':=hle
 unfold maxLen at hle'
 have hbw:b<w.heap.size:=(Array.getElem?_eq_some_iff.1 hy).1
 obtain⟨Z,hZ⟩: ∃Z:List Value,Z=(Builtin.zeroCells (Value.agg #[.string ⟨#[]⟩,.int .i64 0,.int .i64 0,.slice none 0 0]).cells (M.length+1 - k)).toList ++(Builtin.zeroCells (Value.agg #[.string ⟨#[]⟩,.int .i64 0,.int .i64 0,.slice none 0 0]).cells (G - (M.length+1))).toList :=⟨_,rfl⟩
 have hZl:Z.length=(G - k)*4:=by
  rw[hZ]
  simp [Builtin.zeroCells,Value.cells]
  omega
 have hZe:(flatX cellsK (M.take k)).toArray ++Builtin.zeroCells (Value.agg #[.string ⟨#[]⟩,.int .i64 0,.int .i64 0,.slice none 0 0]).cells (M.length+1 - k)++Builtin.zeroCells (Value.agg #[.string ⟨#[]⟩,.int .i64 0,.int .i64 0,.slice none 0 0]).cells (G - (M.length+1))=(flatX cellsK (M.take k)++Z).toArray :=by
  rw[hZ]
  apply Array.ext'
  simp
 rw[hZe] at hrz
 clear hZe hZ hold
 have HDR:=hid (HR.out.drop (by omega) k (by omega))
 rw[if_neg (by omega),Option.map_some,show(⟨g,0,none⟩:Addr).add (k*4)=⟨g,k*4,none⟩ by unfold Addr.add;split<;>simp_all] at HDR
 have HYN:=hid (RdX.news cellsK_length (by omega) HY.out)
 obtain⟨W1,hW1⟩: ∃W1,W1=w.drew.alloc (.cells (flatX cellsK (M.take k)++Z).toArray 60):=⟨_,rfl⟩
 have HG1:Hid (W1.heap[w.heap.size]?=some (.cells (flatX cellsK (M.take k)++Z).toArray 60 (0,0))):=hid (by rw[hW1];exact heap_alloc_new w.drew _)
 have HB1:Hid (Below w.heap.size w W1):=hid (by rw[hW1];exact(Below.refl _ _).drew.alloc (Nat.le_refl _) _)
 rw[<-hW1] at hrz
 have HY1:=hid (RdX.news cellsK_length (by omega) (HY.out.later HB1.out))
 have HDN:Hid (∀w',Below w.heap.size w w'-> ∀j u,(flatX cellsK (M.drop k))[j]?=some u->w'.cell? ((⟨g,k*4,none⟩:Addr).add j)=some u):=hid (fun w' hbb=>RdX.news cellsK_length (by omega) (HDR.out.later hbb))
 have hlY:(flatX cellsK [y]).length =4:=by rw[flatX_length cellsK_length];rfl
 have HF:=hid (splice_new (flatX cellsK (M.take k)) Z (flatX cellsK [y]) (flatX cellsK (M.drop k)))
 rw[hA,hlY] at HF
 have H1Y:=hid (flatX_one cellsK_one [y])
 have H1D:=hid (flatX_one cellsK_one (M.drop k))
 have hpl:(flatX cellsK (M.take k)++Z).length =G*4:=by rw[List.length_append,hA,hZl];omega
 have hsl:(splice (flatX cellsK (M.take k)++Z) (k*4) (flatX cellsK [y])).length =G*4:=by rw[length_splice _ _ _ (by rw[hpl,hlY];omega),hpl]
 have HRZ:=hid hrz
 clear hrz hW1 hcur hc3 hc4 hc1 hy hown
 unfold Inserted
 rw[HM.out]
 generalize flatX cellsK (M.take k)=A at*
 generalize flatX cellsK (M.drop k)=D at*
 generalize flatX cellsK [y]=Y at*
 generalize M.length=N at*
 have hw1:IntKind.i64.wrap ((k:Int)+1)=(k:Int)+1:=by rw[IntKind.wrap_i64];omega
 have hkk:((N+1 - k:Nat):Int)=(N:Int)+1 - (k:Int):=by omega
 rw[hkk] at HRZ
 have z1:((k:Int)==(N:Int))=false:=by simp;omega
 have z2:decide ((N:Int)<(N:Int)+1)=true:=decide_eq_true (by omega)
 have g1:(0:Int)<=(k:Int):=by omega
 have g2:(k:Int)<=(N:Int):=by omega
 have g3:decide ((k:Int)<0)=false:=by simp
 have g4:(0:Int)<=(k:Int)+1:=by omega
 have g5:((k:Int)+1).toNat =k+1:=by omega
 have n1: ¬(N=k):=by omega
 have n2: ¬(G=k):=by omega
 have n3: ¬(G=k+1):=by omega
 clear hkk
 go_enter Tryz.func220,Tryz.ntmps220
 go_wp2_with (first
  | (at_builtin;refine Lib.wpList_append_run _ rfl _ _ _ _ rfl _ _ rfl rfl _ _ (HRZ.out _) ?_)
  | (refine wpList_copy_N rfl (.tmp 43) (.tmp 44) 23 23 rfl 60 4 Tryz.underlying23 sizeK w.heap.size (k*4) _ _ ⟨b,0,none⟩ 1 1 rfl rfl (A++Z) 60 HG1.out Y (by rw[hlY];simp only[Nat.min_def];split<;>omega) HY1.out (by rw[hlY,hpl];omega) H1Y.out ?_;intro w2 HG2 HW2 r2))
 have mixed:Tryz.prog.follows Departure.mixedOrders=true:=by kernel_rfl
 have HB2:Hid (Below w.heap.size w w2):=hid (HB1.out.grown HW2.out HB1.out.size (fun q hq=>by cases hq;exact Nat.le_refl _))
 go_region_law_o (refine step_copy_N rfl (.tmp 50) (.tmp 53) 23 23 rfl 60 4 Tryz.underlying23 sizeK w.heap.size ((k+1)*4) (N+1 - (k+1)) (G - (k+1)) ⟨g,k*4,none⟩ (N - k) (N - k) (by simp [Act.eval,Act.put]) (by simp [Act.eval,Act.put]) (splice (A++Z) (k*4) Y) 60 HG2.out D (by rw[hD];simp only[Nat.min_def];split<;>omega) (HDN.out _ HB2.out.drew) (by rw[hsl,hD];omega) H1D.out ?_;intro w3 HG3 HW3 r3)
 have HB3:Hid (Below w.heap.size w w3):=hid (HB2.out.drew.grown HW3.out HB2.out.size (fun q hq=>by cases hq;exact Nat.le_refl _))
 have hg3:=HG3.out
 rw[show(k+1)*4=k*4+4 by omega,HF.out] at hg3
 have HGG:=hid hg3
 clear hg3 HG3 HG2 HG1 HRZ HF HDN HYN HY1 HB1 HB2 HW2 HW3
 go_wp2
 go_ret
 refine⟨_,rfl,⟨by simp [hA,hlY,hD];omega,.inr ⟨w.heap.size,G,_,rfl,hb,HGG.out,hge,hle,?_,?_⟩⟩,grown_below HB3.out _⟩
 ·simp [hA,hlY,hD,hZl]
  omega
 ·have e:(N+1)*4=(A++(Y++D)).length :=by simp [hA,hlY,hD];omega
  rw[e,show A++(Y++(D++Z.drop (4+D.length)))=(A++(Y++D))++Z.drop (4+D.length) by simp]
  exact List.take_left' rfl
set_option maxRecDepth 8000 in
set_option maxHeartbeats 2000000 in
theorem Insert_shift (m:Value) (hown:w.ownsRow base 60 4 m M.length (flatX cellsK M)) (h5:M.length<=1000) (hb:base<=w.heap.size) (hy:w.heap[b]?=some (.cells #[.string (bstr y.name),.int .i64 y.holder,.int .i64 y.token,y.lv] 60)) (hk:k<M.length)
  (g c:Nat) (hm:m= .slice (some ⟨g,0,none⟩) M.length c) (hroom:M.length+1<=c) (hne:b≠g):
  Calls Tryz.prog 220 #[m,.int .i64 (k:Int),.slice (some ⟨b,0,none⟩) 1 1] w (Inserted base m M k y w):=by
 obtain⟨g',c',cur,hm',hbg,hcur,hc1,hc2,hc3,hc4⟩:=row_open base M w hown (by omega)
 rw[hm] at hm'
 injection hm' with e1 e2 e3
 cases e1
 subst e3
 subst hm
 have hmx:=hc2
 unfold maxLen at hc2
 have hgw:g<w.heap.size:=(Rw.own_lt hown g rfl).2
 have hbw:b<w.heap.size:=(Array.getElem?_eq_some_iff.1 hy).1
 have HM:Hid (flatX cellsK (M.take k++y::M.drop k)=flatX cellsK (M.take k)++(flatX cellsK [y]++flatX cellsK (M.drop k))):=hid (by
  rw[flatX_append,flatX_cons,<-flatX_cons,show y::M.drop k= [y]++M.drop k from rfl,flatX_append])
 have hA:(flatX cellsK (M.take k)).length =k*4:=by rw[flatX_length cellsK_length,List.length_take,Nat.min_eq_left (by omega)]
 have hD:(flatX cellsK (M.drop k)).length =(M.length - k)*4:=by rw[flatX_length cellsK_length,List.length_drop]
 have hlY:(flatX cellsK [y]).length =4:=by rw[flatX_length cellsK_length];rfl
 obtain⟨E,hE⟩: ∃E,E=cur.toList.drop (M.length*4):=⟨_,rfl⟩
 have hEl:E.length=(c - M.length)*4:=by rw[hE,List.length_drop,Array.length_toList,hc3];omega
 have hcE:cur.toList=flatX cellsK (M.take k)++(flatX cellsK (M.drop k)++E):=by
  rw[<-List.append_assoc,<-flatX_append,List.take_append_drop,<-hc4,hE,List.take_append_drop]
 have hcA:cur=(flatX cellsK (M.take k)++(flatX cellsK (M.drop k)++E)).toArray :=by rw[<-hcE]
 have hov: ∀lb cb,(callFunc 233 #[.slice (some ⟨b,0,none⟩) 1 1,.slice (some ⟨g,(k+1)*4,none⟩) lb cb]).run Tryz.prog w= .ok (.value (.bool false)) w:=fun lb cb=>by
  obtain⟨i1,hi',hz0',hz1',hz2'⟩:=info_parts infoK
  rw[run_callFunc_extern Tryz.func233 (by kernel_rfl) (by kernel_rfl) (by kernel_rfl) (e:=Extern.SlicesOverlaps.overlaps #[23,23] #[4]) (by kernel_rfl),
   Lib.run_overlaps_apart w 23 4 60 Tryz.underlying23 4 (fun w=>by simp [sizeOf,typeInfo,hi',hz1']) ⟨b,0,none⟩ ⟨g,(k+1)*4,none⟩ 1 1 lb cb hne 60 60 4 (c*4) (shape_at hy) (by rw[<-hc3];exact shape_at hcur) (by omega) (frozen_at hy) (frozen_at hy)]
  rfl
 have HOV:=hid hov
 rw[hcA] at hcur
 have HG0:=hid hcur
 have HR:=hid (RdX.own cellsK_length hown)
 have HDR:=hid (HR.out.drop (by omega) k (by omega))
 rw[if_neg (by omega),Option.map_some,show(⟨g,0,none⟩:Addr).add (k*4)=⟨g,k*4,none⟩ from add_at g (k*4)] at HDR
 have HDN:=hid (RdX.news cellsK_length (by omega) (HDR.out.later (Below.refl _ w).drew))
 have HYN:Hid (∀w':World,w'.heap[b]?=w.heap[b]?-> ∀j u,(flatX cellsK [y])[j]?=some u->w'.cell? ((⟨b,0,none⟩:Addr).add j)=some u):=hid (fun w' hw'=>RdX.news cellsK_length (by omega) (src_one y b w' (hw'.trans hy)))
 have HF:=hid (splice_in (flatX cellsK (M.take k)) (flatX cellsK (M.drop k)) E (flatX cellsK [y]) (by rw[hlY];omega))
 rw[hA,hlY] at HF
 have H1Y:=hid (flatX_one cellsK_one [y])
 have H1D:=hid (flatX_one cellsK_one (M.drop k))
 have hpl:(flatX cellsK (M.take k)++(flatX cellsK (M.drop k)++E)).length =c*4:=by rw[List.length_append,List.length_append,hA,hD,hEl];omega
 have hsl:(splice (flatX cellsK (M.take k)++(flatX cellsK (M.drop k)++E)) ((k+1)*4) (flatX cellsK (M.drop k))).length =c*4:=by rw[length_splice _ _ _ (by rw[hpl,hD];omega),hpl]
 clear hov hcA hcE hE hcur hc3 hc4 hc1 hy hown HR HDR
 unfold Inserted
 rw[HM.out]
 generalize flatX cellsK (M.take k)=A at*
 generalize flatX cellsK (M.drop k)=D at*
 generalize flatX cellsK [y]=Y at*
 generalize M.length=N at*
 have hw1:IntKind.i64.wrap ((k:Int)+1)=(k:Int)+1:=by rw[IntKind.wrap_i64];omega
 have z1:((k:Int)==(N:Int))=false:=by simp;omega
 have z2:decide ((c:Int)<(N:Int)+1)=false:=decide_eq_false (by omega)
 have g1:(0:Int)<=(k:Int):=by omega
 have g2:(k:Int)<=(N:Int):=by omega
 have g3:decide ((k:Int)<0)=false:=by simp
 have g4:(0:Int)<=(k:Int)+1:=by omega
 have g5:((k:Int)+1).toNat =k+1:=by omega
 have g6:(N:Int)+1<=(c:Int):=by omega
 have g7:(k:Int)<=(N:Int)+1:=by omega
 have g8:(k:Int)+1<=(N:Int)+1:=by omega
 have g9:((N:Int)+1).toNat =N+1:=by omega
 have g10:(0:Int)<=(N:Int)+1:=by omega
 have n2: ¬(c=k):=by omega
 have n3: ¬(c=k+1):=by omega
 have mixed:Tryz.prog.follows Departure.mixedOrders=true:=by kernel_rfl
 go_enter Tryz.func220,Tryz.ntmps220
 go_wp2_with (simp only[HOV.out])
 go_region_law_o (refine step_copy_N rfl (.tmp 73) (.tmp 76) 23 23 rfl 60 4 Tryz.underlying23 sizeK g ((k+1)*4) (N+1 - (k+1)) (c - (k+1)) ⟨g,k*4,none⟩ (N+1 - k) (c - k) (by simp [Act.eval,Act.put]) (by simp [Act.eval,Act.put]) (A++(D++E)) 60 HG0.out D (by rw[hD];simp only[Nat.min_def];split<;>omega) HDN.out (by rw[hpl,hD];omega) H1D.out ?_;intro w3 HG3 HW3 r3)
 have HY3:=hid (HYN.out w3 (HW3.out.block b hbw (fun e=>by cases e;exact hne rfl)))
 go_wp2_with (refine wpList_copy_N rfl (.tmp 80) (.tmp 81) 23 23 rfl 60 4 Tryz.underlying23 sizeK g (k*4) (N+1 - k) (c - k) ⟨b,0,none⟩ 1 1 rfl rfl (splice (A++(D++E)) ((k+1)*4) D) 60 HG3.out Y (by rw[hlY];simp only[Nat.min_def];split<;>omega) HY3.out (by rw[hlY,hsl];omega) H1Y.out ?_;intro w4 HG4 HW4 r4)
 go_ret
 have hg4:=HG4.out
 rw[show(k+1)*4=k*4+4 by omega,HF.out] at hg4
 refine⟨_,rfl,⟨by simp [hA,hlY,hD];omega,.inr ⟨g,c,_,rfl,hbg,hg4,hroom,hmx,?_,?_⟩⟩,grown_trans (show w.grownBy w3 (some g) from⟨HW3.out.os,HW3.out.tape,HW3.out.output,HW3.out.size,HW3.out.block⟩) HW4.out⟩
 ·simp [hA,hlY,hD,hEl]
  omega
 ·have e:(N+1)*4=(A++(Y++D)).length :=by simp [hA,hlY,hD];omega
  rw[e,show A++(Y++(D++E.drop 4))=(A++(Y++D))++E.drop 4 by simp]
  exact List.take_left' rfl
theorem Insert_any (m:Value) (hown:w.ownsRow base 60 4 m M.length (flatX cellsK M)) (h5:M.length<=1000) (hb:base<=w.heap.size) (hy:w.heap[b]?=some (.cells #[.string (bstr y.name),.int .i64 y.holder,.int .i64 y.token,y.lv] 60)) (hk:k<=M.length) (hne:m.ownBlock≠some b):
  Calls Tryz.prog 220 #[m,.int .i64 (k:Int),.slice (some ⟨b,0,none⟩) 1 1] w (Inserted base m M k y w):=by
 rcases Nat.lt_or_ge k M.length with hlt | hge
 ·obtain⟨g,c,cur,rfl,hbg,hcur,hc1,hc2,hc3,hc4⟩:=row_open base M w hown (by omega)
  rcases Nat.lt_or_ge c (M.length+1) with q | q
  ·exact Insert_grow base M k y b w _ hown h5 hb hy hlt g c rfl q
  ·exact Insert_shift base M k y b w _ hown h5 hb hy hlt g c rfl q (fun e=>hne (by rw[e];rfl))
 ·exact Insert_end base M k y b w m hown h5 hb hy (by omega)
end
end Cm
end Go.Proofs.YtclcgkpfcogcdaaGreat
