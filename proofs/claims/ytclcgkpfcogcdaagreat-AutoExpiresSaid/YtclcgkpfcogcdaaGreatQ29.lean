/- Texts laid together by program. -/
import Derived.Test.YtclcgkpfcogcdaaGreatQ28
import Derived.Deep.RegionHeld3
/- Contracts: slices.Clone of memos; package auto's copyOf (made by tools/gen_auca.py). -/
set_option linter.unusedVariables false
set_option maxRecDepth 8000
set_option linter.unusedSimpArgs false
namespace Go.Proofs.YtclcgkpfcogcdaaGreat
open Lib (hid)
open List (getElem_toArray getElem_cons_succ getElem_cons_zero setIfInBounds_toArray set_cons_zero set_cons_succ)
open Go.RowKit Go.Shelf
namespace Cm

def MadeMR (l:List MemC) (w:World) (e:Ending) (w':World):Prop:=
 ∃v,e= .returned v/\w'.ownsRow w.heap.size 51 6 v l.length (flatX cellsM l)/\Below w.heap.size w w'
theorem CloneM_any (v:Value) (l:List MemC) (w:World) (h:RdX 6 cellsM w v l) (h5:l.length<=1000000):
  Calls Tryz.prog 109 #[v] w (MadeMR l w):=by
 obtain⟨i0,hi,hz0,hz1,hz2⟩:=info_parts infoM
 have heq: ∀w a n c,(binOp .eql 24 (.slice a n c) (.slice none 0 0)).run Tryz.prog w= .ok (.bool a.isNone) w:=fun w a n c=>Lib.run_eql_slice_nil w 24 51 a n c 0 0 Tryz.underlying24
 have HR:=hid h
 obtain⟨a,cap,rfl⟩:=h.form
 cases a with
 | none=>
  have hl:l= []:=by
   obtain⟨a',cap',hv,_,_,h3,_⟩:=h.ex
   cases hv
   exact(h3 rfl).1
  subst hl
  clear h
  go_enter Tryz.func109,Tryz.ntmps109
  go_wp2
  go_ret
  exact⟨_,rfl,World.ownsRow_nil _ _ _ _,Below.refl _ _⟩
 | some ad=>
  clear h
  have HR2:=hid (fun o=>HR.out.later (newAlloc w o))
  clear HR
  go_enter Tryz.func109,Tryz.ntmps109
  go_wp2_with (at_builtin;refine wpList_append_rdx cellsM_length (by omega) cellsM_one rfl _ _ 24 rfl w.heap.size 51 i0 _ 64 Tryz.underlying24 hi hz0 hz1 hz2 rfl _ 0 [] rfl (own_new w _ 6 _ _ rfl (Nat.le_refl _)) _ l rfl (HR2.out _) (by unfold maxLen;omega) (by omega) (newAlloc w (.cells #[] 51)).size ?_;intro v1 w2 hown2 hgrow2)
  go_ret
  refine⟨_,rfl,by simpa using hown2,(newAlloc w (.cells #[] 51)).grown hgrow2 (newAlloc w (.cells #[] 51)).size (fun k hk=>?_)⟩
  cases hk
  exact Nat.le_refl _
theorem BoxS.lens {w:World} {b:Nat} {x y:StC} (h:BoxS w b x) (e0:y.time=x.time) (e1:y.num=x.num) (e2:y.token=x.token) (e3:y.sv=x.sv) (e4:y.kv=x.kv) (e5:y.mv=x.mv):BoxS w b y:=by
 obtain⟨c0,c1,c2,c3,c4,c5,fr⟩:=h
 exact⟨by rw[c0,e0],by rw[c1,e1],by rw[c2,e2],by rw[c3,e3],by rw[c4,e4],by rw[c5,e5],fr⟩
structure CopK (base:Nat) (L:List LockC) (a:Option Addr) (p k:Nat) (M:List LockC) (W:World):Prop where
 len:M.length=L.length
 v:vals M=vals L
 row:W.ownsRow base 60 4 (.slice a L.length p) L.length (flatX cellsK M)
 new: ∀j (h:j<M.length),j<k->NewI base W M[j].lv M[j].line
 old: ∀j (h:j<M.length) (h2:j<L.length),k<=j->M[j]=L[j]
theorem CopK.later {base:Nat} {L:List LockC} {a:Option Addr} {p k:Nat} {M:List LockC} {W W':World} (h:CopK base L a p k M W) (hb:Below W.heap.size W W'):CopK base L a p k M W':=
 ⟨h.len,h.v,Rw.own_below h.row hb,fun j hj hk=>(h.new j hj hk).later hb,h.old⟩
theorem CopK.start {base:Nat} {L:List LockC} {a:Option Addr} {p:Nat} {W:World} (h:W.ownsRow base 60 4 (.slice a L.length p) L.length (flatX cellsK L)):CopK base L a p 0 L W:=
 ⟨rfl,rfl,h,fun j hj hk=>absurd hk (Nat.not_lt_zero _),fun j hj h2 hk=>rfl⟩
theorem CopK.setBelow {base:Nat} {L:List LockC} {a:Option Addr} {p k:Nat} {M:List LockC} {W:World} (h:CopK base L a p k M W) {g:Nat} (hg:g<base) (j:Nat) (u:Value):CopK base L a p k M (W.setCell ⟨g,j,none⟩ u):=
 ⟨h.len,h.v,ownsRow_setCell_below h.row hg _,fun j' hj hk=>(h.new j' hj hk).setBelow hg j u,h.old⟩
theorem CopK.all {base:Nat} {L:List LockC} {a:Option Addr} {p:Nat} {M:List LockC} {W:World} (h:CopK base L a p L.length M W):OwnN base W (.slice a M.length p) M:=by
 refine⟨by rw[h.len];exact h.row,fun x hx=>?_⟩
 obtain⟨j,hj,rfl⟩:=List.getElem_of_mem hx
 exact h.new j hj (by rw[<-h.len];exact hj)
theorem CopK.step {base:Nat} {L:List LockC} {g p k:Nat} {M:List LockC} {W:World} (h:CopK base L (some ⟨g,0,none⟩) p k M W) (hk:k<L.length) (b:Option Addr) (q:Nat) {base':Nat} (hbb:base<=base')
  (ho:W.ownsRow base' 3 1 (.slice b L[k].line.length q) L[k].line.length (flatX cellsI L[k].line)):
  CopK base L (some ⟨g,0,none⟩) p (k+1) (M.set k ⟨L[k].name,L[k].holder,L[k].token,L[k].line,b,q⟩) (W.setCell ⟨g,k*4+3,none⟩ (.slice b L[k].line.length q)):=by
 have hkM:k<M.length:=by rw[h.len];exact hk
 have e:=h.old k hkM hk (Nat.le_refl _)
 have hl:=own_lowerX ho hbb
 refine⟨by rw[List.length_set];exact h.len,?_,?_,fun j hj hjk=>?_,fun j hj h2 hjk=>?_⟩
 ·rw[vals_set,h.v]
  refine List.ext_getElem (by simp) fun i h1 h2=>?_
  rw[List.getElem_set]
  split
  ·rename_i q;subst q;rw[vals_get L k hk];rfl
  ·rfl
 ·have:=ownK_line h.row k hkM L[k].line b q
  rw[e] at this
  exact this
 ·rw[List.length_set] at hj
  by_cases q:k=j
  ·subst q
   rw[List.getElem_set_self]
   exact NewI.own (own_set_other h.row hl (by decide) _ _)
  ·rw[List.getElem_set_ne q]
   exact(h.new j hj (by omega)).other h.row (grown_set (World.grownBy.refl _ _) _ _)
 ·rw[List.getElem_set_ne (by omega)]
  exact h.old j (by rw[List.length_set] at hj;exact hj) h2 (by omega)
structure CopM (base:Nat) (L:List MemC) (a:Option Addr) (p k:Nat) (M:List MemC) (W:World):Prop where
 len:M.length=L.length
 v:valsM M=valsM L
 row:W.ownsRow base 51 6 (.slice a L.length p) L.length (flatX cellsM M)
 new: ∀j (h:j<M.length),j<k->W.ownsRow base 57 2 M[j].hv M[j].m.rep.held.length (flatX cellsG M[j].m.rep.held)
 old: ∀j (h:j<M.length) (h2:j<L.length),k<=j->M[j]=L[j]
theorem CopM.later {base:Nat} {L:List MemC} {a:Option Addr} {p k:Nat} {M:List MemC} {W W':World} (h:CopM base L a p k M W) (hb:Below W.heap.size W W'):CopM base L a p k M W':=
 ⟨h.len,h.v,Rw.own_below h.row hb,fun j hj hk=>Rw.own_below (h.new j hj hk) hb,h.old⟩
theorem CopM.start {base:Nat} {L:List MemC} {a:Option Addr} {p:Nat} {W:World} (h:W.ownsRow base 51 6 (.slice a L.length p) L.length (flatX cellsM L)):CopM base L a p 0 L W:=
 ⟨rfl,rfl,h,fun j hj hk=>absurd hk (Nat.not_lt_zero _),fun j hj h2 hk=>rfl⟩
theorem CopM.all {base:Nat} {L:List MemC} {a:Option Addr} {p:Nat} {M:List MemC} {W:World} (h:CopM base L a p L.length M W):OwnM base W (.slice a M.length p) M:=by
 refine⟨by rw[h.len];exact h.row,fun x hx=>?_⟩
 obtain⟨j,hj,rfl⟩:=List.getElem_of_mem hx
 exact h.new j hj (by rw[<-h.len];exact hj)
theorem CopM.step {base:Nat} {L:List MemC} {g p k:Nat} {M:List MemC} {W:World} (h:CopM base L (some ⟨g,0,none⟩) p k M W) (hk:k<L.length) (b:Option Addr) (q:Nat) {base':Nat} (hbb:base<=base')
  (ho:W.ownsRow base' 57 2 (.slice b L[k].m.rep.held.length q) L[k].m.rep.held.length (flatX cellsG L[k].m.rep.held)):
  CopM base L (some ⟨g,0,none⟩) p (k+1) (M.set k ⟨L[k].m,b,q⟩) (W.setCell ⟨g,k*6+5,none⟩ (.slice b L[k].m.rep.held.length q)):=by
 have hkM:k<M.length:=by rw[h.len];exact hk
 have e:=h.old k hkM hk (Nat.le_refl _)
 have hl:=own_lowerX ho hbb
 refine⟨by rw[List.length_set];exact h.len,?_,?_,fun j hj hjk=>?_,fun j hj h2 hjk=>?_⟩
 ·rw[<-h.v]
  refine List.ext_getElem (by simp [valsM]) fun i h1 h2=>?_
  rw[valsM_get _ i (by rw[valsM_length] at h1;exact h1),valsM_get M i (by rw[valsM_length] at h2;exact h2),List.getElem_set]
  split
  ·rename_i q;subst q;rw[e]
  ·rfl
 ·have h1:=(h.row.stored (k*6+5) (.slice b L[k].m.rep.held.length q)).1
  rw[flatX_set cellsM_length 5 (.slice b L[k].m.rep.held.length q) (by omega) ⟨L[k].m,b,q⟩ M k hkM (by rw[e];rfl)] at h1
  exact h1
 ·rw[List.length_set] at hj
  by_cases q:k=j
  ·subst q
   rw[List.getElem_set_self]
   exact own_set_other h.row hl (by decide) _ _
  ·rw[List.getElem_set_ne q]
   exact own_set_other h.row (h.new j hj (by omega)) (by decide) _ _
 ·rw[List.getElem_set_ne (by omega)]
  exact h.old j (by rw[List.length_set] at hj;exact hj) h2 (by omega)
theorem ownM6_at {w:World} {base g n cap:Nat} {M:List MemC} (h:w.ownsRow base 51 6 (.slice (some ⟨g,0,none⟩) n cap) n (flatX cellsM M)) (hn:M.length=n) (k:Nat) (hk:k<M.length):
  (w.cell? ⟨g,k*6,none⟩=some (.int .i64 M[k].m.client)/\w.cell? ⟨g,k*6+1,none⟩=some (.int .i64 M[k].m.seq)/\w.cell? ⟨g,k*6+2,none⟩=some (.int .i64 M[k].m.rep.code))/\w.cell? ⟨g,k*6+3,none⟩=some (.int .i64 M[k].m.rep.session)/\w.cell? ⟨g,k*6+4,none⟩=some (.int .i64 M[k].m.rep.ahead)/\w.cell? ⟨g,k*6+5,none⟩=some M[k].hv /\ ∀j,w.frozen? ⟨g,j,none⟩=false:=by
 have a0:=h.cellAt (k*6+0) (by omega)
 have a1:=h.cellAt (k*6+1) (by omega)
 have a2:=h.cellAt (k*6+2) (by omega)
 have a3:=h.cellAt (k*6+3) (by omega)
 have a4:=h.cellAt (k*6+4) (by omega)
 have a5:=h.cellAt (k*6+5) (by omega)
 rw[flatX_get cellsM_length M k hk 0 (by omega)] at a0
 rw[flatX_get cellsM_length M k hk 1 (by omega)] at a1
 rw[flatX_get cellsM_length M k hk 2 (by omega)] at a2
 rw[flatX_get cellsM_length M k hk 3 (by omega)] at a3
 rw[flatX_get cellsM_length M k hk 4 (by omega)] at a4
 rw[flatX_get cellsM_length M k hk 5 (by omega)] at a5
 exact⟨⟨a0,a1,a2⟩,a3,a4,a5,fun j=>h.frozenAt j⟩
theorem OwnN.otherM {base b1 s n1 cap:Nat} {w:World} {v:Value} {M:List LockC} {g:Nat} {xs:List Value} (h:OwnN base w v M) (hr:w.ownsRow b1 51 s (.slice (some ⟨g,0,none⟩) n1 cap) n1 xs) (j:Nat) (u:Value):OwnN base (w.setCell ⟨g,j,none⟩ u) v M:=by
 refine⟨own_set_other hr h.row (by decide) j u,fun x hx=>?_⟩
 refine(h.line x hx).keep fun g' hg'=>?_
 obtain⟨h1,cs,h2⟩:=(h.line x hx).2 g' hg'
 refine Below.heap_setCell w ⟨g,j,none⟩ u g' fun q=>?_
 have q:g'=g:=q
 subst q
 rcases hr.2 with ⟨q,_⟩ | ⟨g1,cap1,cur,q,_,q2,_⟩
 ·cases q
 ·have e:g'=g1:=by injection q with q;injection q with q;injection q
  subst e
  rw[h2] at q2
  injection q2 with q2
  injection q2 with _ q2
  exact absurd q2 (by decide)
set_option maxHeartbeats 8000000 in
theorem CopyA_any (x:StC) (w:World) (h:RdSt w x) (hs:Small x):Calls Tryz.prog 56 #[stVal x] w (GetsSt x.v x w):=by
 obtain⟨W1,hW1⟩: ∃W1,W1=w.alloc (.cells #[.int .i64 x.time,.int .i64 x.num,.int .i64 x.token,x.sv,x.kv,x.mv] 26):=⟨_,rfl⟩
 have hb1:Below w.heap.size w W1:=by rw[hW1];exact newAlloc _ _
 have hB1:BoxS W1 w.heap.size x:=by rw[hW1];exact BoxS.new w x _
 have hs1:W1.heap.size=w.heap.size+1:=by rw[hW1];simp
 obtain⟨W2,hW2⟩: ∃W2,W2=W1.alloc (.cells #[.int .i64 0,.int .i64 0,.int .i64 0,.slice none 0 0,.slice none 0 0,.slice none 0 0] 26):=⟨_,rfl⟩
 have hb2:Below W1.heap.size W1 W2:=by rw[hW2];exact newAlloc _ _
 have hZ:BoxS W2 (w.heap.size+1) zeroC10:=by rw[<-hs1,hW2];exact BoxS.new W1 zeroC10 _
 have HX0:=hid (hB1.later hb2)
 have HZ0:=hid hZ
 have HB2:=hid (step hb1 hb2)
 have hs2:W2.heap.size=w.heap.size+2:=by rw[hW2];simp [hs1]
 have KS:=hid (fun W (hb:Below w.heap.size w W)=>CloneS_any x.sv x.S W (h.later hb).s (by have:=hs.s;omega))
 have KK:=hid (fun W (hb:Below w.heap.size w W)=>CloneK_any x.kv x.K W (h.later hb).k.row (by have:=hs.k;omega))
 have KM:=hid (fun W (hb:Below w.heap.size w W)=>CloneM_any x.mv x.M W (h.later hb).m.row (by have:=hs.m;omega))
 have KI:=hid (fun i (hi:i<x.K.length) W (hb:Below w.heap.size w W)=>CloneI_any x.K[i].lv x.K[i].line W ((h.later hb).k.line _ (List.getElem_mem hi)) (by have:=hs.l _ (List.getElem_mem hi);omega))
 have KH:=hid (fun i (hi:i<x.M.length) W (hb:Below w.heap.size w W)=>CloneH_any x.M[i].hv x.M[i].m.rep.held W ((h.later hb).m.held _ (List.getElem_mem hi)) (by have:=hs.h _ (List.getElem_mem hi);omega))
 have hk5:=hs.k
 have hm5:=hs.m
 obtain⟨HI,hHI'⟩: ∃HI,W2.heap.size=HI:=⟨_,rfl⟩
 obtain⟨nb,hnb⟩: ∃nb,w.heap.size=nb:=⟨_,rfl⟩
 have HNB:=hid hnb
 have hlt1:nb+1<HI:=by omega
 have hHI:w.heap.size<=HI:=by omega
 have hsz0:HI<=W2.heap.size:=Nat.le_of_eq hHI'.symm
 rw[hnb] at HX0 HZ0
 clear hnb h hs hb1 hb2 hB1 hZ hs1 hs2 hHI'
 obtain⟨xt,xn,xk,xS,sa,sc,xK,ka,kc,xM,ma,mc⟩:=x
 unfold stVal
 simp only[StC.sv,StC.kv,StC.mv] at hW1 KS KK KM KI KH ⊢
 dsimp only at hk5 hm5
 have hkm:xK.length<=9223372036854775807:=by omega
 have hmm:xM.length<=9223372036854775807:=by omega
 obtain⟨c0,c1,c2,c3,c4,c5,cf⟩:=HX0.out
 simp only[StC.sv,StC.kv,StC.mv] at c0 c1 c2 c3 c4 c5
 go_enter Tryz.func56,Tryz.ntmps56
 go_upto_region 1 with fail
 rw[<-hW1,<-hW2]
 rw[HNB.out]
 clear hW1 hW2
 go_upto_region 2 with (go_at_call 106;refine(KS.out _ HB2.out).mono ?_;rintro e w3 ⟨v3,rfl,ho3,hb3⟩;obtain⟨a3,p3,rfl⟩:=Rw.own_form ho3;have HO3:=hid ho3;have HB3:=hid hb3;obtain⟨d0,d1,d2,d3,d4,d5,df⟩:=HX0.out.later hb3;simp only[StC.sv,StC.kv,StC.mv] at d0 d1 d2 d3 d4 d5;clear ho3 hb3)
 have hX3:=(HX0.out.later HB3.out).set3 xS a3 p3
 have hZ3:=(HZ0.out.later HB3.out).other (show nb≠nb+1 by omega) 3 (.slice a3 xS.length p3)
 have hO3:=ownsRow_setCell_below (a:=⟨nb,3,none⟩) HO3.out (show nb<W2.heap.size by omega) (.slice a3 xS.length p3)
 have hB3:Below w.heap.size w (w3.setCell ⟨nb,3,none⟩ (.slice a3 xS.length p3)):=(step HB2.out HB3.out).setCell (Nat.le_of_eq HNB.out) _
 have hsz3:HI<=(w3.setCell ⟨nb,3,none⟩ (.slice a3 xS.length p3)).heap.size :=by simpa using Nat.le_trans hsz0 HB3.out.size
 obtain⟨W3,hW3⟩: ∃W3,W3=w3.setCell ⟨nb,3,none⟩ (.slice a3 xS.length p3):=⟨_,rfl⟩
 rw[<-hW3] at hX3 hZ3 hO3 hB3 hsz3 ⊢
 have HX3:=hid hX3
 have HZ3:=hid hZ3
 have HOS3:=hid (own_lowerX hO3 hsz0)
 have HBN3:=hid hB3
 clear hW3 hX3 hZ3 hO3 hB3 c0 c1 c2 c3 c4 c5 cf d0 d1 d2 d3 d4 d5 df HX0 HZ0 HO3 HB3 KS
 obtain⟨c0,c1,c2,c3,c4,c5,cf⟩:=HX3.out
 simp only[StC.sv,StC.kv,StC.mv] at c0 c1 c2 c3 c4 c5
 go_upto_region 3 with (go_at_call 107;refine(KK.out _ HBN3.out).mono ?_;rintro e w4 ⟨v4,rfl,ho4,hb4⟩;obtain⟨a4,p4,rfl⟩:=Rw.own_form ho4;have HO4:=hid ho4;have HB4:=hid hb4;obtain⟨d0,d1,d2,d3,d4,d5,df⟩:=HX3.out.later hb4;simp only[StC.sv,StC.kv,StC.mv] at d0 d1 d2 d3 d4 d5;clear ho4 hb4)
 have hX4:=(HX3.out.later HB4.out).set4 xK a4 p4
 have hZ4:=(HZ3.out.later HB4.out).other (show nb≠nb+1 by omega) 4 (.slice a4 xK.length p4)
 have hOS4:=ownsRow_setCell_below (a:=⟨nb,4,none⟩) (Rw.own_below HOS3.out HB4.out) (show nb<HI by omega) (.slice a4 xK.length p4)
 have hO4:=ownsRow_setCell_below (a:=⟨nb,4,none⟩) (own_lowerX HO4.out hsz3) (show nb<HI by omega) (.slice a4 xK.length p4)
 have hB4:Below w.heap.size w (w4.setCell ⟨nb,4,none⟩ (.slice a4 xK.length p4)):=(step HBN3.out HB4.out).setCell (Nat.le_of_eq HNB.out) _
 have hsz4:HI<=(w4.setCell ⟨nb,4,none⟩ (.slice a4 xK.length p4)).heap.size :=by simpa using Nat.le_trans hsz3 HB4.out.size
 obtain⟨W4,hW4⟩: ∃W4,W4=w4.setCell ⟨nb,4,none⟩ (.slice a4 xK.length p4):=⟨_,rfl⟩
 rw[<-hW4] at hX4 hZ4 hOS4 hO4 hB4 hsz4 ⊢
 have HX4:=hid hX4
 have HZ4:=hid hZ4
 have HOS4:=hid hOS4
 have HOK4:=hid (CopK.start hO4)
 have HBN4:=hid hB4
 clear hW4 hX4 hZ4 hO4 hOS4 hB4 c0 c1 c2 c3 c4 c5 cf d0 d1 d2 d3 d4 d5 df HX3 HZ3 HO4 HB4 KK HOS3
 obtain⟨N,hN⟩: ∃N,xK.length=N:=⟨_,rfl⟩
 have HNN:=hid hN
 obtain⟨c0,c1,c2,c3,c4,c5,cf⟩:=HX4.out
 simp only[StC.sv,StC.kv,StC.mv] at c0 c1 c2 c3 c4 c5
 rw[hN] at hkm hk5 c4
 clear hN
 go_wp2
 go_loopw [18] (fun i wr=> ∃(k:Nat) (M:List LockC),k<=N/\i= .int .i64 k/\HI<=wr.heap.size/\Hid (BoxS wr nb ⟨xt,xn,xk,xS,a3,p3,xK,a4,p4,xM,ma,mc⟩)/\Hid (BoxS wr (nb+1) zeroC10)/\Hid (wr.ownsRow HI 46 3 (.slice a3 xS.length p3) xS.length (flatX cellsS xS))/\Hid (CopK HI xK a4 p4 k M wr)/\Hid (Below w.heap.size w wr)) (fun i _=>N - (intOf i).toNat)
 case atStart=>exact⟨0,xK,by omega,rfl,hsz4,HX4,HZ4,HOS4,HOK4,HBN4⟩
 case round=>
  clear c0 c1 c2 c3 c4 c5 cf HX4 HZ4 HOS4 HOK4 HBN4
  obtain⟨k,M,hk,rfl,hsz,HX,HZ,HOS,HOK,HB⟩:=hrel
  obtain⟨c0,c1,c2,c3,c4,c5,cf⟩:=HX.out
  simp only[StC.sv,StC.kv,StC.mv] at c0 c1 c2 c3 c4 c5
  rw[HNN.out] at c4
  by_cases hkN:k<N
  ·have hkK:k<xK.length:=by rw[HNN.out];exact hkN
   have hkM:k<M.length:=by rw[HOK.out.len];exact hkK
   have hrow:=HOK.out.row
   obtain⟨g,rfl,hg⟩:=own_some (sz:=4) hrow (by omega)
   obtain⟨q0,q1,q2,q3,qf⟩:=ownK_at hrow HOK.out.len k hkM
   rw[HOK.out.old k hkM hkK (Nat.le_refl _)] at q0 q1 q2 q3
   have HST:=hid (fun W (hb:Below wr.heap.size wr W) b q base' (hbb:HI<=base') ho=>(HOK.out.later hb).step hkK b q (base':=base') hbb ho)
   have KIk:=hid (fun W (hb:Below w.heap.size w W)=>KI.out k hkK W hb)
   have HGA:Hid (∀W,Below wr.heap.size wr W->W.frozen? ⟨g,k*4+3,none⟩=false/\ ∃u,W.cell? ⟨g,k*4+3,none⟩=some u):=hid (fun W hb=>by
    obtain⟨r0,r1,r2,r3,rf⟩:=ownK_at (HOK.out.later hb).row HOK.out.len k hkM
    exact⟨rf _,_,r3⟩)
   clear KI hrow qf
   generalize xK[k]=z at q0 q1 q2 q3 HST KIk
   obtain⟨zn,zh,zt,zl,za,zp⟩:=z
   unfold LockC.lv at q3 KIk
   dsimp only at q0 q1 q2 q3 HST KIk
   have f1:(0:Int)<=(k:Int):=by omega
   have f2:(k:Int)<(N:Int):=by omega
   obtain⟨W5,hW5⟩: ∃W5,W5=wr.alloc (.cells #[.string (bstr zn),.int .i64 zh,.int .i64 zt,.slice za zl.length zp] 60):=⟨_,rfl⟩
   have HB5:Hid (Below wr.heap.size wr W5):=hid (by rw[hW5];exact newAlloc _ _)
   have HY5:Hid (∀W,Below W5.heap.size W5 W->W.cell? ⟨wr.heap.size,3,none⟩=some (.slice za zl.length zp)):=hid fun W hb=>by
    rw[hW5] at hb
    exact(box4 hb).2.2.2
   have HB05:=hid (step HB.out HB5.out)
   have HXW:=hid (fun W (hb:Below W5.heap.size W5 W)=>HX.out.later (step HB5.out hb))
   have hgl:g≠wr.heap.size:=by
    obtain⟨_,_,q⟩:=HGA.out wr (Below.refl _ _)
    have:=lt_of_cell q
    have:g<wr.heap.size:=this
    omega
   have hgn:g≠nb:=by omega
   have hgz:g≠nb+1:=by omega
   have HWW:=hid hW5
   clear hW5
   obtain⟨ZN,hZN⟩: ∃ZN,zl.length=ZN:=⟨_,rfl⟩
   have HZN:=hid hZN
   rw[hZN] at q3 HWW HY5
   go_upto_region 6 with fail
   rw[<-HWW.out]
   clear HWW q0 q1 q2 q3 c0 c1 c2 c3 c4 c5 cf
   refine wp_region_held_drew (S:=(fun W=>W.cell? ⟨nb,4,none⟩=some (.slice (some ⟨g,0,none⟩) N p4)/\W.cell? ⟨wr.heap.size,3,none⟩=some (.slice za ZN zp))) (by kernel_rfl) (⟨by have:=(HXW.out _ ((Below.refl _ W5).drew)).c4;simp only[StC.sv,StC.kv,StC.mv] at this;rw[HNN.out] at this;exact this,HY5.out _ ((Below.refl _ W5).drew)⟩) (fun hHeld=>?_)
   refine wpAnyH_take (i:=0) (v:=?_) rfl (by kernel_rfl) (by kernel_rfl) (by kernel_rfl) (fun _ _ _ h=>h) (Or.inl ⟨by rfl,?_⟩) (by assumption) ?_
   rotate_left
   ·intro w hSw;(try dsimp only at hSw);go_simp<;>with_reducible rfl
   try simp only[Act.put,getElem_toArray,getElem_cons_zero,setIfInBounds_toArray,set_cons_zero,set_cons_succ]
   refine wpAnyH_take (i:=1) (v:=?_) rfl (by kernel_rfl) (by kernel_rfl) (by kernel_rfl) (fun _ _ _ h=>h) (Or.inl ⟨by rfl,?_⟩) (by assumption) ?_
   rotate_left
   ·intro w hSw;(try dsimp only at hSw);go_simp<;>with_reducible rfl
   try simp only[Act.put,getElem_toArray,getElem_cons_succ,getElem_cons_zero,setIfInBounds_toArray,set_cons_zero,set_cons_succ]
   refine wpAnyH_take (i:=2) (v:=?_) rfl (by kernel_rfl) (by kernel_rfl) (by kernel_rfl) (fun _ _ _ h=>h) (Or.inl ⟨by rfl,?_⟩) (by assumption) ?_
   rotate_left
   ·intro w hSw;(try dsimp only at hSw);go_simp<;>with_reducible rfl
   try simp only[Act.put,getElem_toArray,getElem_cons_succ,getElem_cons_zero,setIfInBounds_toArray,set_cons_zero,set_cons_succ]
   refine wpAnyH_take (i:=3) (v:=?_) rfl (by kernel_rfl) (by kernel_rfl) (by kernel_rfl) (fun _ _ _ h=>h) (Or.inl ⟨by rfl,?_⟩) (by assumption) ?_
   rotate_left
   ·intro w hSw;(try dsimp only at hSw);go_simp<;>with_reducible rfl
   try simp only[Act.put,getElem_toArray,getElem_cons_succ,getElem_cons_zero,setIfInBounds_toArray,set_cons_zero,set_cons_succ]
   refine wpAnyH_take (i:=4) (v:=?_) rfl (by kernel_rfl) (by kernel_rfl) (by kernel_rfl) (fun _ _ _ h=>h) (Or.inl ⟨by rfl,?_⟩) (by assumption) ?_
   rotate_left
   ·intro w hSw;(try dsimp only at hSw);go_simp<;>with_reducible rfl
   try simp only[Act.put,getElem_toArray,getElem_cons_succ,getElem_cons_zero,setIfInBounds_toArray,set_cons_zero,set_cons_succ]
   refine wpAnyH_ready (rs:= [5]) (by kernel_rfl) (by simp) ?_
   refine AllReadyH.cons rfl (fun K hK=>?_) AllReadyH.nil
   go_simp
   go_at_call 108
   rw[<-HZN.out]
   refine(KIk.out _ (step HB05.out (Below.refl _ W5).drew)).mono ?_
   rintro e w6 ⟨v6,rfl,ho6,hb6⟩
   obtain⟨a6,p6,rfl⟩:=Rw.own_form ho6
   rw[HZN.out] at ho6 ⊢
   have HO6:=hid ho6
   have HB6:Hid (Below W5.heap.size W5 w6):=hid (step (Below.refl W5.heap.size W5).drew hb6)
   have HB56:=hid (step HB5.out HB6.out)
   obtain⟨gf,gu,gc⟩:=HGA.out w6 HB56.out
   clear ho6 hb6
   refine hK.out _ _ (⟨by have:=(HXW.out _ (HB6.out)).c4;simp only[StC.sv,StC.kv,StC.mv] at this;rw[HNN.out] at this;exact this,HY5.out _ (HB6.out)⟩) (fun hHeld=>?_)
   clear hK K
   try simp only[Act.put,getElem_toArray,getElem_cons_succ,getElem_cons_zero,setIfInBounds_toArray,set_cons_zero,set_cons_succ]
   refine wpAnyH_take (i:=6) (v:=?_) rfl (by kernel_rfl) (by kernel_rfl) (by kernel_rfl) (fun _ _ _ h=>h) (Or.inl ⟨by rfl,?_⟩) (by assumption) ?_
   rotate_left
   ·intro w hSw;(try dsimp only at hSw);go_simp<;>with_reducible rfl
   try simp only[Act.put,getElem_toArray,getElem_cons_succ,getElem_cons_zero,setIfInBounds_toArray,set_cons_zero,set_cons_succ]
   refine wpAnyH_take (i:=7) (v:=?_) rfl (by kernel_rfl) (by kernel_rfl) (by kernel_rfl) (fun _ _ _ h=>h) (Or.inl ⟨by rfl,?_⟩) (by assumption) ?_
   rotate_left
   ·intro w hSw;(try dsimp only at hSw);go_simp<;>with_reducible rfl
   try simp only[Act.put,getElem_toArray,getElem_cons_succ,getElem_cons_zero,setIfInBounds_toArray,set_cons_zero,set_cons_succ]
   refine wpAnyH_ready (rs:= [8]) (by kernel_rfl) (by simp) ?_
   refine AllReadyH.cons rfl (fun K hK=>?_) AllReadyH.nil
   go_simp
   refine hK.out _ _ (⟨by have:=((HXW.out _ HB6.out).other hgn (k*4+3) (.slice a6 ZN p6)).c4;simp only[StC.sv,StC.kv,StC.mv] at this;rw[HNN.out] at this;exact this,by have:=HY5.out _ HB6.out;have n1:wr.heap.size≠g:=fun q=>hgl q.symm;simp [go_sem,n1,this]⟩) (fun hHeld=>?_)
   clear hK K
   try simp only[Act.put,getElem_toArray,getElem_cons_succ,getElem_cons_zero,setIfInBounds_toArray,set_cons_zero,set_cons_succ]
   refine wpAnyH_done (by kernel_rfl) ?_ _
   have hC7:=HST.out w6 HB56.out a6 p6 W5.drew.heap.size (Nat.le_trans hsz HB5.out.size) (by rw[HZN.out];exact HO6.out)
   rw[HZN.out] at hC7
   have hX7:=(HX.out.later HB56.out).other hgn (k*4+3) (.slice a6 ZN p6)
   have hZ7:=(HZ.out.later HB56.out).other hgz (k*4+3) (.slice a6 ZN p6)
   have hS7:=own_set_other (HOK.out.later HB56.out).row (Rw.own_below HOS.out HB56.out) (by decide) (k*4+3) (.slice a6 ZN p6)
   have hB7:Below w.heap.size w (w6.setCell ⟨g,k*4+3,none⟩ (.slice a6 ZN p6)):=(step HB.out HB56.out).setCell (Nat.le_trans hHI hg) _
   have hsz7:HI<=(w6.setCell ⟨g,k*4+3,none⟩ (.slice a6 ZN p6)).heap.size :=by simpa using Nat.le_trans hsz HB56.out.size
   have HC7:=hid hC7
   have HX7:=hid hX7
   have HZ7:=hid hZ7
   have HS7:=hid hS7
   have HB7:=hid hB7
   clear hC7 hX7 hZ7 hS7 hB7
   go_wp2
   go_roundw
   case rel=>exact⟨k+1,_,by omega,by go_num,hsz7,HX7,HZ7,HS7,HC7,HB7⟩
   case measure=>simp [intOf];omega
  ·obtain rfl:k=N:=by omega
   have HOKN:Hid (OwnN HI wr (.slice a4 M.length p4) M):=hid (by
    have:=HOK.out
    rw[<-HNN.out] at this
    exact this.all)
   have HVK:=hid HOK.out.v
   have HLK:=hid HOK.out.len
   clear KI HOK
   go_upto_region 9 with (go_at_call 109;refine(KM.out _ HB.out).mono ?_;rintro e w8 ⟨v8,rfl,ho8,hb8⟩;obtain⟨a8,p8,rfl⟩:=Rw.own_form ho8;have HO8:=hid ho8;have HB8:=hid hb8;obtain⟨d0,d1,d2,d3,d4,d5,df⟩:=HX.out.later hb8;simp only[StC.sv,StC.kv,StC.mv] at d0 d1 d2 d3 d4 d5;clear ho8 hb8)
   have hX9:=(HX.out.later HB8.out).set5 xM a8 p8
   have hZ9:=(HZ.out.later HB8.out).other (show nb≠nb+1 by omega) 5 (.slice a8 xM.length p8)
   have hOS9:=ownsRow_setCell_below (a:=⟨nb,5,none⟩) (Rw.own_below HOS.out HB8.out) (show nb<HI by omega) (.slice a8 xM.length p8)
   have hOK9:=(HOKN.out.later HB8.out).setBelow (show nb<HI by omega) 5 (.slice a8 xM.length p8)
   have hO9:=ownsRow_setCell_below (a:=⟨nb,5,none⟩) (own_lowerX HO8.out hsz) (show nb<HI by omega) (.slice a8 xM.length p8)
   have hB9:Below w.heap.size w (w8.setCell ⟨nb,5,none⟩ (.slice a8 xM.length p8)):=(step HB.out HB8.out).setCell (Nat.le_of_eq HNB.out) _
   have hsz9:HI<=(w8.setCell ⟨nb,5,none⟩ (.slice a8 xM.length p8)).heap.size :=by simpa using Nat.le_trans hsz HB8.out.size
   obtain⟨W9,hW9⟩: ∃W9,W9=w8.setCell ⟨nb,5,none⟩ (.slice a8 xM.length p8):=⟨_,rfl⟩
   rw[<-hW9] at hX9 hZ9 hOS9 hOK9 hO9 hB9 hsz9 ⊢
   have HX9:=hid hX9
   have HZ9:=hid hZ9
   have HOS9:=hid hOS9
   have HOK9:=hid hOK9
   have HOM9:=hid (CopM.start hO9)
   have HBN9:=hid hB9
   clear hW9 hX9 hZ9 hO9 hOS9 hOK9 hB9 c0 c1 c2 c3 c4 c5 cf d0 d1 d2 d3 d4 d5 df HX HZ HO8 HB8 KM HOS HOKN
   obtain⟨NM,hNM⟩: ∃NM,xM.length=NM:=⟨_,rfl⟩
   have HNM:=hid hNM
   obtain⟨c0,c1,c2,c3,c4,c5,cf⟩:=HX9.out
   simp only[StC.sv,StC.kv,StC.mv] at c0 c1 c2 c3 c4 c5
   rw[hNM] at hmm hm5 c5
   clear hNM
   go_wp2
   go_loopw [39] (fun i wm=> ∃(k:Nat) (Q:List MemC),k<=NM/\i= .int .i64 k/\HI<=wm.heap.size/\Hid (BoxS wm nb ⟨xt,xn,xk,xS,a3,p3,xK,a4,p4,xM,a8,p8⟩)/\Hid (BoxS wm (nb+1) zeroC10)/\Hid (wm.ownsRow HI 46 3 (.slice a3 xS.length p3) xS.length (flatX cellsS xS))/\Hid (OwnN HI wm (.slice a4 M.length p4) M)/\Hid (CopM HI xM a8 p8 k Q wm)/\Hid (Below w.heap.size w wm)) (fun i _=>NM - (intOf i).toNat)
   case atStart=>exact⟨0,xM,by omega,rfl,hsz9,HX9,HZ9,HOS9,HOK9,HOM9,HBN9⟩
   case round=>
    clear c0 c1 c2 c3 c4 c5 cf HX9 HZ9 HOS9 HOK9 HOM9 HBN9
    obtain⟨k,Q,hk,rfl,hsz,HX,HZ,HOS,HOK,HOM,HB⟩:=hrel
    obtain⟨c0,c1,c2,c3,c4,c5,cf⟩:=HX.out
    simp only[StC.sv,StC.kv,StC.mv] at c0 c1 c2 c3 c4 c5
    rw[HNM.out] at c5
    by_cases hkN:k<NM
    ·have hkK:k<xM.length:=by rw[HNM.out];exact hkN
     have hkM:k<Q.length:=by rw[HOM.out.len];exact hkK
     have hrow:=HOM.out.row
     obtain⟨g,rfl,hg⟩:=own_some (sz:=6) hrow (by omega)
     obtain⟨⟨q0,q1,q2⟩,q3,q4,q5,qf⟩:=ownM6_at hrow HOM.out.len k hkM
     rw[HOM.out.old k hkM hkK (Nat.le_refl _)] at q0 q1 q2 q3 q4 q5
     have HST:=hid (fun W (hb:Below wr.heap.size wr W) b q base' (hbb:HI<=base') ho=>(HOM.out.later hb).step hkK b q (base':=base') hbb ho)
     have KIk:=hid (fun W (hb:Below w.heap.size w W)=>KH.out k hkK W hb)
     have HGA:Hid (∀W,Below wr.heap.size wr W->W.frozen? ⟨g,k*6+5,none⟩=false/\ ∃u,W.cell? ⟨g,k*6+5,none⟩=some u):=hid (fun W hb=>by
      obtain⟨r0,r1,r2,r3,rf⟩:=ownM6_at (HOM.out.later hb).row HOM.out.len k hkM
      exact⟨rf _,_,r3⟩)
     clear KH hrow qf
     generalize xM[k]=z at q0 q1 q2 q3 q4 q5 HST KIk
     obtain⟨⟨zc,zs,zk,zn,zd,zl⟩,za,zp⟩:=z
     unfold MemC.hv at q5 KIk
     dsimp only at q0 q1 q2 q3 q4 q5 HST KIk
     have f1:(0:Int)<=(k:Int):=by omega
     have f2:(k:Int)<(NM:Int):=by omega
     obtain⟨W5,hW5⟩: ∃W5,W5=wr.alloc (.cells #[.int .i64 zc,.int .i64 zs,.int .i64 zk,.int .i64 zn,.int .i64 zd,.slice za zl.length zp] 51):=⟨_,rfl⟩
     have HB5:Hid (Below wr.heap.size wr W5):=hid (by rw[hW5];exact newAlloc _ _)
     have HY5:Hid (∀W,Below W5.heap.size W5 W->W.cell? ⟨wr.heap.size,5,none⟩=some (.slice za zl.length zp)):=hid fun W hb=>by
      rw[hW5] at hb
      exact(box6 hb).2.2.2.2.2
     have HB05:=hid (step HB.out HB5.out)
     have HXW:=hid (fun W (hb:Below W5.heap.size W5 W)=>HX.out.later (step HB5.out hb))
     have hgl:g≠wr.heap.size:=by
      obtain⟨_,_,q⟩:=HGA.out wr (Below.refl _ _)
      have:=lt_of_cell q
      have:g<wr.heap.size:=this
      omega
     have hgn:g≠nb:=by omega
     have hgz:g≠nb+1:=by omega
     have HWW:=hid hW5
     clear hW5
     obtain⟨ZN,hZN⟩: ∃ZN,zl.length=ZN:=⟨_,rfl⟩
     have HZN:=hid hZN
     rw[hZN] at q5 HWW HY5
     go_upto_region 12 with fail
     rw[<-HWW.out]
     clear HWW q0 q1 q2 q3 q4 q5 c0 c1 c2 c3 c4 c5 cf
     refine wp_region_held_drew (S:=(fun W=>W.cell? ⟨nb,5,none⟩=some (.slice (some ⟨g,0,none⟩) NM p8)/\W.cell? ⟨wr.heap.size,5,none⟩=some (.slice za ZN zp))) (by kernel_rfl) (⟨by have:=(HXW.out _ ((Below.refl _ W5).drew)).c5;simp only[StC.sv,StC.kv,StC.mv] at this;rw[HNM.out] at this;exact this,HY5.out _ ((Below.refl _ W5).drew)⟩) (fun hHeld=>?_)
     refine wpAnyH_take (i:=0) (v:=?_) rfl (by kernel_rfl) (by kernel_rfl) (by kernel_rfl) (fun _ _ _ h=>h) (Or.inl ⟨by rfl,?_⟩) (by assumption) ?_
     rotate_left
     ·intro w hSw;(try dsimp only at hSw);go_simp<;>with_reducible rfl
     try simp only[Act.put,getElem_toArray,getElem_cons_zero,setIfInBounds_toArray,set_cons_zero,set_cons_succ]
     refine wpAnyH_take (i:=1) (v:=?_) rfl (by kernel_rfl) (by kernel_rfl) (by kernel_rfl) (fun _ _ _ h=>h) (Or.inl ⟨by rfl,?_⟩) (by assumption) ?_
     rotate_left
     ·intro w hSw;(try dsimp only at hSw);go_simp<;>with_reducible rfl
     try simp only[Act.put,getElem_toArray,getElem_cons_succ,getElem_cons_zero,setIfInBounds_toArray,set_cons_zero,set_cons_succ]
     refine wpAnyH_take (i:=2) (v:=?_) rfl (by kernel_rfl) (by kernel_rfl) (by kernel_rfl) (fun _ _ _ h=>h) (Or.inl ⟨by rfl,?_⟩) (by assumption) ?_
     rotate_left
     ·intro w hSw;(try dsimp only at hSw);go_simp<;>with_reducible rfl
     try simp only[Act.put,getElem_toArray,getElem_cons_succ,getElem_cons_zero,setIfInBounds_toArray,set_cons_zero,set_cons_succ]
     refine wpAnyH_take (i:=3) (v:=?_) rfl (by kernel_rfl) (by kernel_rfl) (by kernel_rfl) (fun _ _ _ h=>h) (Or.inl ⟨by rfl,?_⟩) (by assumption) ?_
     rotate_left
     ·intro w hSw;(try dsimp only at hSw);go_simp<;>with_reducible rfl
     try simp only[Act.put,getElem_toArray,getElem_cons_succ,getElem_cons_zero,setIfInBounds_toArray,set_cons_zero,set_cons_succ]
     refine wpAnyH_take (i:=4) (v:=?_) rfl (by kernel_rfl) (by kernel_rfl) (by kernel_rfl) (fun _ _ _ h=>h) (Or.inl ⟨by rfl,?_⟩) (by assumption) ?_
     rotate_left
     ·intro w hSw;(try dsimp only at hSw);go_simp<;>with_reducible rfl
     try simp only[Act.put,getElem_toArray,getElem_cons_succ,getElem_cons_zero,setIfInBounds_toArray,set_cons_zero,set_cons_succ]
     refine wpAnyH_take (i:=5) (v:=?_) rfl (by kernel_rfl) (by kernel_rfl) (by kernel_rfl) (fun _ _ _ h=>h) (Or.inl ⟨by rfl,?_⟩) (by assumption) ?_
     rotate_left
     ·intro w hSw;(try dsimp only at hSw);go_simp<;>with_reducible rfl
     try simp only[Act.put,getElem_toArray,getElem_cons_succ,getElem_cons_zero,setIfInBounds_toArray,set_cons_zero,set_cons_succ]
     refine wpAnyH_ready (rs:= [6]) (by kernel_rfl) (by simp) ?_
     refine AllReadyH.cons rfl (fun K hK=>?_) AllReadyH.nil
     go_simp
     go_at_call 110
     rw[<-HZN.out]
     refine(KIk.out _ (step HB05.out (Below.refl _ W5).drew)).mono ?_
     rintro e w6 ⟨v6,rfl,ho6,hb6⟩
     obtain⟨a6,p6,rfl⟩:=Rw.own_form ho6
     rw[HZN.out] at ho6 ⊢
     have HO6:=hid ho6
     have HB6:Hid (Below W5.heap.size W5 w6):=hid (step (Below.refl W5.heap.size W5).drew hb6)
     have HB56:=hid (step HB5.out HB6.out)
     obtain⟨gf,gu,gc⟩:=HGA.out w6 HB56.out
     clear ho6 hb6
     refine hK.out _ _ (⟨by have:=(HXW.out _ (HB6.out)).c5;simp only[StC.sv,StC.kv,StC.mv] at this;rw[HNM.out] at this;exact this,HY5.out _ (HB6.out)⟩) (fun hHeld=>?_)
     clear hK K
     try simp only[Act.put,getElem_toArray,getElem_cons_succ,getElem_cons_zero,setIfInBounds_toArray,set_cons_zero,set_cons_succ]
     refine wpAnyH_take (i:=7) (v:=?_) rfl (by kernel_rfl) (by kernel_rfl) (by kernel_rfl) (fun _ _ _ h=>h) (Or.inl ⟨by rfl,?_⟩) (by assumption) ?_
     rotate_left
     ·intro w hSw;(try dsimp only at hSw);go_simp<;>with_reducible rfl
     try simp only[Act.put,getElem_toArray,getElem_cons_succ,getElem_cons_zero,setIfInBounds_toArray,set_cons_zero,set_cons_succ]
     refine wpAnyH_take (i:=8) (v:=?_) rfl (by kernel_rfl) (by kernel_rfl) (by kernel_rfl) (fun _ _ _ h=>h) (Or.inl ⟨by rfl,?_⟩) (by assumption) ?_
     rotate_left
     ·intro w hSw;(try dsimp only at hSw);go_simp<;>with_reducible rfl
     try simp only[Act.put,getElem_toArray,getElem_cons_succ,getElem_cons_zero,setIfInBounds_toArray,set_cons_zero,set_cons_succ]
     refine wpAnyH_take (i:=9) (v:=?_) rfl (by kernel_rfl) (by kernel_rfl) (by kernel_rfl) (fun _ _ _ h=>h) (Or.inl ⟨by rfl,?_⟩) (by assumption) ?_
     rotate_left
     ·intro w hSw;(try dsimp only at hSw);go_simp<;>with_reducible rfl
     try simp only[Act.put,getElem_toArray,getElem_cons_succ,getElem_cons_zero,setIfInBounds_toArray,set_cons_zero,set_cons_succ]
     refine wpAnyH_ready (rs:= [10]) (by kernel_rfl) (by simp) ?_
     refine AllReadyH.cons rfl (fun K hK=>?_) AllReadyH.nil
     go_simp
     refine hK.out _ _ (⟨by have:=((HXW.out _ HB6.out).other hgn (k*6+5) (.slice a6 ZN p6)).c5;simp only[StC.sv,StC.kv,StC.mv] at this;rw[HNM.out] at this;exact this,by have:=HY5.out _ HB6.out;have n1:wr.heap.size≠g:=fun q=>hgl q.symm;simp [go_sem,n1,this]⟩) (fun hHeld=>?_)
     clear hK K
     try simp only[Act.put,getElem_toArray,getElem_cons_succ,getElem_cons_zero,setIfInBounds_toArray,set_cons_zero,set_cons_succ]
     refine wpAnyH_done (by kernel_rfl) ?_ _
     have hC7:=HST.out w6 HB56.out a6 p6 W5.drew.heap.size (Nat.le_trans hsz HB5.out.size) (by rw[HZN.out];exact HO6.out)
     rw[HZN.out] at hC7
     have hX7:=(HX.out.later HB56.out).other hgn (k*6+5) (.slice a6 ZN p6)
     have hZ7:=(HZ.out.later HB56.out).other hgz (k*6+5) (.slice a6 ZN p6)
     have hS7:=own_set_other (HOM.out.later HB56.out).row (Rw.own_below HOS.out HB56.out) (by decide) (k*6+5) (.slice a6 ZN p6)
     have hK7:OwnN HI (w6.setCell ⟨g,k*6+5,none⟩ (.slice a6 ZN p6)) (.slice a4 M.length p4) M:=OwnN.otherM (HOK.out.later HB56.out) (HOM.out.later HB56.out).row _ _
     have hB7:Below w.heap.size w (w6.setCell ⟨g,k*6+5,none⟩ (.slice a6 ZN p6)):=(step HB.out HB56.out).setCell (Nat.le_trans hHI hg) _
     have hsz7:HI<=(w6.setCell ⟨g,k*6+5,none⟩ (.slice a6 ZN p6)).heap.size :=by simpa using Nat.le_trans hsz HB56.out.size
     have HC7:=hid hC7
     have HX7:=hid hX7
     have HZ7:=hid hZ7
     have HS7:=hid hS7
     have HK7:=hid hK7
     have HB7:=hid hB7
     clear hC7 hX7 hZ7 hS7 hK7 hB7
     go_wp2
     go_roundw
     case rel=>exact⟨k+1,_,by omega,by go_num,hsz7,HX7,HZ7,HS7,HK7,HC7,HB7⟩
     case measure=>simp [intOf];omega
    ·obtain rfl:k=NM:=by omega
     have HOMN:Hid (OwnM HI wr (.slice a8 Q.length p8) Q):=hid (by
      have:=HOM.out
      rw[<-HNM.out] at this
      exact this.all)
     have HFE0:FromS HI wr ⟨xt,xn,xk,xS,sa,sc,xK,ka,kc,xM,ma,mc⟩ ⟨xt,xn,xk,xS,a3,p3,M,a4,p4,Q,a8,p8⟩:=⟨.inr HOS.out,.inr HOK.out,.inr ⟨HOMN.out.row,fun z hz=>.inr (HOMN.out.held z hz)⟩⟩
     have HLM:=hid HOM.out.len
     have HVE:Hid ((⟨xt,xn,xk,xS,a3,p3,M,a4,p4,Q,a8,p8⟩:StC).v =(⟨xt,xn,xk,xS,sa,sc,xK,ka,kc,xM,ma,mc⟩:StC).v):=hid (by
      unfold StC.v
      dsimp only
      rw[HVK.out,HOM.out.v])
     have HX1:=hid (HX.out.lens (y:=⟨xt,xn,xk,xS,a3,p3,M,a4,p4,Q,a8,p8⟩) rfl rfl rfl rfl (by unfold StC.kv;dsimp only;rw[HLK.out]) (by unfold StC.mv;dsimp only;rw[HLM.out]))
     obtain⟨z0,z1,z2,z3,z4,z5,zf⟩:=HZ.out
     simp only[zeroC10,StC.sv,StC.kv,StC.mv,List.length_nil] at z0 z1 z2 z3 z4 z5
     have HE:=hid ((HFE0.set6 hlt1 (.int .i64 xt) (.int .i64 xn) (.int .i64 xk) (.slice a3 xS.length p3) (.slice a4 M.length p4) (.slice a8 Q.length p8)).lower hHI)
     have HBE:=hid (below_set6 HB.out (nb+1) (by have:=HNB.out;omega) (.int .i64 xt) (.int .i64 xn) (.int .i64 xk) (.slice a3 xS.length p3) (.slice a4 M.length p4) (.slice a8 Q.length p8))
     clear c0 c1 c2 c3 c4 c5 cf HX
     obtain⟨c0,c1,c2,c3,c4,c5,cf⟩:=HX1.out
     simp only[StC.sv,StC.kv,StC.mv] at c0 c1 c2 c3 c4 c5
     clear KH HZ HFE0
     go_wp2
     refine bodyPost_ret (by simp [results,Tryz.results56,go_sem,z0,z1,z2,z3,z4,z5,zf]<;>rfl) rfl ?_
     exact⟨_,rfl,HVE.out,HE.out,HBE.out⟩
end Cm
end Go.Proofs.YtclcgkpfcogcdaaGreat
