/- Texts laid together by program. -/
import Derived.Test.YtclcgkpfcogcdaaGreatQ38
/- Contracts: package memo's Keep, where nothing is kept; where a client's own memo is written over. -/
set_option linter.unusedVariables false
set_option maxRecDepth 8000
set_option linter.unusedSimpArgs false
namespace Go.Proofs.YtclcgkpfcogcdaaGreat
open Lib (hid)
open Go.RowKit Go.Shelf
namespace Cm

theorem grown_setM {a w:World} {g:Nat} (h:a.grownBy w (some g)) (j:Nat) (u:Value):a.grownBy (w.setCell ⟨g,j,none⟩ u) (some g):=by
 refine⟨h.os,h.tape,h.output,by simpa using h.size,fun k hk hne=>?_⟩
 rw[Below.heap_setCell w ⟨g,j,none⟩ u k (fun q=>hne (congrArg some q))]
 exact h.block k hk hne
theorem grown_set6 {a w:World} {g:Nat} (h:a.grownBy w (some g)) (j:Nat) (x y z u v s:Value):a.grownBy ((((((w.setCell ⟨g,j,none⟩ x).setCell ⟨g,j+1,none⟩ y).setCell ⟨g,j+2,none⟩ z).setCell ⟨g,j+3,none⟩ u).setCell ⟨g,j+4,none⟩ v).setCell ⟨g,j+5,none⟩ s) (some g):=
 grown_setM (grown_setM (grown_setM (grown_setM (grown_setM (grown_setM h _ _) _ _) _ _) _ _) _ _) _ _
theorem ownM_put {w:World} {base g n cap:Nat} {M:List MemC} (h:w.ownsRow base 51 6 (.slice (some ⟨g,0,none⟩) n cap) n (flatX cellsM M)) (k:Nat) (hk:k<M.length) (y:MemC):
  ((((((w.setCell ⟨g,k*6,none⟩ (.int .i64 y.m.client)).setCell ⟨g,k*6+1,none⟩ (.int .i64 y.m.seq)).setCell ⟨g,k*6+2,none⟩ (.int .i64 y.m.rep.code)).setCell ⟨g,k*6+3,none⟩ (.int .i64 y.m.rep.session)).setCell ⟨g,k*6+4,none⟩ (.int .i64 y.m.rep.ahead)).setCell ⟨g,k*6+5,none⟩ y.hv).ownsRow base 51 6 (.slice (some ⟨g,0,none⟩) n cap) n (flatX cellsM (M.set k y)):=by
 have h1:=(h.stored (k*6) (.int .i64 y.m.client)).1
 have h2:=(h1.stored (k*6+1) (.int .i64 y.m.seq)).1
 have h3:=(h2.stored (k*6+2) (.int .i64 y.m.rep.code)).1
 have h4:=(h3.stored (k*6+3) (.int .i64 y.m.rep.session)).1
 have h5:=(h4.stored (k*6+4) (.int .i64 y.m.rep.ahead)).1
 have h6:=(h5.stored (k*6+5) y.hv).1
 have e:((((((flatX cellsM M).set (k*6) (.int .i64 y.m.client)).set (k*6+1) (.int .i64 y.m.seq)).set (k*6+2) (.int .i64 y.m.rep.code)).set (k*6+3) (.int .i64 y.m.rep.session)).set (k*6+4) (.int .i64 y.m.rep.ahead)).set (k*6+5) y.hv=flatX cellsM (M.set k y):=by
  obtain⟨A,B,x,hM,hA⟩: ∃A B x,M=A++x::B/\A.length=k:=⟨M.take k,M.drop (k+1),M[k],by rw[<-List.drop_eq_getElem_cons hk,List.take_append_drop],by rw[List.length_take];omega⟩
  subst hA
  subst hM
  have e1:flatX cellsM (A++x::B)=flatX cellsM A++(cellsM x++flatX cellsM B):=by rw[flatX_append,flatX_cons]
  have e2:(A++x::B).set A.length y=A++y::B:=by simp
  have hl:(flatX cellsM A).length =A.length*6:=flatX_length cellsM_length A
  have hs: ∀(C:List Value) (j:Nat) (u:Value),(flatX cellsM A++C).set (A.length*6+j) u=flatX cellsM A++C.set j u:=fun C j u=>by
   rw[<-hl,List.set_append_right _ _ (by omega),Nat.add_sub_cancel_left]
  rw[e1,e2,flatX_append,flatX_cons]
  have hs0:=fun C u=>hs C 0 u
  simp only[Nat.add_zero] at hs0
  rw[hs0,hs,hs,hs,hs,hs]
  rfl
 rw[e] at h6
 exact h6
theorem ownM_at {w:World} {base g n cap:Nat} {M:List MemC} (h:w.ownsRow base 51 6 (.slice (some ⟨g,0,none⟩) n cap) n (flatX cellsM M)) (k:Nat) (hk:k<M.length):
  w.cell? ⟨g,k*6,none⟩=some (.int .i64 M[k].m.client)/\w.cell? ⟨g,k*6+1,none⟩=some (.int .i64 M[k].m.seq)/\w.cell? ⟨g,k*6+2,none⟩=some (.int .i64 M[k].m.rep.code)/\w.cell? ⟨g,k*6+3,none⟩=some (.int .i64 M[k].m.rep.session)/\w.cell? ⟨g,k*6+4,none⟩=some (.int .i64 M[k].m.rep.ahead)/\w.cell? ⟨g,k*6+5,none⟩=some M[k].hv /\ ∀j,w.frozen? ⟨g,j,none⟩=false:=by
 have hl:n*6=(flatX cellsM M).length :=by
  rw[h.1]
 have hn:M.length=n:=by rw[flatX_length cellsM_length] at hl;omega
 have a0:=h.cellAt (k*6+0) (by omega)
 have a1:=h.cellAt (k*6+1) (by omega)
 have a2:=h.cellAt (k*6+2) (by omega)
 have a3:=h.cellAt (k*6+3) (by omega)
 have a4:=h.cellAt (k*6+4) (by omega)
 have a5:=h.cellAt (k*6+5) (by omega)
 rw[flatX_get cellsM_length M k hk 0 (by omega)] at a0
 rw[flatX_get cellsM_length M k hk 1 (by omega)] at a1
 rw[flatX_get cellsM_length M k hk 2 (by omega)] at a2
 rw[flatX_get cellsM_length M k hk 3 (by omega)] at a3
 rw[flatX_get cellsM_length M k hk 4 (by omega)] at a4
 rw[flatX_get cellsM_length M k hk 5 (by omega)] at a5
 exact⟨a0,a1,a2,a3,a4,a5,fun j=>h.frozenAt j⟩
theorem set6k {a w:World} {b:Nat} (h:Below b a w) (g:Nat) (hg:b<=g) (j:Nat) (x y z u v s:Value):Below b a ((((((w.setCell ⟨g,j,none⟩ x).setCell ⟨g,j+1,none⟩ y).setCell ⟨g,j+2,none⟩ z).setCell ⟨g,j+3,none⟩ u).setCell ⟨g,j+4,none⟩ v).setCell ⟨g,j+5,none⟩ s):=
 (((((h.setCell hg _).setCell hg _).setCell hg _).setCell hg _).setCell hg _).setCell hg _
theorem valsM_set (L:List MemC) (k:Nat) (y:MemC):valsM (L.set k y)=(valsM L).set k y.m:=by unfold valsM;rw[List.map_set]
theorem set_done {base b2:Nat} {w:World} {g c:Nat} {M:List MemC} (ho:OwnM base w (.slice (some ⟨g,0,none⟩) M.length c) M) (k:Nat) (hk:k<M.length) (y:MemC)
  (hh:w.ownsRow b2 57 2 y.hv y.m.rep.held.length (flatX cellsG y.m.rep.held)) (hb2:base<=b2):
  OwnM base ((((((w.setCell ⟨g,k*6,none⟩ (.int .i64 y.m.client)).setCell ⟨g,k*6+1,none⟩ (.int .i64 y.m.seq)).setCell ⟨g,k*6+2,none⟩ (.int .i64 y.m.rep.code)).setCell ⟨g,k*6+3,none⟩ (.int .i64 y.m.rep.session)).setCell ⟨g,k*6+4,none⟩ (.int .i64 y.m.rep.ahead)).setCell ⟨g,k*6+5,none⟩ y.hv) (.slice (some ⟨g,0,none⟩) (M.set k y).length c) (M.set k y):=by
 have hg:=grown_set6 (show w.grownBy w (some g) from⟨rfl,rfl,rfl,Nat.le_refl _,fun _ _ _=>rfl⟩) (k*6) (.int .i64 y.m.client) (.int .i64 y.m.seq) (.int .i64 y.m.rep.code) (.int .i64 y.m.rep.session) (.int .i64 y.m.rep.ahead) y.hv
 have hp:=ownM_put ho.row k hk y
 generalize (((((w.setCell ⟨g,k*6,none⟩ (.int .i64 y.m.client)).setCell ⟨g,k*6+1,none⟩ (.int .i64 y.m.seq)).setCell ⟨g,k*6+2,none⟩ (.int .i64 y.m.rep.code)).setCell ⟨g,k*6+3,none⟩ (.int .i64 y.m.rep.session)).setCell ⟨g,k*6+4,none⟩ (.int .i64 y.m.rep.ahead)).setCell ⟨g,k*6+5,none⟩ y.hv=w' at hg hp ⊢
 refine⟨by rw[List.length_set];exact hp,fun x hx=>?_⟩
 rcases List.mem_or_eq_of_mem_set hx with q | q
 ·exact ho.kept hg x q
 ·subst q
  exact own_lowerX (Rw.own_other (u:=.slice (some ⟨g,0,none⟩) M.length c) hh hg (own_types ho.row hh (by decide))) hb2
theorem cell_kept {W W':World} {row:Option Nat} {b k:Nat} {x:Value} (h:W.cell? ⟨b,k,none⟩=some x) (hg:W.grownBy W' row) (hne:row≠some b):W'.cell? ⟨b,k,none⟩=some x:=by
 have hb:=hg.block b (lt_of_cell h) (fun q=>hne q.symm)
 rw[<-h]
 simp [World.cell?,hb]
theorem cells7_kept {W W':World} {row:Option Nat} {b0 b:Nat} {x y0 y1 y2 y3 y4 y5:Value} (h:W.cell? ⟨b0,0,none⟩=some x/\W.cell? ⟨b,0,none⟩=some y0/\W.cell? ⟨b,1,none⟩=some y1/\W.cell? ⟨b,2,none⟩=some y2/\W.cell? ⟨b,3,none⟩=some y3/\W.cell? ⟨b,4,none⟩=some y4/\W.cell? ⟨b,5,none⟩=some y5)
  (hg:W.grownBy W' row) (h0:row≠some b0) (h1:row≠some b):W'.cell? ⟨b0,0,none⟩=some x/\W'.cell? ⟨b,0,none⟩=some y0/\W'.cell? ⟨b,1,none⟩=some y1/\W'.cell? ⟨b,2,none⟩=some y2/\W'.cell? ⟨b,3,none⟩=some y3/\W'.cell? ⟨b,4,none⟩=some y4/\W'.cell? ⟨b,5,none⟩=some y5:=
 ⟨cell_kept h.1 hg h0,cell_kept h.2.1 hg h1,cell_kept h.2.2.1 hg h1,cell_kept h.2.2.2.1 hg h1,cell_kept h.2.2.2.2.1 hg h1,cell_kept h.2.2.2.2.2.1 hg h1,cell_kept h.2.2.2.2.2.2 hg h1⟩
theorem insM_done {base b2 k:Nat} {W w3:World} {m v:Value} {M:List MemC} {y:MemC} (ho:OwnM base W m M) (hh:W.ownsRow b2 57 2 y.hv y.m.rep.held.length (flatX cellsG y.m.rep.held)) (hg:W.grownBy w3 m.ownBlock)
  (h3:w3.ownsRow base 51 6 v (M.length+1) (flatX cellsM (M.take k++y::M.drop k))) (hk:k<=M.length) (hb2:base<=b2): ∃a c Q,v= .slice a (List.length Q) c/\OwnM base w3 (.slice a Q.length c) Q/\valsM Q=(valsM M).take k++y.m::(valsM M).drop k:=by
 have e:(M.take k++y::M.drop k).length =M.length+1:=by simp;omega
 rw[<-e] at h3
 obtain⟨a,c,q⟩:=Rw.own_form h3
 refine⟨a,c,_,q,⟨q ▸ h3,fun x hx=>?_⟩,by rw[valsM_append,valsM_take,<-valsM_drop];rfl⟩
 have hM:=fun x hx=>ho.kept hg x hx
 rcases List.mem_append.1 hx with q | q
 ·exact hM x (List.mem_of_mem_take q)
 ·rcases List.mem_cons.1 q with q | q
  ·subst q
   exact own_lowerX (Rw.own_other hh hg (own_types ho.row hh (by decide))) hb2
  ·exact hM x (List.mem_of_mem_drop q)
def GetsO (r:List AnsV) (w:World) (e:Ending) (w':World):Prop:=
 ∃a c M,e= .returned (.slice a (List.length M) c)/\valsM M=r/\OwnM w.heap.size w' (.slice a M.length c) M/\Below w.heap.size w w'
theorem GetsO.k {r:List AnsV} {w:World} {e:Ending} {w':World} (h:GetsO r w e w'):GetsK r w e w':=by
 obtain⟨a,c,M,he,hv,ho,hb⟩:=h
 exact⟨a,c,M,he,hv,ho.rd,hb⟩
set_option maxHeartbeats 4000000 in
theorem MemKeep_no (v u:Value) (L:List MemC) (A:AnsV) (w:World) (h:RdM w v L) (hr:Rm (valsM L)) (h5:L.length<=1000) (hu:RdH w u A.rep.held) (hno:mayA A=false\/freshM (valsM L) A.client A.seq≠1):
  Calls Tryz.prog 61 #[v,ansVal A u] w (GetsO (valsM L) w):=by
 obtain⟨ua,uc,rfl, -⟩:=hu.ex
 obtain⟨⟨ac,sq,⟨ak,an,ad,al⟩⟩,hA⟩: ∃A',A'=A:=⟨_,rfl⟩
 subst hA
 have KM:=RepMayAnswer_any ⟨ac,sq,⟨ak,an,ad,al⟩⟩ (.slice ua al.length uc)
 unfold ansVal at KM ⊢
 dsimp only at hu hno KM ⊢
 have hb1:=newAlloc w (.cells #[.int .i64 ac,.int .i64 sq,.int .i64 ak,.int .i64 an,.int .i64 ad,.slice ua al.length uc] 101)
 obtain⟨c0,c1,c2,c3,c4,c5⟩:=box6 (Below.refl _ (w.alloc (.cells #[.int .i64 ac,.int .i64 sq,.int .i64 ak,.int .i64 an,.int .i64 ad,.slice ua al.length uc] 101)))
 obtain⟨W1,hW1⟩: ∃W1,W1=w.alloc (.cells #[.int .i64 ac,.int .i64 sq,.int .i64 ak,.int .i64 an,.int .i64 ad,.slice ua al.length uc] 101):=⟨_,rfl⟩
 rw[<-hW1] at hb1 c0 c1 c2 c3 c4 c5
 have HB:=hid hb1
 have HQ:Hid (∀w',Below W1.heap.size W1 w'->w'.cell? ⟨w.heap.size,0,none⟩=some (.int .i64 ac)/\w'.cell? ⟨w.heap.size,1,none⟩=some (.int .i64 sq)/\w'.cell? ⟨w.heap.size,2,none⟩=some (.int .i64 ak)/\w'.cell? ⟨w.heap.size,3,none⟩=some (.int .i64 an)/\w'.cell? ⟨w.heap.size,4,none⟩=some (.int .i64 ad)/\w'.cell? ⟨w.heap.size,5,none⟩=some (.slice ua al.length uc)):=hid fun w' hb=>⟨(hb.cell (lt_of_cell c0)).trans c0,(hb.cell (lt_of_cell c1)).trans c1,(hb.cell (lt_of_cell c2)).trans c2,(hb.cell (lt_of_cell c3)).trans c3,(hb.cell (lt_of_cell c4)).trans c4,(hb.cell (lt_of_cell c5)).trans c5⟩
 have KM:=hid (fun W (hb:Below W1.heap.size W1 W)=>KM W (hu.later (step hb1 hb)))
 have KF:Hid (∀W,Below W1.heap.size W1 W->Calls Tryz.prog 58 #[v,.int .i64 ac,.int .i64 sq] W (SaysI (freshM (valsM L) ac sq) W)):=hid fun W hb=>MemFresh_any v L ac sq W (h.later (step hb1 hb)) hr
 have KC:=hid (copiesM_any v L W1 (h.later hb1) h5 hr.small)
 obtain⟨a,cap,rfl⟩:=h.form
 clear h hu hb1 c0 c1 c2 c3 c4 c5
 generalize L.length=N at*
 generalize al.length=AN at*
 cases n1:mayA ⟨ac,sq,⟨ak,an,ad,al⟩⟩ with
 | false=>
  rw[n1] at KM
  clear n1 hno KF
  go_enter Tryz.func61,Tryz.ntmps61
  go_upto_region 1 with fail
  rw[<-hW1]
  clear hW1
  go_upto_region 2 with (go_at_call 121;refine KC.out.mono ?_;rintro e w2 ⟨v2,M,rfl,hv2,ho2,hb2⟩;have HV:=hid hv2;have HO:=hid ho2;have HB2:=hid hb2;obtain⟨y0,y1,y2,y3,y4,y5⟩:=HQ.out _ hb2;obtain⟨a2,c2,rfl⟩:=Rw.own_form ho2.row;clear hv2 ho2 hb2)
  go_wp2_with (go_at_call 96;refine(KM.out _ HB2.out).mono ?_;rintro e w3 ⟨rfl,hb3⟩)
  go_ret
  exact⟨a2,c2,M,rfl,HV.out,(HO.out.later hb3).lower HB.out.size,step HB.out (step HB2.out hb3)⟩
 | true=>
  rw[n1] at KM
  have hne:freshM (valsM L) ac sq≠1:=by
   rcases hno with q | q
   ·rw[n1] at q;cases q
   ·exact q
  have d1:(freshM (valsM L) ac sq != 1)=true:=by simpa using hne
  generalize freshM (valsM L) ac sq=fr at KF d1
  clear n1 hno hne
  go_enter Tryz.func61,Tryz.ntmps61
  go_upto_region 1 with fail
  rw[<-hW1]
  clear hW1
  go_upto_region 2 with (go_at_call 121;refine KC.out.mono ?_;rintro e w2 ⟨v2,M,rfl,hv2,ho2,hb2⟩;have HV:=hid hv2;have HO:=hid ho2;have HB2:=hid hb2;obtain⟨y0,y1,y2,y3,y4,y5⟩:=HQ.out _ hb2;obtain⟨a2,c2,rfl⟩:=Rw.own_form ho2.row;clear hv2 ho2 hb2)
  go_wp2_with (first
   | (go_at_call 96;refine(KM.out _ HB2.out).mono ?_;rintro e w3 ⟨rfl,hb3⟩;have HB3:=hid hb3;obtain⟨z0,z1,z2,z3,z4,z5⟩:=HQ.out _ (step HB2.out hb3);clear hb3)
   | (go_at_call 58;refine(KF.out _ (step HB2.out HB3.out)).mono ?_;rintro e w4 ⟨rfl,hb4⟩;have HB4:=hid (step HB3.out hb4);clear hb4))
  go_ret
  exact⟨a2,c2,M,rfl,HV.out,(HO.out.later HB4.out).lower HB.out.size,step HB.out (step HB2.out HB4.out)⟩
end Cm
end Go.Proofs.YtclcgkpfcogcdaaGreat
