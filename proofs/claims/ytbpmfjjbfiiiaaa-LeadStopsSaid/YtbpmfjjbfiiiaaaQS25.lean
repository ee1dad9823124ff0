/- Texts laid together by program. -/
import Derived.Test.YtbpmfjjbfiiiaaaQS23
/- lead's Add. -/
set_option linter.unusedVariables false
set_option maxRecDepth 8000
set_option linter.unusedSimpArgs false
namespace Go.Proofs.Ytbpmfjjbfiiiaaa
open Lib (hid)
open List (getElem_toArray getElem_cons_succ getElem_cons_zero setIfInBounds_toArray set_cons_zero set_cons_succ)
open Go.RowKit
namespace Ld
open Cm Ac Pl Vw


section
variable {w w' : World} {base : Nat}
theorem OwnPs.far {v:Value} {L:List PromC} {g:Nat} {cs:Array Value} {t:TypeId} (h:OwnPs base w v L) (hg:w.grownBy w' (some g)) (hx:w.heap[g]?=some (.cells cs t)) (n1:59≠t) (n2:48≠t) (n3:71≠t):OwnPs base w' v L:=
 ⟨own_far h.row hg hx n1,fun x hx'=>OwnV.otherP (h.votes x hx') hg hx n2 n3⟩
theorem OwnB.far {v:Value} {L:List BatC} {g:Nat} {cs:Array Value} {t:TypeId} (h:OwnB base w v L) (hg:w.grownBy w' (some g)) (hx:w.heap[g]?=some (.cells cs t)) (n1:42≠t) (n2:71≠t):OwnB base w' v L:=
 ⟨h.row.keep fun k hk=>hg.block k (h.row.lt k hk).2 (fun q=>by cases q;exact h.row.ne hx n1 hk),fun x hx'=>own_far (h.reqs x hx') hg hx n2⟩
theorem own_grO {b2 sz n n2 sz2:Nat} {e e2:TypeId} {u v:Value} {xs ys:List Value} (h:w.ownsRow base e sz v n xs) (ho:OwnO w b2 e2 sz2 u n2 ys) (hg:w.grownBy w' u.ownBlock) (hne:e≠e2):w'.ownsRow base e sz v n xs:=
 Rw.own_keep h fun k hk=>hg.block k (Rw.own_lt h k hk).2 (fun q=>(OwnO.of h).apart ho hne k hk q.symm)
theorem OwnPs.grO {b2 n2 sz2:Nat} {u v:Value} {L:List PromC} {ys:List Value} (h:OwnPs base w v L) (ho:OwnO w b2 42 sz2 u n2 ys) (hg:w.grownBy w' u.ownBlock):OwnPs base w' v L:=
 ⟨own_grO h.row ho hg (by decide),fun x hx=>⟨own_grO (h.votes x hx).row ho hg (by decide),fun z hz=>own_grO ((h.votes x hx).reqs z hz) ho hg (by decide)⟩⟩
theorem OwnB.push {b2:Nat} {u v':Value} {L:List BatC} {x:BatC} (h:OwnB base w u L) (hl:OwnQ base w x) (hg:w.grownBy w' u.ownBlock) (ho:OwnO w' base 42 6 v' (L.length+1) (flatX cellsB L++cellsB x)):OwnB base w' v' (L++ [x]):=by
 refine⟨by rw[List.length_append,flatX_snoc];exact ho,fun y hy=>?_⟩
 rcases List.mem_append.1 hy with q | q
 ·exact own_grO (h.reqs y q) h.row hg (by decide)
 ·rw[List.mem_singleton] at q
  subst q
  exact own_grO hl h.row hg (by decide)
end

theorem Nxt.step {u v:Value} {H H':Nat} (h:v.ownBlock=u.ownBlock\/v.ownBlock=some H') (hH:H<=H'):Nxt u v H:=by
 intro k hk
 rcases h with q | q
 ·exact .inl (by rw[<-q];exact hk)
 ·rw[q] at hk
  injection hk with hk
  exact .inr (by omega)
def AddL (g m:Nat) (r:LedV × Int × Int) (pv bv:Value) (w:World) (e:Ending) (w':World):Prop:=e= .returned (.tuple #[.int .i64 r.2.1,.int .i64 r.2.2])/\DidL g m r.1 pv bv w w'
set_option maxHeartbeats 8000000 in
theorem LAdd_any (g m:Nat) (s:LedV) (done time:Int) (v:Value) (l:List ReqV) (pv bv:Value) (w:World) (h:HasL w g m s pv bv) (hr:RdR w v l) (hbl:s.bats.length<=1000) (hx0:0<=s.next):Calls Try.prog 9 #[.pointer (some ⟨g,0,none⟩),.int .i64 done,.int .i64 time,v] w (AddL g m (addF s done time l) pv bv w):=by
 obtain⟨la,lc,rfl⟩:=hr.form
 have HH:=hid h
 have HEX:=hid h.ex
 have HR:=hid hr
 have HBL:=hid hbl
 have HX0:=hid hx0
 have HGM:=hid h.gm
 obtain⟨P,eP,hP⟩:=h.ps
 obtain⟨B,eB,hB⟩:=h.bs
 have HEP:=hid eP
 have HEB:=hid eB
 have HP:=hid hP
 have HQ:=hid hB
 have HLS:=hid h.low
 have HBLT:=hid (fun k hk=>(hB.row.lt k hk).2)
 clear hbl hx0 eP eB hP hB
 have HLT:=hid h.lt
 have c1:=h.c1
 have c2:=h.c2
 have c12:=h.c12
 have c13:=h.c13
 have c14:=h.c14
 have CN:=hid (fun W=>isNumL_any done W)
 have CB:=hid (fun W (hb:Below w.heap.size w W)=>MayB_any (batL s time l) (.slice la l.length lc) W (hr.later hb))
 unfold AddL
 obtain⟨R,hR⟩: ∃R,addF s done time l=R:=⟨_,rfl⟩
 have HA:=hid hR
 rw[hR]
 clear hR
 obtain⟨sn,sp,sv,sh,sps,sb,sx,s1,s2,s3⟩:=s
 unfold batL batVal at CB
 dsimp only at HEX c1 c2 c12 c13 c14 CB
 clear h hr
 obtain⟨N,hN⟩: ∃N,l.length=N:=⟨_,rfl⟩
 have HN:=hid hN
 rw[hN] at CB HR ⊢
 clear hN
 have hbx:=newAlloc w (.cells #[.bool false,.int .i64 0,.int .i64 0,.int .i64 0,.int .i64 0,.slice none 0 0] 42)
 have kx:=alloc_atB w (.cells #[.bool false,.int .i64 0,.int .i64 0,.int .i64 0,.int .i64 0,.slice none 0 0] 42) _ rfl
 have dx:=cells_later HEX.out hbx
 have d1:=cell_at dx 1
 have d2:=cell_at dx 2
 have d12:=cell_at dx 12
 have d13:=cell_at dx 13
 have d14:=cell_at dx 14
 have e0:=cell_at kx 0
 have e1:=cell_at kx 1
 have e2:=cell_at kx 2
 have e3:=cell_at kx 3
 have e4:=cell_at kx 4
 have e5:=cell_at kx 5
 have ef:=frozen_at kx
 simp at d1 d2 d12 d13 d14 e0 e1 e2 e3 e4 e5
 go_enter Try.func9,Try.ntmps9
 go_upto_region 3 with fail
 go_region
 have hb3:Below w.heap.size w (w.alloc (.cells #[.bool false,.int .i64 sv,.int .i64 s1,.int .i64 s2,.int .i64 time,.slice la N lc] 42)).drew :=step (newAlloc w (.cells #[.bool false,.int .i64 sv,.int .i64 s1,.int .i64 s2,.int .i64 time,.slice la N lc] 42)) (Below.refl _ _).drew
 have HB3:=hid hb3
 have HX3:=hid (HeapAt.later (show HeapAt (w.alloc (.cells #[.bool false,.int .i64 sv,.int .i64 s1,.int .i64 s2,.int .i64 time,.slice la N lc] 42)) w.heap.size _ from alloc_atB _ _ _ rfl) (Below.refl _ _).drew)
 have HEX3:=hid (cells_later HEX.out hb3)
 generalize (w.alloc (.cells #[.bool false,.int .i64 sv,.int .i64 s1,.int .i64 s2,.int .i64 time,.slice la N lc] 42)).drew =W3 at HB3 HX3 HEX3 ⊢
 clear hb3 hbx kx dx d1 d2 d12 d13 d14 e0 e1 e2 e3 e4 e5 ef c1 c2 c12 c13 c14
 have c1:=cell_at HEX3.out 1
 simp at c1
 by_cases hp:sp=2
 case neg=>
  have hRv:R=(⟨sn,sp,sv,sh,sps,sb,sx,s1,s2,s3⟩,0,11):=HA.out.symm.trans (by unfold addF;rw[if_neg hp])
  clear HA
  subst hRv
  have d:(sp != 2)=true:=by simpa using hp
  clear hp
  go_wp2
  go_ret2
  exact⟨rfl,_,_,HH.out.later HB3.out,Chg.of HB3.out,Nxt.refl _ _,Nxt.refl _ _⟩
 subst hp
 go_upto_region 6 with fail
 clear c1
 cases hd:highF done 0
 case false=>
  have hRv:R=(⟨sn,2,sv,sh,sps,sb,sx,s1,s2,s3⟩,0,1):=HA.out.symm.trans (by unfold addF;rw[if_pos rfl,if_neg (fun q=>by rw[hd] at q;cases q.1)])
  rw[hd] at CN
  clear HA hd
  subst hRv
  go_wp2_with (go_at_call 30;refine(CN.out _).mono ?_;rintro e w1 ⟨rfl,rfl⟩)
  go_ret2
  exact⟨rfl,_,_,HH.out.later HB3.out,Chg.of HB3.out,Nxt.refl _ _,Nxt.refl _ _⟩
 rw[hd] at CN
 have e0:=cell_at HX3.out 0
 have e1:=cell_at HX3.out 1
 have e2:=cell_at HX3.out 2
 have e3:=cell_at HX3.out 3
 have e4:=cell_at HX3.out 4
 have e5:=cell_at HX3.out 5
 simp at e0 e1 e2 e3 e4 e5
 cases hm:mayB (batL ⟨sn,2,sv,sh,sps,sb,sx,s1,s2,s3⟩ time l)
 case false=>
  have hRv:R=(⟨sn,2,sv,sh,sps,sb,sx,s1,s2,s3⟩,0,1):=HA.out.symm.trans (by unfold addF;rw[if_pos rfl,if_neg (fun q=>by rw[hm] at q;cases q.2)])
  unfold batL at hm
  dsimp only at hm
  rw[hm] at CB
  clear HA hm
  subst hRv
  go_wp2_with (first | (go_at_call 30;refine(CN.out _).mono ?_;rintro e w1 ⟨rfl,rfl⟩) | (go_at_call 11;refine(CB.out _ HB3.out).mono ?_;rintro e w1 ⟨rfl,hb4⟩;have HB4:=hid (step HB3.out hb4);clear hb4 e0 e1 e2 e3 e4 e5))
  go_ret2
  exact⟨rfl,_,_,HH.out.later HB4.out,Chg.of HB4.out,Nxt.refl _ _,Nxt.refl _ _⟩
 have hmb:=hm
 have HHD:Hid (highF done 0=true):=hid hd
 have HMB:=hid hm
 unfold batL at hm
 dsimp only at hm
 rw[hm] at CB
 have HL3:Hid (l.length<=3):=hid (mayB_few hmb)
 have hdb:0<=done/\done<=2305843009213693952:=by
  unfold highF at hd
  simpa using hd
 clear hm hmb hd
 go_upto_region 8 with (first | (go_at_call 30;refine(CN.out _).mono ?_;rintro e w1 ⟨rfl,rfl⟩) | (go_at_call 11;refine(CB.out _ HB3.out).mono ?_;rintro e w1 ⟨rfl,hb4⟩;have HB4:=hid (step HB3.out hb4);have HX4:=hid (HX3.out.later hb4);have HEX4:=hid (cells_later HEX3.out hb4);clear hb4 e0 e1 e2 e3 e4 e5))
 have c12:=cell_at HEX4.out 12
 simp at c12
 obtain⟨M,hM⟩: ∃M,done+3=M:=⟨_,rfl⟩
 have ew:IntKind.i64.wrap (done+3)=M:=by rw[IntKind.wrap_i64];omega
 have HM:=hid hM
 by_cases h1:sx<=M
 case neg=>
  have hRv:R=(⟨sn,2,sv,sh,sps,sb,sx,s1,s2,s3⟩,0,5):=HA.out.symm.trans (by unfold addF;rw[if_pos rfl,if_pos ⟨HHD.out,HMB.out⟩,if_neg (fun q=>h1 (by have:=q.1;have e:=HM.out;rw[<-e];exact this))])
  clear HA
  subst hRv
  have d1:decide (M<sx)=true:=decide_eq_true (by omega)
  clear hM hdb h1
  go_wp2
  go_ret2
  exact⟨rfl,_,_,HH.out.later HB4.out,Chg.of HB4.out,Nxt.refl _ _,Nxt.refl _ _⟩
 have d1:decide (M<sx)=false:=decide_eq_false (by omega)
 by_cases h2:sx<=2305843009213693952
 case neg=>
  have hRv:R=(⟨sn,2,sv,sh,sps,sb,sx,s1,s2,s3⟩,0,5):=HA.out.symm.trans (by unfold addF;rw[if_pos rfl,if_pos ⟨HHD.out,HMB.out⟩,if_neg (fun q=>h2 q.2)])
  clear HA
  subst hRv
  have d2:decide (2305843009213693952<sx)=true:=decide_eq_true (by omega)
  clear hM hdb h1 h2
  go_wp2
  go_ret2
  exact⟨rfl,_,_,HH.out.later HB4.out,Chg.of HB4.out,Nxt.refl _ _,Nxt.refl _ _⟩
 have d2:decide (2305843009213693952<sx)=false:=decide_eq_false (by omega)
 have hRv:R=(pushF ⟨sn,2,sv,sh,sps,sb,sx,s1,s2,s3⟩ time l,sx,0):=HA.out.symm.trans (by unfold addF;rw[if_pos rfl,if_pos ⟨HHD.out,HMB.out⟩,if_pos ⟨by have e:=HM.out;rw[<-e] at h1;exact h1,h2⟩])
 have HRV:=hid hRv
 clear HA hRv
 have HSX:=hid h2
 clear hM hdb h1 h2
 go_upto_region 11 with fail
 clear c12 d1 d2 ew
 have HP4:=hid (HP.out.later HB4.out)
 have HQ4:=hid (HQ.out.later HB4.out)
 have HC4:Hid (Chg (LS g pv bv) w w1):=hid (Chg.of HB4.out)
 have HBN:Hid (B.length<=1000):=hid (by have:=HBL.out;rw[<-HEB.out,valsB_length] at this;exact this)
 obtain⟨ba,bc,rfl⟩:=HQ.out.form
 obtain⟨i6,hi6,h60,h61,h62⟩:=info_partsP infoBat
 have hne: ¬w.heap.size=g:=by have:=HLT.out;omega
 refine wp_region_held_drew (S:=fun W=>W.cell? ⟨w.heap.size,0,none⟩=some (.bool false)/\W.cell? ⟨w.heap.size,1,none⟩=some (.int .i64 sv)/\W.cell? ⟨w.heap.size,2,none⟩=some (.int .i64 s1)/\W.cell? ⟨w.heap.size,3,none⟩=some (.int .i64 s2)/\W.cell? ⟨w.heap.size,4,none⟩=some (.int .i64 time)/\W.cell? ⟨w.heap.size,5,none⟩=some (.slice la N lc)) (by kernel_rfl) (by have HX:=hid (HX4.out.later (Below.refl _ _).drew);exact⟨cell_at HX.out 0,cell_at HX.out 1,cell_at HX.out 2,cell_at HX.out 3,cell_at HX.out 4,cell_at HX.out 5⟩) (fun hHeld=>?_)
 obtain⟨V,hV⟩: ∃V,V=w1.drew:=⟨_,rfl⟩
 have hb:Below w1.heap.size w1 V:=(by rw[hV];exact(Below.refl _ _).drew)
 rw[<-hV] at hHeld ⊢
 have HC:=HC4
 have HEX:=HEX4
 have HP:=HP4
 have HQ:=HQ4
 have HX:=HX4
 have HB:=HB4
 have HC:=hid (HC.out.below hb)
 have HEX:=hid (cells_later HEX.out hb)
 have HP:=hid (HP.out.later hb)
 have HQ:=hid (HQ.out.later hb)
 have HX:=hid (HX.out.later hb)
 have HB:=hid (step HB.out hb)
 clear hV hb HC4 HEX4 HP4 HQ4 HX4 HB4
 refine wpAnyH_take (i:=0) (v:=?_) rfl (by kernel_rfl) (by kernel_rfl) (by kernel_rfl) (fun _ _ _ h=>h) (Or.inl ⟨by rfl,?_⟩) (by assumption) ?_
 rotate_left
 ·intro w hSw;(try dsimp only at hSw);go_simp<;>with_reducible rfl
 try simp only[Act.put,getElem_toArray,getElem_cons_succ,getElem_cons_zero,setIfInBounds_toArray,set_cons_zero,set_cons_succ]
 refine wpAnyH_take (i:=1) (v:=?_) rfl (by kernel_rfl) (by kernel_rfl) (by kernel_rfl) (fun _ _ _ h=>h) (Or.inl ⟨by rfl,?_⟩) (by assumption) ?_
 rotate_left
 ·intro w hSw;(try dsimp only at hSw);go_simp<;>with_reducible rfl
 try simp only[Act.put,getElem_toArray,getElem_cons_succ,getElem_cons_zero,setIfInBounds_toArray,set_cons_zero,set_cons_succ]
 refine wpAnyH_take (i:=2) (v:=?_) rfl (by kernel_rfl) (by kernel_rfl) (by kernel_rfl) (fun _ _ _ h=>h) (Or.inl ⟨by rfl,?_⟩) (by assumption) ?_
 rotate_left
 ·intro w hSw;(try dsimp only at hSw);go_simp<;>with_reducible rfl
 try simp only[Act.put,getElem_toArray,getElem_cons_succ,getElem_cons_zero,setIfInBounds_toArray,set_cons_zero,set_cons_succ]
 refine wpAnyH_take (i:=3) (v:=?_) rfl (by kernel_rfl) (by kernel_rfl) (by kernel_rfl) (fun _ _ _ h=>h) (Or.inl ⟨by rfl,?_⟩) (by assumption) ?_
 rotate_left
 ·intro w hSw;(try dsimp only at hSw);go_simp<;>with_reducible rfl
 try simp only[Act.put,getElem_toArray,getElem_cons_succ,getElem_cons_zero,setIfInBounds_toArray,set_cons_zero,set_cons_succ]
 refine wpAnyH_take (i:=5) (v:=?_) rfl (by kernel_rfl) (by kernel_rfl) (by kernel_rfl) (fun _ _ _ h=>h) (Or.inl ⟨by rfl,?_⟩) (by assumption) ?_
 rotate_left
 ·intro w hSw;(try dsimp only at hSw);go_simp<;>with_reducible rfl
 try simp only[Act.put,getElem_toArray,getElem_cons_succ,getElem_cons_zero,setIfInBounds_toArray,set_cons_zero,set_cons_succ]
 refine wpAnyH_ready (rs:= [4,6]) (by kernel_rfl) (by simp) ?_
 refine AllReadyH.cons rfl (fun K hK=>?_) (AllReadyH.cons rfl (fun K hK=>?_) AllReadyH.nil)
 have kl:=cell_at HEX.out 11
 simp only[List.getElem?_toArray,List.getElem?_cons_zero,List.getElem?_cons_succ] at kl
 go_simp
 clear kl
 refine hK.out _ _ (⟨cell_at HX.out 0,cell_at HX.out 1,cell_at HX.out 2,cell_at HX.out 3,cell_at HX.out 4,cell_at HX.out 5⟩) (fun hHeld=>?_)
 clear hK K
 try simp only[Act.put,getElem_toArray,getElem_cons_succ,getElem_cons_zero,setIfInBounds_toArray,set_cons_zero,set_cons_succ]
 refine wpAnyH_ready (rs:= [6]) (by kernel_rfl) (by simp) ?_
 refine AllReadyH.cons rfl (fun K hK=>?_) AllReadyH.nil
 go_simp
 go_at_call 31
 have CC:=LCopy_any ⟨⟨false,sv,s1,s2,time,l⟩,la,lc⟩ V (by unfold BatC.u;dsimp only;rw[HN.out];exact HR.out.later HB.out) (by have:=HL3.out;dsimp only;omega)
 unfold batVal BatC.u at CC
 dsimp only at CC
 rw[HN.out] at CC
 refine CC.mono ?_
 clear CC
 rintro e V' ⟨⟨⟨yf,yv,ytv,yts,yt,yr⟩,ya,yc⟩,rfl,hyb,hyo,hb⟩
 unfold batVal BatC.u
 dsimp only
 have HYB:=hid hyb
 have HYO:=hid (show OwnQ m V' (⟨⟨yf,yv,ytv,yts,yt,yr⟩,ya,yc⟩:BatC) from hyo.lower (by have:=HGM.out;have:=get_ltB HEX.out;omega))
 have HC:=hid (HC.out.below hb)
 have HEX:=hid (cells_later HEX.out hb)
 have HP:=hid (HP.out.later hb)
 have HQ:=hid (HQ.out.later hb)
 have HX:=hid (HX.out.later hb)
 have HB:=hid (step HB.out hb)
 clear hyb hyo hb
 obtain⟨V,rfl⟩: ∃V,V=V':=⟨_,rfl⟩
 refine hK.out _ _ (⟨cell_at HX.out 0,cell_at HX.out 1,cell_at HX.out 2,cell_at HX.out 3,cell_at HX.out 4,cell_at HX.out 5⟩) (fun hHeld=>?_)
 clear hK K
 try simp only[Act.put,getElem_toArray,getElem_cons_succ,getElem_cons_zero,setIfInBounds_toArray,set_cons_zero,set_cons_succ]
 refine wpAnyH_ready (rs:= [7]) (by kernel_rfl) (by simp) ?_
 refine AllReadyH.cons rfl (fun K hK=>?_) AllReadyH.nil
 go_simp
 obtain⟨V',hV'⟩: ∃V',V'=V.alloc (.cells #[.bool yf,.int .i64 yv,.int .i64 ytv,.int .i64 yts,.int .i64 yt,.slice ya yr.length yc] 42):=⟨_,rfl⟩
 have hb:Below V.heap.size V V':=(by rw[hV'];exact newAlloc _ _)
 have HNB:Hid (HeapAt V' V.heap.size (.cells #[.bool yf,.int .i64 yv,.int .i64 ytv,.int .i64 yts,.int .i64 yt,.slice ya yr.length yc] 42)):=hid (by rw[hV'];exact alloc_atB _ _ _ rfl)
 rw[<-hV']
 have HC:=hid (HC.out.below hb)
 have HEX:=hid (cells_later HEX.out hb)
 have HP:=hid (HP.out.later hb)
 have HQ:=hid (HQ.out.later hb)
 have HX:=hid (HX.out.later hb)
 have HB:=hid (step HB.out hb)
 have HYO:=hid (HYO.out.later hb)
 clear hV' hb
 generalize V.heap.size=n5 at HNB ⊢
 obtain⟨V,rfl⟩: ∃V,V=V':=⟨_,rfl⟩
 refine hK.out _ _ (⟨cell_at HX.out 0,cell_at HX.out 1,cell_at HX.out 2,cell_at HX.out 3,cell_at HX.out 4,cell_at HX.out 5⟩) (fun hHeld=>?_)
 clear hK K
 try simp only[Act.put,getElem_toArray,getElem_cons_succ,getElem_cons_zero,setIfInBounds_toArray,set_cons_zero,set_cons_succ]
 refine wpAnyH_ready (rs:= [8]) (by kernel_rfl) (by simp) ?_
 refine AllReadyH.cons rfl (fun K hK=>?_) AllReadyH.nil
 refine step_append_O (by rfl) _ _ _ (by rfl) m 42 i6 _ 6 64 Try.underlying29 hi6 h60 h61 h62 rfl (by omega) (.slice ba B.length bc) B.length (flatX cellsB B) (by rfl) HQ.out.row ⟨n5,0,none⟩ 1 1 (cellsB (⟨⟨yf,yv,ytv,yts,yt,yr⟩,ya,yc⟩:BatC)) (by rfl) rfl (World.news_of_block (cs:=#[.bool yf,.int .i64 yv,.int .i64 ytv,.int .i64 yts,.int .i64 yt,.slice ya yr.length yc]) (t:=42) (fr:=(0,0)) HNB.out) (cellsB_one (⟨⟨yf,yv,ytv,yts,yt,yr⟩,ya,yc⟩:BatC)) (by omega) (by unfold maxLen;have:=HBN.out;omega) (by have:=HBN.out;omega) (by have:=HGM.out;have:=get_ltB HEX.out;omega) ?_
 intro v' V' hown hgrow hat
 have hsz:=HC.out.size
 have HC:=hid (HC.out.grown hgrow (fun i q=>.inl (.inr (.inr q))))
 have HEX':Hid (V'.heap[g]?= _):=hid ((hgrow.block g (get_ltB HEX.out) (fun q=>HQ.out.row.ne HEX.out (by decide) q.symm)).trans HEX.out)
 have HP:=hid (OwnPs.grO HP.out HQ.out.row hgrow)
 have HX:Hid (HeapAt V' w.heap.size _):=hid ((hgrow.block w.heap.size (get_ltB HX.out) (fun q=>by have:=HBLT.out _ q.symm;omega)).trans HX.out)
 have HQ':Hid (OwnB m V' v' (B++ [(⟨⟨yf,yv,ytv,yts,yt,yr⟩,ya,yc⟩:BatC)])):=hid (OwnB.push (b2:=m) HQ.out HYO.out hgrow hown)
 have HNX:Hid (Nxt (.slice ba B.length bc) v' w.heap.size):=hid (Nxt.step hat hsz)
 have HEX:=HEX'
 have HQ:=HQ'
 obtain⟨va,vb,rfl⟩:=HQ.out.form
 clear hown hgrow hat hsz HNB HYO HB HEX' HQ'
 rw[List.length_append,List.length_singleton] at HQ HNX ⊢
 obtain⟨V,rfl⟩: ∃V,V=V':=⟨_,rfl⟩
 refine hK.out _ _ (⟨cell_at HX.out 0,cell_at HX.out 1,cell_at HX.out 2,cell_at HX.out 3,cell_at HX.out 4,cell_at HX.out 5⟩) (fun hHeld=>?_)
 clear hK K
 try simp only[Act.put,getElem_toArray,getElem_cons_succ,getElem_cons_zero,setIfInBounds_toArray,set_cons_zero,set_cons_succ]
 refine wpAnyH_take (i:=9) (v:=?_) rfl (by kernel_rfl) (by kernel_rfl) (by kernel_rfl) (fun _ _ _ h=>h) (Or.inl ⟨by rfl,?_⟩) (by assumption) ?_
 rotate_left
 ·intro w hSw;(try dsimp only at hSw);go_simp<;>with_reducible rfl
 try simp only[Act.put,getElem_toArray,getElem_cons_succ,getElem_cons_zero,setIfInBounds_toArray,set_cons_zero,set_cons_succ]
 refine wpAnyH_take (i:=10) (v:=?_) rfl (by kernel_rfl) (by kernel_rfl) (by kernel_rfl) (fun _ _ _ h=>h) (Or.inl ⟨by rfl,?_⟩) (by assumption) ?_
 rotate_left
 ·intro w hSw;(try dsimp only at hSw);go_simp<;>with_reducible rfl
 try simp only[Act.put,getElem_toArray,getElem_cons_succ,getElem_cons_zero,setIfInBounds_toArray,set_cons_zero,set_cons_succ]
 refine wpAnyH_ready (rs:= [11]) (by kernel_rfl) (by simp) ?_
 refine AllReadyH.cons rfl (fun K hK=>?_) AllReadyH.nil
 have kl:=cell_at HEX.out 11
 simp only[List.getElem?_toArray,List.getElem?_cons_zero,List.getElem?_cons_succ] at kl
 have kf:=frozen_at HEX.out
 go_simp
 clear kl kf
 have hg:=grown_set1 V g 11 (.slice va (B.length+1) vb)
 have HC:=hid (HC.out.set g 11 (.slice va (B.length+1) vb) (.inl (.inl rfl)))
 have HP:=hid (OwnPs.far HP.out hg HEX.out (by decide) (by decide) (by decide))
 have HQ:=hid (OwnB.far HQ.out hg HEX.out (by decide) (by decide))
 have HX:=hid (HeapAt.other HX.out hne (i:=11) (.slice va (B.length+1) vb))
 have hx:=set_atB HEX.out 11 (.slice va (B.length+1) vb)
 simp only[setIfInBounds_toArray,set_cons_zero,set_cons_succ] at hx
 have HEX:=hid hx
 clear hx hg
 refine hK.out _ _ (⟨cell_at HX.out 0,cell_at HX.out 1,cell_at HX.out 2,cell_at HX.out 3,cell_at HX.out 4,cell_at HX.out 5⟩) (fun hHeld=>?_)
 clear hK K
 try simp only[Act.put,getElem_toArray,getElem_cons_succ,getElem_cons_zero,setIfInBounds_toArray,set_cons_zero,set_cons_succ]
 rotate_left
 go_simp
 go_at_call 31
 have CC:=LCopy_any ⟨⟨false,sv,s1,s2,time,l⟩,la,lc⟩ V (by unfold BatC.u;dsimp only;rw[HN.out];exact HR.out.later HB.out) (by have:=HL3.out;dsimp only;omega)
 unfold batVal BatC.u at CC
 dsimp only at CC
 rw[HN.out] at CC
 refine CC.mono ?_
 clear CC
 rintro e V' ⟨⟨⟨yf,yv,ytv,yts,yt,yr⟩,ya,yc⟩,rfl,hyb,hyo,hb⟩
 unfold batVal BatC.u
 dsimp only
 have HYB:=hid hyb
 have HYO:=hid (show OwnQ m V' (⟨⟨yf,yv,ytv,yts,yt,yr⟩,ya,yc⟩:BatC) from hyo.lower (by have:=HGM.out;have:=get_ltB HEX.out;omega))
 have HC:=hid (HC.out.below hb)
 have HEX:=hid (cells_later HEX.out hb)
 have HP:=hid (HP.out.later hb)
 have HQ:=hid (HQ.out.later hb)
 have HX:=hid (HX.out.later hb)
 have HB:=hid (step HB.out hb)
 clear hyb hyo hb
 obtain⟨V,rfl⟩: ∃V,V=V':=⟨_,rfl⟩
 refine hK.out _ _ (⟨cell_at HX.out 0,cell_at HX.out 1,cell_at HX.out 2,cell_at HX.out 3,cell_at HX.out 4,cell_at HX.out 5⟩) (fun hHeld=>?_)
 clear hK K
 try simp only[Act.put,getElem_toArray,getElem_cons_succ,getElem_cons_zero,setIfInBounds_toArray,set_cons_zero,set_cons_succ]
 refine wpAnyH_ready (rs:= [4,7]) (by kernel_rfl) (by simp) ?_
 refine AllReadyH.cons rfl (fun K hK=>?_) (AllReadyH.cons rfl (fun K hK=>?_) AllReadyH.nil)
 have kl:=cell_at HEX.out 11
 simp only[List.getElem?_toArray,List.getElem?_cons_zero,List.getElem?_cons_succ] at kl
 go_simp
 clear kl
 refine hK.out _ _ (⟨cell_at HX.out 0,cell_at HX.out 1,cell_at HX.out 2,cell_at HX.out 3,cell_at HX.out 4,cell_at HX.out 5⟩) (fun hHeld=>?_)
 clear hK K
 try simp only[Act.put,getElem_toArray,getElem_cons_succ,getElem_cons_zero,setIfInBounds_toArray,set_cons_zero,set_cons_succ]
 refine wpAnyH_ready (rs:= [7]) (by kernel_rfl) (by simp) ?_
 refine AllReadyH.cons rfl (fun K hK=>?_) AllReadyH.nil
 go_simp
 obtain⟨V',hV'⟩: ∃V',V'=V.alloc (.cells #[.bool yf,.int .i64 yv,.int .i64 ytv,.int .i64 yts,.int .i64 yt,.slice ya yr.length yc] 42):=⟨_,rfl⟩
 have hb:Below V.heap.size V V':=(by rw[hV'];exact newAlloc _ _)
 have HNB:Hid (HeapAt V' V.heap.size (.cells #[.bool yf,.int .i64 yv,.int .i64 ytv,.int .i64 yts,.int .i64 yt,.slice ya yr.length yc] 42)):=hid (by rw[hV'];exact alloc_atB _ _ _ rfl)
 rw[<-hV']
 have HC:=hid (HC.out.below hb)
 have HEX:=hid (cells_later HEX.out hb)
 have HP:=hid (HP.out.later hb)
 have HQ:=hid (HQ.out.later hb)
 have HX:=hid (HX.out.later hb)
 have HB:=hid (step HB.out hb)
 have HYO:=hid (HYO.out.later hb)
 clear hV' hb
 generalize V.heap.size=n5 at HNB ⊢
 obtain⟨V,rfl⟩: ∃V,V=V':=⟨_,rfl⟩
 refine hK.out _ _ (⟨cell_at HX.out 0,cell_at HX.out 1,cell_at HX.out 2,cell_at HX.out 3,cell_at HX.out 4,cell_at HX.out 5⟩) (fun hHeld=>?_)
 clear hK K
 try simp only[Act.put,getElem_toArray,getElem_cons_succ,getElem_cons_zero,setIfInBounds_toArray,set_cons_zero,set_cons_succ]
 refine wpAnyH_ready (rs:= [8]) (by kernel_rfl) (by simp) ?_
 refine AllReadyH.cons rfl (fun K hK=>?_) AllReadyH.nil
 refine step_append_O (by rfl) _ _ _ (by rfl) m 42 i6 _ 6 64 Try.underlying29 hi6 h60 h61 h62 rfl (by omega) (.slice ba B.length bc) B.length (flatX cellsB B) (by rfl) HQ.out.row ⟨n5,0,none⟩ 1 1 (cellsB (⟨⟨yf,yv,ytv,yts,yt,yr⟩,ya,yc⟩:BatC)) (by rfl) rfl (World.news_of_block (cs:=#[.bool yf,.int .i64 yv,.int .i64 ytv,.int .i64 yts,.int .i64 yt,.slice ya yr.length yc]) (t:=42) (fr:=(0,0)) HNB.out) (cellsB_one (⟨⟨yf,yv,ytv,yts,yt,yr⟩,ya,yc⟩:BatC)) (by omega) (by unfold maxLen;have:=HBN.out;omega) (by have:=HBN.out;omega) (by have:=HGM.out;have:=get_ltB HEX.out;omega) ?_
 intro v' V' hown hgrow hat
 have hsz:=HC.out.size
 have HC:=hid (HC.out.grown hgrow (fun i q=>.inl (.inr (.inr q))))
 have HEX':Hid (V'.heap[g]?= _):=hid ((hgrow.block g (get_ltB HEX.out) (fun q=>HQ.out.row.ne HEX.out (by decide) q.symm)).trans HEX.out)
 have HP:=hid (OwnPs.grO HP.out HQ.out.row hgrow)
 have HX:Hid (HeapAt V' w.heap.size _):=hid ((hgrow.block w.heap.size (get_ltB HX.out) (fun q=>by have:=HBLT.out _ q.symm;omega)).trans HX.out)
 have HQ':Hid (OwnB m V' v' (B++ [(⟨⟨yf,yv,ytv,yts,yt,yr⟩,ya,yc⟩:BatC)])):=hid (OwnB.push (b2:=m) HQ.out HYO.out hgrow hown)
 have HNX:Hid (Nxt (.slice ba B.length bc) v' w.heap.size):=hid (Nxt.step hat hsz)
 have HEX:=HEX'
 have HQ:=HQ'
 obtain⟨va,vb,rfl⟩:=HQ.out.form
 clear hown hgrow hat hsz HNB HYO HB HEX' HQ'
 rw[List.length_append,List.length_singleton] at HQ HNX ⊢
 obtain⟨V,rfl⟩: ∃V,V=V':=⟨_,rfl⟩
 refine hK.out _ _ (⟨cell_at HX.out 0,cell_at HX.out 1,cell_at HX.out 2,cell_at HX.out 3,cell_at HX.out 4,cell_at HX.out 5⟩) (fun hHeld=>?_)
 clear hK K
 try simp only[Act.put,getElem_toArray,getElem_cons_succ,getElem_cons_zero,setIfInBounds_toArray,set_cons_zero,set_cons_succ]
 refine wpAnyH_take (i:=9) (v:=?_) rfl (by kernel_rfl) (by kernel_rfl) (by kernel_rfl) (fun _ _ _ h=>h) (Or.inl ⟨by rfl,?_⟩) (by assumption) ?_
 rotate_left
 ·intro w hSw;(try dsimp only at hSw);go_simp<;>with_reducible rfl
 try simp only[Act.put,getElem_toArray,getElem_cons_succ,getElem_cons_zero,setIfInBounds_toArray,set_cons_zero,set_cons_succ]
 refine wpAnyH_take (i:=10) (v:=?_) rfl (by kernel_rfl) (by kernel_rfl) (by kernel_rfl) (fun _ _ _ h=>h) (Or.inl ⟨by rfl,?_⟩) (by assumption) ?_
 rotate_left
 ·intro w hSw;(try dsimp only at hSw);go_simp<;>with_reducible rfl
 try simp only[Act.put,getElem_toArray,getElem_cons_succ,getElem_cons_zero,setIfInBounds_toArray,set_cons_zero,set_cons_succ]
 refine wpAnyH_ready (rs:= [11]) (by kernel_rfl) (by simp) ?_
 refine AllReadyH.cons rfl (fun K hK=>?_) AllReadyH.nil
 have kl:=cell_at HEX.out 11
 simp only[List.getElem?_toArray,List.getElem?_cons_zero,List.getElem?_cons_succ] at kl
 have kf:=frozen_at HEX.out
 go_simp
 clear kl kf
 have hg:=grown_set1 V g 11 (.slice va (B.length+1) vb)
 have HC:=hid (HC.out.set g 11 (.slice va (B.length+1) vb) (.inl (.inl rfl)))
 have HP:=hid (OwnPs.far HP.out hg HEX.out (by decide) (by decide) (by decide))
 have HQ:=hid (OwnB.far HQ.out hg HEX.out (by decide) (by decide))
 have HX:=hid (HeapAt.other HX.out hne (i:=11) (.slice va (B.length+1) vb))
 have hx:=set_atB HEX.out 11 (.slice va (B.length+1) vb)
 simp only[setIfInBounds_toArray,set_cons_zero,set_cons_succ] at hx
 have HEX:=hid hx
 clear hx hg
 refine hK.out _ _ (⟨cell_at HX.out 0,cell_at HX.out 1,cell_at HX.out 2,cell_at HX.out 3,cell_at HX.out 4,cell_at HX.out 5⟩) (fun hHeld=>?_)
 clear hK K
 try simp only[Act.put,getElem_toArray,getElem_cons_succ,getElem_cons_zero,setIfInBounds_toArray,set_cons_zero,set_cons_succ]
 rotate_left
 go_simp
 obtain⟨V',hV'⟩: ∃V',V'=V.alloc (.cells #[.bool yf,.int .i64 yv,.int .i64 ytv,.int .i64 yts,.int .i64 yt,.slice ya yr.length yc] 42):=⟨_,rfl⟩
 have hb:Below V.heap.size V V':=(by rw[hV'];exact newAlloc _ _)
 have HNB:Hid (HeapAt V' V.heap.size (.cells #[.bool yf,.int .i64 yv,.int .i64 ytv,.int .i64 yts,.int .i64 yt,.slice ya yr.length yc] 42)):=hid (by rw[hV'];exact alloc_atB _ _ _ rfl)
 rw[<-hV']
 have HC:=hid (HC.out.below hb)
 have HEX:=hid (cells_later HEX.out hb)
 have HP:=hid (HP.out.later hb)
 have HQ:=hid (HQ.out.later hb)
 have HX:=hid (HX.out.later hb)
 have HB:=hid (step HB.out hb)
 have HYO:=hid (HYO.out.later hb)
 clear hV' hb
 generalize V.heap.size=n5 at HNB ⊢
 obtain⟨V,rfl⟩: ∃V,V=V':=⟨_,rfl⟩
 refine hK.out _ _ (⟨cell_at HX.out 0,cell_at HX.out 1,cell_at HX.out 2,cell_at HX.out 3,cell_at HX.out 4,cell_at HX.out 5⟩) (fun hHeld=>?_)
 clear hK K
 try simp only[Act.put,getElem_toArray,getElem_cons_succ,getElem_cons_zero,setIfInBounds_toArray,set_cons_zero,set_cons_succ]
 refine wpAnyH_ready (rs:= [4]) (by kernel_rfl) (by simp) ?_
 refine AllReadyH.cons rfl (fun K hK=>?_) AllReadyH.nil
 have kl:=cell_at HEX.out 11
 simp only[List.getElem?_toArray,List.getElem?_cons_zero,List.getElem?_cons_succ] at kl
 go_simp
 clear kl
 refine hK.out _ _ (⟨cell_at HX.out 0,cell_at HX.out 1,cell_at HX.out 2,cell_at HX.out 3,cell_at HX.out 4,cell_at HX.out 5⟩) (fun hHeld=>?_)
 clear hK K
 try simp only[Act.put,getElem_toArray,getElem_cons_succ,getElem_cons_zero,setIfInBounds_toArray,set_cons_zero,set_cons_succ]
 refine wpAnyH_ready (rs:= [8]) (by kernel_rfl) (by simp) ?_
 refine AllReadyH.cons rfl (fun K hK=>?_) AllReadyH.nil
 refine step_append_O (by rfl) _ _ _ (by rfl) m 42 i6 _ 6 64 Try.underlying29 hi6 h60 h61 h62 rfl (by omega) (.slice ba B.length bc) B.length (flatX cellsB B) (by rfl) HQ.out.row ⟨n5,0,none⟩ 1 1 (cellsB (⟨⟨yf,yv,ytv,yts,yt,yr⟩,ya,yc⟩:BatC)) (by rfl) rfl (World.news_of_block (cs:=#[.bool yf,.int .i64 yv,.int .i64 ytv,.int .i64 yts,.int .i64 yt,.slice ya yr.length yc]) (t:=42) (fr:=(0,0)) HNB.out) (cellsB_one (⟨⟨yf,yv,ytv,yts,yt,yr⟩,ya,yc⟩:BatC)) (by omega) (by unfold maxLen;have:=HBN.out;omega) (by have:=HBN.out;omega) (by have:=HGM.out;have:=get_ltB HEX.out;omega) ?_
 intro v' V' hown hgrow hat
 have hsz:=HC.out.size
 have HC:=hid (HC.out.grown hgrow (fun i q=>.inl (.inr (.inr q))))
 have HEX':Hid (V'.heap[g]?= _):=hid ((hgrow.block g (get_ltB HEX.out) (fun q=>HQ.out.row.ne HEX.out (by decide) q.symm)).trans HEX.out)
 have HP:=hid (OwnPs.grO HP.out HQ.out.row hgrow)
 have HX:Hid (HeapAt V' w.heap.size _):=hid ((hgrow.block w.heap.size (get_ltB HX.out) (fun q=>by have:=HBLT.out _ q.symm;omega)).trans HX.out)
 have HQ':Hid (OwnB m V' v' (B++ [(⟨⟨yf,yv,ytv,yts,yt,yr⟩,ya,yc⟩:BatC)])):=hid (OwnB.push (b2:=m) HQ.out HYO.out hgrow hown)
 have HNX:Hid (Nxt (.slice ba B.length bc) v' w.heap.size):=hid (Nxt.step hat hsz)
 have HEX:=HEX'
 have HQ:=HQ'
 obtain⟨va,vb,rfl⟩:=HQ.out.form
 clear hown hgrow hat hsz HNB HYO HB HEX' HQ'
 rw[List.length_append,List.length_singleton] at HQ HNX ⊢
 obtain⟨V,rfl⟩: ∃V,V=V':=⟨_,rfl⟩
 refine hK.out _ _ (⟨cell_at HX.out 0,cell_at HX.out 1,cell_at HX.out 2,cell_at HX.out 3,cell_at HX.out 4,cell_at HX.out 5⟩) (fun hHeld=>?_)
 clear hK K
 try simp only[Act.put,getElem_toArray,getElem_cons_succ,getElem_cons_zero,setIfInBounds_toArray,set_cons_zero,set_cons_succ]
 refine wpAnyH_take (i:=9) (v:=?_) rfl (by kernel_rfl) (by kernel_rfl) (by kernel_rfl) (fun _ _ _ h=>h) (Or.inl ⟨by rfl,?_⟩) (by assumption) ?_
 rotate_left
 ·intro w hSw;(try dsimp only at hSw);go_simp<;>with_reducible rfl
 try simp only[Act.put,getElem_toArray,getElem_cons_succ,getElem_cons_zero,setIfInBounds_toArray,set_cons_zero,set_cons_succ]
 refine wpAnyH_take (i:=10) (v:=?_) rfl (by kernel_rfl) (by kernel_rfl) (by kernel_rfl) (fun _ _ _ h=>h) (Or.inl ⟨by rfl,?_⟩) (by assumption) ?_
 rotate_left
 ·intro w hSw;(try dsimp only at hSw);go_simp<;>with_reducible rfl
 try simp only[Act.put,getElem_toArray,getElem_cons_succ,getElem_cons_zero,setIfInBounds_toArray,set_cons_zero,set_cons_succ]
 refine wpAnyH_ready (rs:= [11]) (by kernel_rfl) (by simp) ?_
 refine AllReadyH.cons rfl (fun K hK=>?_) AllReadyH.nil
 have kl:=cell_at HEX.out 11
 simp only[List.getElem?_toArray,List.getElem?_cons_zero,List.getElem?_cons_succ] at kl
 have kf:=frozen_at HEX.out
 go_simp
 clear kl kf
 have hg:=grown_set1 V g 11 (.slice va (B.length+1) vb)
 have HC:=hid (HC.out.set g 11 (.slice va (B.length+1) vb) (.inl (.inl rfl)))
 have HP:=hid (OwnPs.far HP.out hg HEX.out (by decide) (by decide) (by decide))
 have HQ:=hid (OwnB.far HQ.out hg HEX.out (by decide) (by decide))
 have HX:=hid (HeapAt.other HX.out hne (i:=11) (.slice va (B.length+1) vb))
 have hx:=set_atB HEX.out 11 (.slice va (B.length+1) vb)
 simp only[setIfInBounds_toArray,set_cons_zero,set_cons_succ] at hx
 have HEX:=hid hx
 clear hx hg
 refine hK.out _ _ (⟨cell_at HX.out 0,cell_at HX.out 1,cell_at HX.out 2,cell_at HX.out 3,cell_at HX.out 4,cell_at HX.out 5⟩) (fun hHeld=>?_)
 clear hK K
 try simp only[Act.put,getElem_toArray,getElem_cons_succ,getElem_cons_zero,setIfInBounds_toArray,set_cons_zero,set_cons_succ]
 rotate_left
 all_goals
  refine wpAnyH_done (by kernel_rfl) ?_ _
  clear hHeld HX
  generalize V.setCell ⟨g,11,none⟩ (.slice va (B.length+1) vb)=V5 at HC HP HQ HEX ⊢
  have c12:=cell_at HEX.out 12
  have cf:=frozen_at HEX.out
  simp at c12
  have ew12:IntKind.i64.wrap (sx+1)=sx+1:=(by rw[IntKind.wrap_i64];have:=HSX.out;have:=HX0.out;omega)
  go_upto_region 13 with fail
  have hg:=grown_set1 V5 g 12 (.int .i64 (sx+1))
  have HC:=hid (HC.out.set g 12 (.int .i64 (sx+1)) (.inl (.inl rfl)))
  have HP:=hid (OwnPs.far HP.out hg HEX.out (by decide) (by decide) (by decide))
  have HQ:=hid (OwnB.far HQ.out hg HEX.out (by decide) (by decide))
  have hx:=set_atB HEX.out 12 (.int .i64 (sx+1))
  simp only[setIfInBounds_toArray,set_cons_zero,set_cons_succ] at hx
  have HEX:=hid hx
  clear hx hg c12 cf ew12
  generalize V5.setCell ⟨g,12,none⟩ (.int .i64 (sx+1))=V6 at HC HP HQ HEX ⊢
  have c2:=cell_at HEX.out 2
  have c13:=cell_at HEX.out 13
  have c14:=cell_at HEX.out 14
  have c15:=cell_at HEX.out 15
  have cf:=frozen_at HEX.out
  simp at c2 c13 c14 c15
  obtain⟨TM,hTM⟩: ∃TM:Int,(if s3<time then time else s3)=TM:=⟨_,rfl⟩
  have HTM:=hid (show max s3 time=TM by rw[<-hTM,max_eq])
  have hg:=((grown_set1 V6 g 13 (.int .i64 sv)).trans (grown_set1 _ g 14 (.int .i64 sx))).trans (grown_set1 _ g 15 (.int .i64 TM))
  have HC:=hid ((((HC.out.set g 13 (.int .i64 sv) (.inl (.inl rfl))).set g 14 (.int .i64 sx) (.inl (.inl rfl))).set g 15 (.int .i64 TM) (.inl (.inl rfl))).below (Below.refl _ _).drew)
  have HP:=hid ((OwnPs.far HP.out hg HEX.out (by decide) (by decide) (by decide)).later (Below.refl _ _).drew)
  have HQ:=hid ((OwnB.far HQ.out hg HEX.out (by decide) (by decide)).later (Below.refl _ _).drew)
  have hx:=set_atB (set_atB (set_atB HEX.out 13 (.int .i64 sv)) 14 (.int .i64 sx)) 15 (.int .i64 TM)
  simp only[setIfInBounds_toArray,set_cons_zero,set_cons_succ] at hx
  have HEX:=hid (cells_later hx (Below.refl _ _).drew)
  clear hx hg
  go_region
  go_wp2
  go_ret2
  have hRv:=HRV.out
  subst hRv
  refine⟨rfl,_,_,⟨by have hx:=HEX.out;unfold pushF;dsimp only;rw[HTM.out];exact hx,⟨P,HEP.out,HP.out⟩,⟨_,?_,HQ.out⟩,HGM.out⟩,HC.out,Nxt.refl _ _,HNX.out⟩
  rw[valsB_snoc,HEB.out,HYB.out]
  rfl
end Ld
end Go.Proofs.Ytbpmfjjbfiiiaaa
