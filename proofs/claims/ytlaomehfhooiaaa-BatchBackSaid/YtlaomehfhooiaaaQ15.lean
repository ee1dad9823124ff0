/- Texts laid together by program. -/
import Derived.Test.YtlaomehfhooiaaaQ14
/- Contract: the document's Get of a batch. -/
set_option linter.unusedVariables false
set_option maxRecDepth 8000
set_option linter.unusedSimpArgs false
namespace Go.Proofs.Ytlaomehfhooiaaa
open Lib (hid)
open List (getElem_toArray getElem_cons_succ getElem_cons_zero setIfInBounds_toArray set_cons_zero set_cons_succ)
open Go.RowKit
namespace Cm

set_option maxHeartbeats 8000000 in
theorem RefGetB_any (v:Value) (bs:List UInt8) (t:Int) (w:World) (h:Rd w v bs) (ht:t<=9223372036854775807):
  Calls Try.prog 11 #[v,.int .i64 t] w (GetsB (getB bs t) w):=by
 have hlen:=Rd.len_le h
 unfold maxLen at hlen
 have hlt:=byteOf_lt bs t
 rcases hB:byteOf bs t with ⟨n,t1,e1⟩
 rcases hN:readNs bs [] t1 4 with ⟨l,t2,e2⟩
 rw[getB_told' hB hN]
 have b1:t1<=bs.length:=by have:=byteOf_le bs t;rw[hB] at this;exact this
 rw[hB] at hlt
 dsimp only at hlt
 have b2:t2<=bs.length:=by have:=readNs_le 4 [] t1 b1;rw[hN] at this;exact this
 have C1:=hid (fun w' (hb:Below w.heap.size w w')=>show Calls Try.prog 28 #[v,.int .i64 t] w' (Three (n,t1,e1) w') by rw[<-hB];exact Ref1.Byte_any v bs t w' (h.later hb) ht)
 have CN:=hid (fun w' (hb:Below w.heap.size w w')=>show Calls Try.prog 29 #[v,.int .i64 t1,.int .i64 4] w' (GetsZ (l,t2,e2) w') by rw[<-hN];exact RefNums_any v bs t1 4 w' (h.later hb) b1 (by omega))
 have CB:Hid (∀T n u e,T<=(bs.length:Int)->byteOf bs T=(n,u,e)-> ∀w',Below w.heap.size w w'->Calls Try.prog 28 #[v,.int .i64 T] w' (Three (n,u,e) w')):=fun T n u e hT hE w' hb=>by rw[<-hE];exact Ref1.Byte_any v bs T w' (h.later hb) (by omega)
 have CR:Hid (∀T r u e,T<=(bs.length:Int)->getR bs T=(r,u,e)-> ∀w',Below w.heap.size w w'->Calls Try.prog 30 #[v,.int .i64 T] w' (GetsR (r,u,e) w')):=fun T r u e hT hE w' hb=>by rw[<-hE];exact RefGetReq_any v bs T w' (h.later hb) (by omega)
 clear h hB ht
 by_cases z1:e1≠0
 ·have d1:(e1 != 0)=true:=by simpa using z1
  rw[if_pos z1]
  clear CN CR CB
  go_enter Try.func11,Try.ntmps11
  go_wp2_with (go_at_call 28;refine(C1.out _ (newAlloc _ _)).mono ?_;rintro e w1 ⟨rfl,hb1⟩;obtain⟨⟨c0,c1,c2,c3,c4,c5⟩,f0⟩:=zc_new w w1 hb1;have HB1:=hid (step (newAlloc w batZero) hb1))
  refine bodyPost_ret (by simp [results,Try.results11,go_sem,c0,c1,c2,c3,c4,c5]<;>rfl) rfl (GetsB.zeroed rfl (set6z HB1.out _ _ _ _ _ _))
 rw[if_neg z1]
 obtain rfl:e1=0:=by omega
 clear z1
 by_cases y1:1<n
 ·rw[if_pos y1]
  have d1:decide (1<n)=true:=by simp;omega
  clear CN CR CB
  go_enter Try.func11,Try.ntmps11
  go_wp2_with (go_at_call 28;refine(C1.out _ (newAlloc _ _)).mono ?_;rintro e w1 ⟨rfl,hb1⟩;obtain⟨⟨c0,c1,c2,c3,c4,c5⟩,f0⟩:=zc_new w w1 hb1;have HB1:=hid (step (newAlloc w batZero) hb1))
  refine bodyPost_ret (by simp [results,Try.results11,go_sem,c0,c1,c2,c3,c4,c5]<;>rfl) rfl (GetsB.zeroed rfl (set6z HB1.out _ _ _ _ _ _))
 rw[if_neg y1]
 by_cases y2:n=1
 ·rw[if_pos y2]
  subst y2
  clear CN CR CB
  go_enter Try.func11,Try.ntmps11
  go_wp2_with (go_at_call 28;refine(C1.out _ (newAlloc _ _)).mono ?_;rintro e w1 ⟨rfl,hb1⟩;obtain⟨⟨c0,c1,c2,c3,c4,c5⟩,f0⟩:=zc_new w w1 hb1;have HB1:=hid (step (newAlloc w batZero) hb1))
  refine bodyPost_ret (by simp [results,Try.results11,go_sem,c0,c1,c2,c3,c4,c5]<;>rfl) rfl ⟨.slice none 0 0,rfl,RdX.nil _,set6z HB1.out _ _ _ _ _ _⟩
 rw[if_neg y2]
 obtain rfl:n=0:=by omega
 clear y1 y2 hlt
 by_cases z2:e2≠0
 ·have d2:(e2 != 0)=true:=by simpa using z2
  rw[tail_bad _ _ _ _ z2]
  clear CR CB hN
  go_enter Try.func11,Try.ntmps11
  go_wp2_with (first
   | (go_at_call 28;refine(C1.out _ (newAlloc _ _)).mono ?_;rintro e w1 ⟨rfl,hb1⟩;have HB1:=hid (step (newAlloc w batZero) hb1))
   | (go_at_call 29;refine(CN.out _ HB1.out).mono ?_;rintro e w2 ⟨vn,rfl,_,hb2⟩;obtain⟨⟨c0,c1,c2,c3,c4,c5⟩,f0⟩:=zc_new w w2 (step hb1 hb2);have HB2:=hid (step HB1.out hb2)))
  refine bodyPost_ret (by simp [results,Try.results11,go_sem,c0,c1,c2,c3,c4,c5]<;>rfl) rfl (GetsB.zeroed rfl (set6z HB2.out _ _ _ _ _ _))
 obtain rfl:e2=0:=by omega
 clear z2
 rcases hC:byteOf bs t2 with ⟨n,t3,e3⟩
 have C3:=hid (CB.out t2 n t3 e3 b2 hC)
 have b3:t3<=bs.length:=by have:=byteOf_le bs t2;rw[hC] at this;exact this
 have hlt:=byteOf_lt bs t2
 rw[hC] at hlt
 dsimp only at hlt
 by_cases z3:e3≠0
 ·have d3:(e3 != 0)=true:=by simpa using z3
  rw[tail_rs (rs_bad1 hC z3) z3]
  clear CR CB hN hC
  go_enter Try.func11,Try.ntmps11
  go_wp2_with (first
   | (go_at_call 29;refine(CN.out _ HB1.out).mono ?_;rintro e w2 ⟨vn,rfl,_,hb2⟩;have HB2:=hid (step HB1.out hb2))
   | (go_at_call 28;refine(C3.out _ HB2.out).mono ?_;rintro e w3 ⟨rfl,hb3⟩;obtain⟨⟨c0,c1,c2,c3,c4,c5⟩,f0⟩:=zc_new w w3 (step (step hb1 hb2) hb3);have HB3:=hid (step HB2.out hb3))
   | (go_at_call 28;refine(C1.out _ (newAlloc _ _)).mono ?_;rintro e w1 ⟨rfl,hb1⟩;have HB1:=hid (step (newAlloc w batZero) hb1)))
  refine bodyPost_ret (by simp [results,Try.results11,go_sem,c0,c1,c2,c3,c4,c5]<;>rfl) rfl (GetsB.zeroed rfl (set6z HB3.out _ _ _ _ _ _))
 obtain rfl:e3=0:=by omega
 clear z3
 by_cases y3:3<n
 ·have d3:decide (3<n)=true:=by simp;omega
  rw[tail_rs (rs_bad2 hC y3) (by decide)]
  clear CR CB hN hC
  go_enter Try.func11,Try.ntmps11
  go_wp2_with (first
   | (go_at_call 29;refine(CN.out _ HB1.out).mono ?_;rintro e w2 ⟨vn,rfl,_,hb2⟩;have HB2:=hid (step HB1.out hb2))
   | (go_at_call 28;refine(C3.out _ HB2.out).mono ?_;rintro e w3 ⟨rfl,hb3⟩;obtain⟨⟨c0,c1,c2,c3,c4,c5⟩,f0⟩:=zc_new w w3 (step (step hb1 hb2) hb3);have HB3:=hid (step HB2.out hb3))
   | (go_at_call 28;refine(C1.out _ (newAlloc _ _)).mono ?_;rintro e w1 ⟨rfl,hb1⟩;have HB1:=hid (step (newAlloc w batZero) hb1)))
  refine bodyPost_ret (by simp [results,Try.results11,go_sem,c0,c1,c2,c3,c4,c5]<;>rfl) rfl (GetsB.zeroed rfl (set6z HB3.out _ _ _ _ _ _))
 obtain⟨N,rfl⟩:=Int.eq_ofNat_of_zero_le hlt.1
 have hN3:N<=3:=by omega
 have d3:decide (3<(N:Int))=false:=by simp;omega
 have HRS:=hid (rs_ok hC hN3)
 have hl4:l.length=4:=by have:=readNs_len 4 [] l t1 t2 hN;simpa using this
 obtain⟨la,lb,lc,ld,rfl⟩: ∃a b c d,l= [a,b,c,d]:=by
  match l,hl4 with
  | [a,b,c,d],_=>exact⟨a,b,c,d,rfl⟩
 have HTL:Hid (∀q u e,readRs bs [] t3 N=(q,u,e)->getTail bs [la,lb,lc,ld] t2 0=if e≠0 then (zeroB,0,e) else if mayB ⟨false,la,lb,lc,ld,q⟩ then (⟨false,la,lb,lc,ld,q⟩,u,0) else (zeroB,0,4)):=hid fun q u e hq=>by
  have e0:=HRS.out
  rw[hq] at e0
  by_cases he:e≠0
  ·rw[if_pos he,tail_rs e0 he]
  ·obtain rfl:e=0:=by omega
   rw[if_neg (by simp),tail_ok e0]
   rfl
 generalize getTail bs [la,lb,lc,ld] t2 0=TL at HTL ⊢
 obtain⟨i5,hi5,h50,h51,h52⟩:=info_partsB infoReqB
 clear CB hN hC hlt y3 hl4 HRS
 go_enter Try.func11,Try.ntmps11
 go_upto_region 16 with (first
   | (go_at_call 29;refine(CN.out _ HB1.out).mono ?_;rintro e w2 ⟨vn,rfl,ho2,hb2⟩;obtain⟨na,nc,rfl⟩:=Rw.own_form ho2;have HB2:=hid (step HB1.out hb2);have HO2:=hid ho2)
   | (go_at_call 28;refine(C3.out _ HB2.out).mono ?_;rintro e w3 ⟨rfl,hb3⟩;have HB3:=hid (step HB2.out hb3))
   | (go_at_call 28;refine(C1.out _ (newAlloc _ _)).mono ?_;rintro e w1 ⟨rfl,hb1⟩;have HB1:=hid (step (newAlloc w batZero) hb1)))
 obtain⟨nb,no,rfl,hc4⟩:=four_cells (RdX.own cellsZ_length HO2.out)
 obtain⟨p0,p1,p2,p3⟩:=hc4 _ hb3
 have hz3:w3.heap[w.heap.size]?=some batZero:=by
  rw[(step (step hb1 hb2) hb3).block w.heap.size (by simp)]
  show(w.heap.push batZero)[w.heap.size]?= _
  simp
 have HKP:Hid (∀W,Below w3.heap.size w3 W->W.cell? ⟨nb,no,none⟩=some (.int .i64 la)/\W.cell? ⟨nb,no+1,none⟩=some (.int .i64 lb)/\W.cell? ⟨nb,no+2,none⟩=some (.int .i64 lc)/\W.cell? ⟨nb,no+3,none⟩=some (.int .i64 ld)):=hid fun W hb=>hc4 _ (step hb3 hb)
 clear p0 p1 p2 p3 hc4 HO2 CN C1 C3 HB1 HB2 hb1 hb2 hb3 ho2
 refine wp_region_held_drew (S:=fun W=>W.cell? ⟨nb,no,none⟩=some (.int .i64 la)/\W.cell? ⟨nb,no+1,none⟩=some (.int .i64 lb)/\W.cell? ⟨nb,no+2,none⟩=some (.int .i64 lc)/\W.cell? ⟨nb,no+3,none⟩=some (.int .i64 ld)) (by kernel_rfl) (HKP.out _ (Below.refl _ _).drew) (fun hHeld=>?_)
 obtain⟨V,hV⟩: ∃V,V=w3.drew:=⟨_,rfl⟩
 have HBV:Hid (Below w3.heap.size w3 V):=hid (by rw[hV];exact(Below.refl _ _).drew)
 rw[<-hV] at hHeld ⊢
 clear hV
 refine wpAnyH_take (i:=0) (v:=?_) rfl (by kernel_rfl) (by kernel_rfl) (by kernel_rfl) (fun _ _ _ h=>h) (Or.inl ⟨by rfl,?_⟩) (by assumption) ?_
 rotate_left
 ·intro w hSw;(try dsimp only at hSw);go_simp<;>with_reducible rfl
 try simp only[Act.put,getElem_toArray,getElem_cons_succ,getElem_cons_zero,setIfInBounds_toArray,set_cons_zero,set_cons_succ]
 refine wpAnyH_take (i:=1) (v:=?_) rfl (by kernel_rfl) (by kernel_rfl) (by kernel_rfl) (fun _ _ _ h=>h) (Or.inl ⟨by rfl,?_⟩) (by assumption) ?_
 rotate_left
 ·intro w hSw;(try dsimp only at hSw);go_simp<;>with_reducible rfl
 try simp only[Act.put,getElem_toArray,getElem_cons_succ,getElem_cons_zero,setIfInBounds_toArray,set_cons_zero,set_cons_succ]
 refine wpAnyH_take (i:=2) (v:=?_) rfl (by kernel_rfl) (by kernel_rfl) (by kernel_rfl) (fun _ _ _ h=>h) (Or.inl ⟨by rfl,?_⟩) (by assumption) ?_
 rotate_left
 ·intro w hSw;(try dsimp only at hSw);go_simp<;>with_reducible rfl
 try simp only[Act.put,getElem_toArray,getElem_cons_succ,getElem_cons_zero,setIfInBounds_toArray,set_cons_zero,set_cons_succ]
 refine wpAnyH_take (i:=3) (v:=?_) rfl (by kernel_rfl) (by kernel_rfl) (by kernel_rfl) (fun _ _ _ h=>h) (Or.inl ⟨by rfl,?_⟩) (by assumption) ?_
 rotate_left
 ·intro w hSw;(try dsimp only at hSw);go_simp<;>with_reducible rfl
 try simp only[Act.put,getElem_toArray,getElem_cons_succ,getElem_cons_zero,setIfInBounds_toArray,set_cons_zero,set_cons_succ]
 refine wpAnyH_take (i:=4) (v:=?_) rfl (by kernel_rfl) (by kernel_rfl) (by kernel_rfl) (fun _ _ _ h=>h) (Or.inl ⟨by rfl,?_⟩) (by assumption) ?_
 rotate_left
 ·intro w hSw;(try dsimp only at hSw);go_simp<;>with_reducible rfl
 try simp only[Act.put,getElem_toArray,getElem_cons_succ,getElem_cons_zero,setIfInBounds_toArray,set_cons_zero,set_cons_succ]
 refine wpAnyH_take (i:=5) (v:=?_) rfl (by kernel_rfl) (by kernel_rfl) (by kernel_rfl) (fun _ _ _ h=>h) (Or.inl ⟨by rfl,?_⟩) (by assumption) ?_
 rotate_left
 ·intro w hSw;(try dsimp only at hSw);go_simp<;>with_reducible rfl
 try simp only[Act.put,getElem_toArray,getElem_cons_succ,getElem_cons_zero,setIfInBounds_toArray,set_cons_zero,set_cons_succ]
 refine wpAnyH_take (i:=6) (v:=?_) rfl (by kernel_rfl) (by kernel_rfl) (by kernel_rfl) (fun _ _ _ h=>h) (Or.inl ⟨by rfl,?_⟩) (by assumption) ?_
 rotate_left
 ·intro w hSw;(try dsimp only at hSw);go_simp<;>with_reducible rfl
 try simp only[Act.put,getElem_toArray,getElem_cons_succ,getElem_cons_zero,setIfInBounds_toArray,set_cons_zero,set_cons_succ]
 refine wpAnyH_take (i:=7) (v:=?_) rfl (by kernel_rfl) (by kernel_rfl) (by kernel_rfl) (fun _ _ _ h=>h) (Or.inl ⟨by rfl,?_⟩) (by assumption) ?_
 rotate_left
 ·intro w hSw;(try dsimp only at hSw);go_simp<;>with_reducible rfl
 try simp only[Act.put,getElem_toArray,getElem_cons_succ,getElem_cons_zero,setIfInBounds_toArray,set_cons_zero,set_cons_succ]
 refine wpAnyH_take (i:=8) (v:=?_) rfl (by kernel_rfl) (by kernel_rfl) (by kernel_rfl) (fun _ _ _ h=>h) (Or.inl ⟨by rfl,?_⟩) (by assumption) ?_
 rotate_left
 ·intro w hSw;(try dsimp only at hSw);go_simp<;>with_reducible rfl
 try simp only[Act.put,getElem_toArray,getElem_cons_succ,getElem_cons_zero,setIfInBounds_toArray,set_cons_zero,set_cons_succ]
 refine wpAnyH_take (i:=9) (v:=?_) rfl (by kernel_rfl) (by kernel_rfl) (by kernel_rfl) (fun _ _ _ h=>h) (Or.inl ⟨by rfl,?_⟩) (by assumption) ?_
 rotate_left
 ·intro w hSw;(try dsimp only at hSw);go_simp<;>with_reducible rfl
 try simp only[Act.put,getElem_toArray,getElem_cons_succ,getElem_cons_zero,setIfInBounds_toArray,set_cons_zero,set_cons_succ]
 refine wpAnyH_take (i:=10) (v:=?_) rfl (by kernel_rfl) (by kernel_rfl) (by kernel_rfl) (fun _ _ _ h=>h) (Or.inl ⟨by rfl,?_⟩) (by assumption) ?_
 rotate_left
 ·intro w hSw;(try dsimp only at hSw);go_simp<;>with_reducible rfl
 try simp only[Act.put,getElem_toArray,getElem_cons_succ,getElem_cons_zero,setIfInBounds_toArray,set_cons_zero,set_cons_succ]
 refine wpAnyH_take (i:=11) (v:=?_) rfl (by kernel_rfl) (by kernel_rfl) (by kernel_rfl) (fun _ _ _ h=>h) (Or.inl ⟨by rfl,?_⟩) (by assumption) ?_
 rotate_left
 ·intro w hSw;(try dsimp only at hSw);go_simp<;>with_reducible rfl
 try simp only[Act.put,getElem_toArray,getElem_cons_succ,getElem_cons_zero,setIfInBounds_toArray,set_cons_zero,set_cons_succ]
 refine wpAnyH_take (i:=12) (v:=?_) rfl (by kernel_rfl) (by kernel_rfl) (by kernel_rfl) (fun _ _ _ h=>h) (Or.inl ⟨by rfl,?_⟩) (by assumption) ?_
 rotate_left
 ·intro w hSw;(try dsimp only at hSw);go_simp<;>with_reducible rfl
 try simp only[Act.put,getElem_toArray,getElem_cons_succ,getElem_cons_zero,setIfInBounds_toArray,set_cons_zero,set_cons_succ]
 refine wpAnyH_take (i:=13) (v:=?_) rfl (by kernel_rfl) (by kernel_rfl) (by kernel_rfl) (fun _ _ _ h=>h) (Or.inl ⟨by rfl,?_⟩) (by assumption) ?_
 rotate_left
 ·intro w hSw;(try dsimp only at hSw);go_simp<;>with_reducible rfl
 try simp only[Act.put,getElem_toArray,getElem_cons_succ,getElem_cons_zero,setIfInBounds_toArray,set_cons_zero,set_cons_succ]
 refine wpAnyH_ready (rs:= [14]) (by kernel_rfl) (by simp) ?_
 refine AllReadyH.cons rfl (fun K hK=>?_) AllReadyH.nil
 go_simp
 obtain⟨V',hV'⟩: ∃V',V'=V.alloc (.cells #[.bool false,.int .i64 0,.int .i64 0,.int .i64 0,.int .i64 0,.slice none 0 0] 26):=⟨_,rfl⟩
 have hb:Below V.heap.size V V':=(by rw[hV'];exact newAlloc _ _)
 have HG0:Hid (GB w V.heap.size (.cells #[.bool false,.int .i64 0,.int .i64 0,.int .i64 0,.int .i64 0,.slice none 0 0] 26) V'):=hid (by rw[hV'];exact GB.new (step HB3.out HBV.out) ((HBV.out.block _ (get_ltB hz3)).trans hz3) _)
 rw[<-hV']
 have hB4:=step HBV.out hb
 clear hV' hb
 have hA3:Hid (w3.heap.size<=V.heap.size):=hid HBV.out.size
 generalize hA:V.heap.size=A at HG0 hA3 ⊢
 clear hA
 refine hK.out _ _ (HKP.out _ hB4) (fun hHeld=>?_)
 clear hK K
 try simp only[Act.put,getElem_toArray,getElem_cons_succ,getElem_cons_zero,setIfInBounds_toArray,set_cons_zero,set_cons_succ]
 have hz:=HG0.out.box
 have k0:=cell_at hz 0
 have k1:=cell_at hz 1
 have k2:=cell_at hz 2
 have k3:=cell_at hz 3
 have k4:=cell_at hz 4
 have k5:=cell_at hz 5
 have kf:=frozen_at hz
 simp at k0 k1 k2 k3 k4 k5
 clear hz
 refine wpAnyH_ready (rs:= [15]) (by kernel_rfl) (by simp) ?_
 refine AllReadyH.cons rfl (fun K hK=>?_) AllReadyH.nil
 go_simp
 have hA:w3.heap.size<=A:=by have:=hA3.out;omega
 refine hK.out _ _ (HKP.out _ ((((((hB4.setCell hA _).setCell hA _).setCell hA _).setCell hA _).setCell hA _).setCell hA _)) (fun hHeld=>?_)
 clear hK K
 try simp only[Act.put,getElem_toArray,getElem_cons_succ,getElem_cons_zero,setIfInBounds_toArray,set_cons_zero,set_cons_succ]
 refine wpAnyH_done (by kernel_rfl) ?_ _
 have HG1:Hid (GB w A (.cells #[.bool false,.int .i64 la,.int .i64 lb,.int .i64 lc,.int .i64 ld,.slice none 0 0] 26) ((((((V'.setCell ⟨A,0,none⟩ (.bool false)).setCell ⟨A,1,none⟩ (.int .i64 la)).setCell ⟨A,2,none⟩ (.int .i64 lb)).setCell ⟨A,3,none⟩ (.int .i64 lc)).setCell ⟨A,4,none⟩ (.int .i64 ld)).setCell ⟨A,5,none⟩ (.slice none 0 0))):=hid (HG0.out.put6 _ _ _ _ _ _)
 generalize ((((((V'.setCell ⟨A,0,none⟩ (.bool false)).setCell ⟨A,1,none⟩ (.int .i64 la)).setCell ⟨A,2,none⟩ (.int .i64 lb)).setCell ⟨A,3,none⟩ (.int .i64 lc)).setCell ⟨A,4,none⟩ (.int .i64 ld)).setCell ⟨A,5,none⟩ (.slice none 0 0))=W4 at HG1 ⊢
 clear k0 k1 k2 k3 k4 k5 kf hHeld HG0 HBV hB4 hA HKP hA3 hz3 HB3
 go_wp2_with fail
 go_loopw [1,12,13,14,15] (fun x i _ _ _ wr=> ∃(j:Nat) (T:Int) (G:List ReqV) (u:Value),j<=N/\i= .int .i64 (j:Int)/\x= .int .i64 T/\G.length=j/\T<=(bs.length:Int)/\Hid (GB w A (batBox [la,lb,lc,ld] u) wr)/\Hid (wr.ownsRow (A+1) 44 5 u G.length (flatX cellsR G))/\Hid (readRs bs [] t3 N=readRs bs G T (N - j))) (fun _ i _ _ _ _=>N - (intOf i).toNat)
 case atStart=>exact⟨0,t3,[],.slice none 0 0,by omega,rfl,rfl,rfl,b3,HG1,hid (World.ownsRow_nil _ _ _ _),hid rfl⟩
 case round=>
  obtain⟨j,T,G,u,hj,rfl,rfl,hGl,hT,HG,HO,HF⟩:=hrel
  by_cases hlt:j<N
  ·obtain⟨m,hm⟩: ∃m,N - j=m+1:=⟨N - j - 1,by omega⟩
   rcases hS:getR bs T with ⟨r,T2,e⟩
   have b5:T2<=bs.length:=by have:=getR_le bs T;rw[hS] at this;exact this
   have CK:=hid (CR.out T r T2 e hT hS)
   have hF:=HF.out
   rw[hm] at hF
   by_cases y:e≠0
   ·have d:(e != 0)=true:=by simpa using y
    rw[readRs_bad hS y] at hF
    have HF2:=hid ((HTL.out _ _ _ hF).trans (if_pos y))
    clear hF HF hS y CR hGl HTL
    obtain⟨rc,rq,rk,rs,rn⟩:=r
    unfold GetsR reqVal at CK
    dsimp only at CK
    go_wp2_with (go_at_call 30;refine(CK.out _ HG.out.below).mono ?_;rintro e w5 ⟨rfl,hb5⟩;have HG5:=hid (HG.out.later (stepAlloc hb5 (.cells #[.int .i64 rc,.int .i64 rq,.int .i64 rk,.int .i64 rs,.string (bstr rn)] 44)));obtain⟨⟨c0,c1,c2,c3,c4,c5⟩,f0⟩:=HG5.out.zc)
    rw[HF2.out]
    refine bodyPost_ret (by simp [results,Try.results11,go_sem,c0,c1,c2,c3,c4,c5]<;>rfl) rfl (GetsB.zeroed rfl (set6z HG5.out.below _ _ _ _ _ _))
   obtain rfl:e=0:=by omega
   rw[readRs_ok hS] at hF
   have HF2:=hid hF
   clear hF HF hS y CR HTL
   have hone:=cellsR_one r
   obtain⟨rc,rq,rk,rs,rn⟩:=r
   unfold GetsR reqVal at CK
   dsimp only at CK
   subst hGl
   obtain⟨ua,uc,hu⟩:=Rw.own_form HO.out
   subst hu
   go_wp2_with (first
    | (go_at_call 30;refine(CK.out _ HG.out.below).mono ?_;rintro e w5 ⟨rfl,hb5⟩;have HG5:=hid (HG.out.later (stepAlloc hb5 (.cells #[.int .i64 rc,.int .i64 rq,.int .i64 rk,.int .i64 rs,.string (bstr rn)] 44)));have HO5:=hid (Rw.own_alloc (Rw.own_below HO.out hb5) (.cells #[.int .i64 rc,.int .i64 rq,.int .i64 rk,.int .i64 rs,.string (bstr rn)] 44));obtain⟨⟨x0,x1,x2,x3,x4,x5⟩,xf⟩:=HG5.out.bc4;obtain⟨y0,y1,y2,y3,y4⟩:=box5 (Below.refl _ (w5.alloc (.cells #[.int .i64 rc,.int .i64 rq,.int .i64 rk,.int .i64 rs,.string (bstr rn)] 44))))
    | (at_builtin;refine wpList_append_one cellsR_length (by omega) rfl (.tmp 93) (.tmp 95) 24 rfl 44 i5 _ 48 Try.underlying24 hi5 h50 h51 h52 rfl #[.int .i64 rc,.int .i64 rq,.int .i64 rk,.int .i64 rs,.string (bstr rn)] ⟨rc,rq,⟨rk,rs,rn⟩⟩ rfl hone G (A+1) (A+1) (w5.alloc (.cells #[.int .i64 rc,.int .i64 rq,.int .i64 rk,.int .i64 rs,.string (bstr rn)] 44)) _ rfl (by rw[show(w5.alloc (.cells #[.int .i64 rc,.int .i64 rq,.int .i64 rk,.int .i64 rs,.string (bstr rn)] 44)).heap.size =w5.heap.size+1 by simp];rfl) HO5.out (by unfold maxLen;omega) (by omega) (get_ltB HG5.out.box) (Below.refl _ _) (Nat.le_refl _) ?_;intro v6 w6 hown6 hb6 hat6;have HG6:=hid (HG5.out.below1 hb6);have HO6:=hid hown6;obtain⟨va,vc,rfl⟩:=Rw.own_form hown6;obtain⟨⟨z0,z1,z2,z3,z4,z5⟩,zf⟩:=HG6.out.bc4))
   go_roundw
   case rel=>exact⟨G.length+1,T2,G++ [⟨rc,rq,⟨rk,rs,rn⟩⟩],_,by omega,by go_num,rfl,by simp,b5,hid (HG6.out.list _),hid (by have q:=own_box HO6.out (Nat.lt_succ_self _) (.slice va (G.length+1) vc);simpa only[List.length_append,List.length_singleton] using q),hid (by rw[HF2.out,show N - (G.length+1)=m by omega])⟩
   case measure=>simp [intOf];omega
  ·obtain rfl:j=N:=by omega
   have hF:=HF.out
   rw[Nat.sub_self,readRs] at hF
   have HF2:=hid ((HTL.out _ _ _ hF).trans (if_neg (by simp)))
   subst hGl
   obtain⟨ua,uc,hu⟩:=Rw.own_form HO.out
   subst hu
   have CM:Hid (Calls Try.prog 13 #[.agg #[.bool false,.int .i64 la,.int .i64 lb,.int .i64 lc,.int .i64 ld,.slice ua G.length uc]] wr (SaysB (mayB ⟨false,la,lb,lc,ld,G⟩) wr)):=RefMayB_any ⟨false,la,lb,lc,ld,G⟩ _ wr (RdX.own cellsR_length HO.out)
   obtain⟨⟨x0,x1,x2,x3,x4,x5⟩,xf⟩:=HG.out.bc4
   clear hF HF CR HTL
   cases hm:mayB ⟨false,la,lb,lc,ld,G⟩
   case false=>
    have HM:=hid hm
    clear hm
    go_wp2_with (go_at_call 13;refine CM.out.mono ?_;rw[HM.out];rintro e w7 ⟨rfl,hb7⟩;have HG7:=hid (HG.out.later hb7);obtain⟨⟨c0,c1,c2,c3,c4,c5⟩,f0⟩:=HG7.out.zc)
    rw[HF2.out,HM.out,if_neg (by simp)]
    refine bodyPost_ret (by simp [results,Try.results11,go_sem,c0,c1,c2,c3,c4,c5]<;>rfl) rfl (GetsB.zeroed rfl (set6z HG7.out.below _ _ _ _ _ _))
   have HM:=hid hm
   clear hm
   go_wp2_with (go_at_call 13;refine CM.out.mono ?_;rw[HM.out];rintro e w7 ⟨rfl,hb7⟩;have HG7:=hid (HG.out.later hb7);have HO7:=hid (Rw.own_below HO.out hb7);obtain⟨⟨c0,c1,c2,c3,c4,c5⟩,f0⟩:=HG7.out.zc;obtain⟨⟨z0,z1,z2,z3,z4,z5⟩,zf⟩:=HG7.out.bc4)
   rw[HF2.out,HM.out,if_pos rfl]
   refine bodyPost_ret (by simp [results,Try.results11,go_sem,c0,c1,c2,c3,c4,c5]<;>rfl) rfl ⟨.slice ua G.length uc,rfl,RdX.own cellsR_length (Rw.own_keep HO7.out fun g hg=>?_),set6z HG7.out.below _ _ _ _ _ _⟩
   have hg1:=(Rw.own_lt HO7.out g hg).1
   have hne:g≠w.heap.size:=by have:=HG.out.lt;omega
   have key: ∀(W:World) (i:Nat) (u:Value),(W.setCell ⟨w.heap.size,i,none⟩ u).heap[g]?=W.heap[g]?:=fun W i u=>Below.heap_setCell _ _ _ _ hne
   rw[key,key,key,key,key,key]
end Cm
end Go.Proofs.Ytlaomehfhooiaaa
