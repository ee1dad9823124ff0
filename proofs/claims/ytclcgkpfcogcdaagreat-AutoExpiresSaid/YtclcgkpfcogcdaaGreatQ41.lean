/- Texts laid together by program. -/
import Derived.Test.YtclcgkpfcogcdaaGreatQ39
import Derived.Test.YtclcgkpfcogcdaaGreatQ40
import Derived.ProofKit
import Derived.OpenShut
import Derived.Deep.Strs
import Derived.Deep.Slices
import Derived.Lib.SmallJoins
/- Contracts: package memo's Keep. Made by tools/gen_memx.py. -/
set_option linter.unusedVariables false
set_option maxRecDepth 8000
set_option linter.unusedSimpArgs false
namespace Go.Proofs.YtclcgkpfcogcdaaGreat
open Lib (hid)
open List (getElem_toArray getElem_cons_succ getElem_cons_zero setIfInBounds_toArray set_cons_zero set_cons_succ)
open Go.RowKit Go.Shelf
namespace Cm

set_option maxHeartbeats 4000000 in
theorem MemKeep_set (v u:Value) (L:List MemC) (A:AnsV) (w:World) (h:RdM w v L) (hr:Rm (valsM L)) (h5:L.length<=1000) (hu:RdH w u A.rep.held) (h6:A.rep.held.length<=1000) (h1:mayA A=true) (h2:freshM (valsM L) A.client A.seq=1) (k:Nat) (hk:k<L.length) (hi:idxI (isCl A.client) (valsM L)=(k:Int)) (he:L[k].m.client =A.client):
  Calls Tryz.prog 61 #[v,ansVal A u] w (GetsO (insM A (valsM L)) w):=by
 obtain⟨ua,uc,rfl, -⟩:=hu.ex
 have KM0:=RepMayAnswer_any A (.slice ua A.rep.held.length uc)
 have KO0:=copyOfM_any ⟨A,ua,uc⟩
 rw[h1] at KM0
 have KF0:=fun W hb=>MemFresh_any v L A.client A.seq W (h.later (w':=W) hb) hr
 rw[h2] at KF0
 have KI0:=fun W (hb:Below w.heap.size w W)=>indexOfM_any v L A.client W (h.later hb).row
 rw[hi] at KI0
 have HINS:Hid (insM A (valsM L)=(valsM L).set k A):=hid (ins_set _ hr.up A k (by rw[valsM_length];exact hk) (by rw[valsM_get L k hk];exact he))
 have HLL:=hid (valsM_length L)
 obtain⟨ac,sq,⟨ak,an,ad,al⟩⟩:=A
 unfold ansVal at KM0 ⊢
 unfold memVal MemC.hv IsCopyM at KO0
 dsimp only at hu h6 KM0 KF0 KO0 KI0 ⊢
 have hb1:=newAlloc w (.cells #[.int .i64 ac,.int .i64 sq,.int .i64 ak,.int .i64 an,.int .i64 ad,.slice ua al.length uc] 101)
 obtain⟨c0,c1,c2,c3,c4,c5⟩:=box6 (Below.refl _ (w.alloc (.cells #[.int .i64 ac,.int .i64 sq,.int .i64 ak,.int .i64 an,.int .i64 ad,.slice ua al.length uc] 101)))
 obtain⟨W1,hW1⟩: ∃W1,W1=w.alloc (.cells #[.int .i64 ac,.int .i64 sq,.int .i64 ak,.int .i64 an,.int .i64 ad,.slice ua al.length uc] 101):=⟨_,rfl⟩
 rw[<-hW1] at hb1 c0 c1 c2 c3 c4 c5
 have HB:=hid hb1
 have HWA:Hid (w.heap.size<W1.heap.size):=hid (lt_of_cell c0)
 have HQ:Hid (∀w',Below W1.heap.size W1 w'->w'.cell? ⟨w.heap.size,0,none⟩=some (.int .i64 ac)/\w'.cell? ⟨w.heap.size,1,none⟩=some (.int .i64 sq)/\w'.cell? ⟨w.heap.size,2,none⟩=some (.int .i64 ak)/\w'.cell? ⟨w.heap.size,3,none⟩=some (.int .i64 an)/\w'.cell? ⟨w.heap.size,4,none⟩=some (.int .i64 ad)/\w'.cell? ⟨w.heap.size,5,none⟩=some (.slice ua al.length uc)):=hid fun w' hb=>⟨(hb.cell (lt_of_cell c0)).trans c0,(hb.cell (lt_of_cell c1)).trans c1,(hb.cell (lt_of_cell c2)).trans c2,(hb.cell (lt_of_cell c3)).trans c3,(hb.cell (lt_of_cell c4)).trans c4,(hb.cell (lt_of_cell c5)).trans c5⟩
 have KM:=hid (fun W (hb:Below W1.heap.size W1 W)=>KM0 W (hu.later (step hb1 hb)))
 have KO:=hid (fun W (hb:Below W1.heap.size W1 W)=>KO0 W (hu.later (step hb1 hb)) h6)
 have KF:=hid (fun W (hb:Below W1.heap.size W1 W)=>KF0 W (step hb1 hb))
 have KI:=hid (fun W (hb:Below W1.heap.size W1 W)=>KI0 W (step hb1 hb))
 have KC:=hid (copiesM_any v L W1 (h.later hb1) h5 hr.small)
 obtain⟨a,cap,rfl⟩:=h.form
 clear h hu hb1 c0 c1 c2 c3 c4 c5 KF0 KI0 KM0 KO0 hr h1 h2
 obtain⟨R,hR⟩: ∃R,insM ⟨ac,sq,⟨ak,an,ad,al⟩⟩ (valsM L)=R:=⟨_,rfl⟩
 rw[hR] at HINS ⊢
 clear hR hi he
 have hk0:=hk
 generalize valsM L=V at*
 generalize L.length=N at*
 obtain⟨AN,hAN⟩: ∃AN,al.length=AN:=⟨_,rfl⟩
 have HAN:=hid hAN
 rw[hAN] at HQ KM KO hW1 h6 ⊢
 clear hAN
 go_enter Tryz.func61,Tryz.ntmps61
 go_upto_region 1 with fail
 rw[<-hW1]
 clear hW1
 go_upto_region 2 with (go_at_call 121;refine KC.out.mono ?_;rintro e w2 ⟨v2,M,rfl,hv2,ho2,hb2⟩;have HV:=hid hv2;have HO2:=hid ho2;have HOM:=HO2;have HB2:=hid hb2;obtain⟨y0,y1,y2,y3,y4,y5⟩:=HQ.out _ hb2;obtain⟨a2,c2,rfl⟩:=Rw.own_form ho2.row;clear hv2 ho2 hb2)
 go_upto_region 4 with (first
  | (go_at_call 96;refine(KM.out _ HB2.out).mono ?_;rintro e w3 ⟨rfl,hb3⟩;have HB3:=hid hb3;obtain⟨z0,z1,z2,z3,z4,z5⟩:=HQ.out _ (step HB2.out hb3);clear hb3)
  | (go_at_call 58;refine(KF.out _ (step HB2.out HB3.out)).mono ?_;rintro e w4 ⟨rfl,hb4⟩;have HB4:=hid (step HB3.out hb4);obtain⟨x0,x1,x2,x3,x4,x5⟩:=HQ.out _ (step HB2.out HB4.out);clear hb4))
 clear y0 y1 y2 y3 y4 y5 z0 z1 z2 z3 z4 z5
 go_upto_region 5 with (go_at_call 114;refine(KO.out _ (step HB2.out HB4.out)).mono ?_;rintro e w5 ⟨a5,c5,rfl,ho5,hb5⟩;have HO5:=hid ho5;have HB5:=hid (step HB4.out hb5);clear ho5 hb5)
 obtain⟨W7,hW7⟩: ∃W7,W7=w5.alloc (.cells #[.int .i64 ac,.int .i64 sq,.int .i64 ak,.int .i64 an,.int .i64 ad,.slice a5 AN c5] 51):=⟨_,rfl⟩
 have hx:=box6 (Below.refl _ (w5.alloc (.cells #[.int .i64 ac,.int .i64 sq,.int .i64 ak,.int .i64 an,.int .i64 ad,.slice a5 AN c5] 51)))
 have hb7:Below w5.heap.size w5 W7:=by rw[hW7];exact newAlloc _ _
 have HY7:Hid (W7.heap[w5.heap.size]?=some (.cells #[.int .i64 ac,.int .i64 sq,.int .i64 ak,.int .i64 an,.int .i64 ad,.slice a5 AN c5] 51)):=hid (by rw[hW7];exact heap_alloc_new w5 _)
 rw[<-hW7] at hx
 obtain⟨t0,t1,t2,t3,t4,t5⟩:=hx
 have HB7:Hid (Below w2.heap.size w2 W7):=hid (step HB5.out hb7)
 have HO7:Hid (OwnM W1.heap.size W7 (.slice a2 M.length c2) M):=hid (HO2.out.later HB7.out)
 have HH7:Hid (W7.ownsRow w4.heap.size 57 2 (.slice a5 AN c5) AN (flatX cellsG al)):=hid (Rw.own_below HO5.out hb7)
 have HSZ:Hid (W1.heap.size<=w4.heap.size):=hid (step HB2.out HB4.out).size
 have HS7:Hid (w5.heap.size<W7.heap.size/\w2.heap.size<=w5.heap.size):=hid ⟨by rw[hW7];simp,HB5.out.size⟩
 rw[<-hW7]
 clear hW7 hb7 x0 x1 x2 x3 x4 x5 HO5 KM KO KF KC HB3 HB4
 have HT:Hid (∀w',Below W7.heap.size W7 w'->w'.cell? ⟨w.heap.size,0,none⟩=some (.int .i64 ac)/\w'.cell? ⟨w5.heap.size,0,none⟩=some (.int .i64 ac)/\w'.cell? ⟨w5.heap.size,1,none⟩=some (.int .i64 sq)/\w'.cell? ⟨w5.heap.size,2,none⟩=some (.int .i64 ak)/\w'.cell? ⟨w5.heap.size,3,none⟩=some (.int .i64 an)/\w'.cell? ⟨w5.heap.size,4,none⟩=some (.int .i64 ad)/\w'.cell? ⟨w5.heap.size,5,none⟩=some (.slice a5 AN c5)):=hid fun w' hb=>⟨(HQ.out _ (step (step HB2.out HB7.out) hb)).1,(hb.cell (lt_of_cell t0)).trans t0,(hb.cell (lt_of_cell t1)).trans t1,(hb.cell (lt_of_cell t2)).trans t2,(hb.cell (lt_of_cell t3)).trans t3,(hb.cell (lt_of_cell t4)).trans t4,(hb.cell (lt_of_cell t5)).trans t5⟩
 clear t0 t1 t2 t3 t4 t5 HQ
 obtain⟨t,t0,t1,t2,t3,t4,t5⟩:=HT.out _ (Below.refl _ W7)
 go_upto_region 6 with (go_at_call 113;refine(KI.out _ (step HB2.out HB7.out)).mono ?_;rintro e w8 ⟨rfl,hb8⟩;have HB8:=hid hb8;clear hb8)
 have hml:M.length=N:=by rw[<-valsM_length M,HV.out];exact HLL.out
 have hkM:k<M.length:=by omega
 have HO8:=hid (HO7.out.later HB8.out)
 obtain⟨r,r0,r1,r2,r3,r4,r5⟩:=HT.out _ HB8.out
 obtain⟨g,rfl,hbg⟩:=own_some HO8.out.row (by omega)
 have HP:=hid (set_done HO8.out k hkM ⟨⟨ac,sq,⟨ak,an,ad,al⟩⟩,a5,c5⟩ (by
  have:=Rw.own_below HH7.out HB8.out
  rw[<-HAN.out] at this
  exact this) HSZ.out)
 obtain⟨s0,s1,s2,s3,s4,s5,sf⟩:=ownM_at HO8.out.row k hkM
 have f1:(0:Int)<=(k:Int):=by omega
 have f2:(k:Int)<(M.length:Int):=by omega
 have f3:decide ((k:Int)<0)=false:=by simp
 have HBF:=hid (step HB.out (step HB2.out (step HB7.out HB8.out)))
 have HGB:=hid (Nat.le_trans HB.out.size hbg)
 clear t t0 t1 t2 t3 t4 t5 hbg
 unfold MemC.hv at HP
 dsimp only at HP
 rw[HAN.out] at HP
 go_wp2
 go_ret
 refine⟨some ⟨g,0,none⟩,c2,M.set k ⟨⟨ac,sq,⟨ak,an,ad,al⟩⟩,a5,c5⟩,by rw[List.length_set];rfl,by rw[valsM_set,HV.out,HINS.out],HP.out.lower HB.out.size,set6k HBF.out g HGB.out _ _ _ _ _ _ _⟩
set_option maxHeartbeats 4000000 in
theorem MemKeep_ins (v u:Value) (L:List MemC) (A:AnsV) (w:World) (h:RdM w v L) (hr:Rm (valsM L)) (h5:L.length<=1000) (hu:RdH w u A.rep.held) (h6:A.rep.held.length<=1000) (h1:mayA A=true) (h2:freshM (valsM L) A.client A.seq=1) (hi:idxI (isCl A.client) (valsM L)= -1):
  Calls Tryz.prog 61 #[v,ansVal A u] w (GetsO (insM A (valsM L)) w):=by
 obtain⟨ua,uc,rfl, -⟩:=hu.ex
 have KM0:=RepMayAnswer_any A (.slice ua A.rep.held.length uc)
 have KO0:=copyOfM_any ⟨A,ua,uc⟩
 rw[h1] at KM0
 have KF0:=fun W hb=>MemFresh_any v L A.client A.seq W (h.later (w':=W) hb) hr
 rw[h2] at KF0
 have KI0:=fun W (hb:Below w.heap.size w W)=>indexOfM_any v L A.client W (h.later hb).row
 rw[hi] at KI0
 have KP0:=fun W (hb:Below w.heap.size w W)=>placeOfM_any v L A.client W (h.later hb).row
 have hle:placeM A.client (valsM L)<=L.length:=by have:=placeM_le A.client (valsM L);rw[valsM_length] at this;exact this
 have HINS:Hid (insM A (valsM L)=(valsM L).take (placeM A.client (valsM L))++A::(valsM L).drop (placeM A.client (valsM L))):=hid (ins_place A _ fun m hm=>by
  have:=idx_noneK _ _ hi m hm
  unfold isCl at this
  simpa using this)
 have HLL:=hid (valsM_length L)
 obtain⟨ac,sq,⟨ak,an,ad,al⟩⟩:=A
 unfold ansVal at KM0 ⊢
 unfold memVal MemC.hv IsCopyM at KO0
 dsimp only at hu h6 KM0 KF0 KO0 KI0 ⊢
 have hb1:=newAlloc w (.cells #[.int .i64 ac,.int .i64 sq,.int .i64 ak,.int .i64 an,.int .i64 ad,.slice ua al.length uc] 101)
 obtain⟨c0,c1,c2,c3,c4,c5⟩:=box6 (Below.refl _ (w.alloc (.cells #[.int .i64 ac,.int .i64 sq,.int .i64 ak,.int .i64 an,.int .i64 ad,.slice ua al.length uc] 101)))
 obtain⟨W1,hW1⟩: ∃W1,W1=w.alloc (.cells #[.int .i64 ac,.int .i64 sq,.int .i64 ak,.int .i64 an,.int .i64 ad,.slice ua al.length uc] 101):=⟨_,rfl⟩
 rw[<-hW1] at hb1 c0 c1 c2 c3 c4 c5
 have HB:=hid hb1
 have HWA:Hid (w.heap.size<W1.heap.size):=hid (lt_of_cell c0)
 have HQ:Hid (∀w',Below W1.heap.size W1 w'->w'.cell? ⟨w.heap.size,0,none⟩=some (.int .i64 ac)/\w'.cell? ⟨w.heap.size,1,none⟩=some (.int .i64 sq)/\w'.cell? ⟨w.heap.size,2,none⟩=some (.int .i64 ak)/\w'.cell? ⟨w.heap.size,3,none⟩=some (.int .i64 an)/\w'.cell? ⟨w.heap.size,4,none⟩=some (.int .i64 ad)/\w'.cell? ⟨w.heap.size,5,none⟩=some (.slice ua al.length uc)):=hid fun w' hb=>⟨(hb.cell (lt_of_cell c0)).trans c0,(hb.cell (lt_of_cell c1)).trans c1,(hb.cell (lt_of_cell c2)).trans c2,(hb.cell (lt_of_cell c3)).trans c3,(hb.cell (lt_of_cell c4)).trans c4,(hb.cell (lt_of_cell c5)).trans c5⟩
 have KM:=hid (fun W (hb:Below W1.heap.size W1 W)=>KM0 W (hu.later (step hb1 hb)))
 have KO:=hid (fun W (hb:Below W1.heap.size W1 W)=>KO0 W (hu.later (step hb1 hb)) h6)
 have KF:=hid (fun W (hb:Below W1.heap.size W1 W)=>KF0 W (step hb1 hb))
 have KI:=hid (fun W (hb:Below W1.heap.size W1 W)=>KI0 W (step hb1 hb))
 have KP:=hid (fun W (hb:Below W1.heap.size W1 W)=>KP0 W (step hb1 hb))
 have KC:=hid (copiesM_any v L W1 (h.later hb1) h5 hr.small)
 obtain⟨a,cap,rfl⟩:=h.form
 clear h hu hb1 c0 c1 c2 c3 c4 c5 KF0 KI0 KM0 KO0 hr h1 h2
 obtain⟨R,hR⟩: ∃R,insM ⟨ac,sq,⟨ak,an,ad,al⟩⟩ (valsM L)=R:=⟨_,rfl⟩
 rw[hR] at HINS ⊢
 clear hR hi KP0
 dsimp only at hle KP HINS
 generalize placeM ac (valsM L)=k at*
 generalize valsM L=V at*
 generalize L.length=N at*
 obtain⟨AN,hAN⟩: ∃AN,al.length=AN:=⟨_,rfl⟩
 have HAN:=hid hAN
 rw[hAN] at HQ KM KO hW1 h6 ⊢
 clear hAN
 go_enter Tryz.func61,Tryz.ntmps61
 go_upto_region 1 with fail
 rw[<-hW1]
 clear hW1
 go_upto_region 2 with (go_at_call 121;refine KC.out.mono ?_;rintro e w2 ⟨v2,M,rfl,hv2,ho2,hb2⟩;have HV:=hid hv2;have HO2:=hid ho2;have HOM:=HO2;have HB2:=hid hb2;obtain⟨y0,y1,y2,y3,y4,y5⟩:=HQ.out _ hb2;obtain⟨a2,c2,rfl⟩:=Rw.own_form ho2.row;clear hv2 ho2 hb2)
 go_upto_region 4 with (first
  | (go_at_call 96;refine(KM.out _ HB2.out).mono ?_;rintro e w3 ⟨rfl,hb3⟩;have HB3:=hid hb3;obtain⟨z0,z1,z2,z3,z4,z5⟩:=HQ.out _ (step HB2.out hb3);clear hb3)
  | (go_at_call 58;refine(KF.out _ (step HB2.out HB3.out)).mono ?_;rintro e w4 ⟨rfl,hb4⟩;have HB4:=hid (step HB3.out hb4);obtain⟨x0,x1,x2,x3,x4,x5⟩:=HQ.out _ (step HB2.out HB4.out);clear hb4))
 clear y0 y1 y2 y3 y4 y5 z0 z1 z2 z3 z4 z5
 go_upto_region 5 with (go_at_call 114;refine(KO.out _ (step HB2.out HB4.out)).mono ?_;rintro e w5 ⟨a5,c5,rfl,ho5,hb5⟩;have HO5:=hid ho5;have HB5:=hid (step HB4.out hb5);clear ho5 hb5)
 obtain⟨W7,hW7⟩: ∃W7,W7=w5.alloc (.cells #[.int .i64 ac,.int .i64 sq,.int .i64 ak,.int .i64 an,.int .i64 ad,.slice a5 AN c5] 51):=⟨_,rfl⟩
 have hx:=box6 (Below.refl _ (w5.alloc (.cells #[.int .i64 ac,.int .i64 sq,.int .i64 ak,.int .i64 an,.int .i64 ad,.slice a5 AN c5] 51)))
 have hb7:Below w5.heap.size w5 W7:=by rw[hW7];exact newAlloc _ _
 have HY7:Hid (W7.heap[w5.heap.size]?=some (.cells #[.int .i64 ac,.int .i64 sq,.int .i64 ak,.int .i64 an,.int .i64 ad,.slice a5 AN c5] 51)):=hid (by rw[hW7];exact heap_alloc_new w5 _)
 rw[<-hW7] at hx
 obtain⟨t0,t1,t2,t3,t4,t5⟩:=hx
 have HB7:Hid (Below w2.heap.size w2 W7):=hid (step HB5.out hb7)
 have HO7:Hid (OwnM W1.heap.size W7 (.slice a2 M.length c2) M):=hid (HO2.out.later HB7.out)
 have HH7:Hid (W7.ownsRow w4.heap.size 57 2 (.slice a5 AN c5) AN (flatX cellsG al)):=hid (Rw.own_below HO5.out hb7)
 have HSZ:Hid (W1.heap.size<=w4.heap.size):=hid (step HB2.out HB4.out).size
 have HS7:Hid (w5.heap.size<W7.heap.size/\w2.heap.size<=w5.heap.size):=hid ⟨by rw[hW7];simp,HB5.out.size⟩
 rw[<-hW7]
 clear hW7 hb7 x0 x1 x2 x3 x4 x5 HO5 KM KO KF KC HB3 HB4
 have HT:Hid (∀w',Below W7.heap.size W7 w'->w'.cell? ⟨w.heap.size,0,none⟩=some (.int .i64 ac)/\w'.cell? ⟨w5.heap.size,0,none⟩=some (.int .i64 ac)/\w'.cell? ⟨w5.heap.size,1,none⟩=some (.int .i64 sq)/\w'.cell? ⟨w5.heap.size,2,none⟩=some (.int .i64 ak)/\w'.cell? ⟨w5.heap.size,3,none⟩=some (.int .i64 an)/\w'.cell? ⟨w5.heap.size,4,none⟩=some (.int .i64 ad)/\w'.cell? ⟨w5.heap.size,5,none⟩=some (.slice a5 AN c5)):=hid fun w' hb=>⟨(HQ.out _ (step (step HB2.out HB7.out) hb)).1,(hb.cell (lt_of_cell t0)).trans t0,(hb.cell (lt_of_cell t1)).trans t1,(hb.cell (lt_of_cell t2)).trans t2,(hb.cell (lt_of_cell t3)).trans t3,(hb.cell (lt_of_cell t4)).trans t4,(hb.cell (lt_of_cell t5)).trans t5⟩
 clear t0 t1 t2 t3 t4 t5 HQ
 obtain⟨t,t0,t1,t2,t3,t4,t5⟩:=HT.out _ (Below.refl _ W7)
 go_upto_region 7 with (go_at_call 113;refine(KI.out _ (step HB2.out HB7.out)).mono ?_;rintro e w8 ⟨rfl,hb8⟩;have HB8:=hid hb8;clear hb8)
 have hml:M.length=N:=by rw[<-valsM_length M,HV.out];exact HLL.out
 have HO8:=hid (HO7.out.later HB8.out)
 have HH8:=hid (Rw.own_below HH7.out HB8.out)
 have HT8:=hid (fun w' (hb:Below w8.heap.size w8 w')=>HT.out w' (step HB8.out hb))
 obtain⟨r,r0,r1,r2,r3,r4,r5⟩:=HT8.out _ (Below.refl _ w8)
 have KP8:=hid (fun W (hb:Below w8.heap.size w8 W)=>KP.out W (step HB2.out (step HB7.out (step HB8.out hb))))
 have HW8:Hid (W1.heap.size<=w8.heap.size):=hid (step HB2.out (step HB7.out HB8.out)).size
 have HIN:Hid (∀(W:World) (b:Nat),OwnM W1.heap.size W (.slice a2 M.length c2) M->Below w8.heap.size w8 W->W.heap[b]?=some (.cells #[.int .i64 ac,.int .i64 sq,.int .i64 ak,.int .i64 an,.int .i64 ad,.slice a5 AN c5] 51)->(Value.slice a2 M.length c2).ownBlock ≠some b->
   Calls Tryz.prog 122 #[.slice a2 M.length c2,.int .i64 (k:Int),.slice (some ⟨b,0,none⟩) 1 1] W (InsertedM W1.heap.size (.slice a2 M.length c2) M k ⟨⟨ac,sq,⟨ak,an,ad,al⟩⟩,a5,c5⟩ W)):=hid fun W b ho hs hy hne=>
  InsertM_any W1.heap.size M k ⟨⟨ac,sq,⟨ak,an,ad,al⟩⟩,a5,c5⟩ b W _ ho.row (by omega) (Nat.le_trans HW8.out hs.size) (by unfold MemC.hv;dsimp only;rw[HAN.out];exact hy) (by omega) hne
 have HBF1:=hid (step HB2.out (step HB7.out HB8.out))
 have hs72:=HS7.out.2
 have HML:=hid hml
 have HHA:Hid (∀W,Below w8.heap.size w8 W->W.ownsRow w4.heap.size 57 2 (MemC.hv ⟨⟨ac,sq,⟨ak,an,ad,al⟩⟩,a5,c5⟩) al.length (flatX cellsG al)):=hid (fun W hb=>by
  have:=Rw.own_below HH8.out hb
  rw[<-HAN.out] at this
  exact this)
 have HLE:Hid (k<=M.length):=hid (by omega)
 clear hml
 clear t t0 t1 t2 t3 t4 t5 HT KI KP HO7 HH7 HB2 HB7 HY7 HO2
 have hne5:(Value.slice a2 M.length c2).ownBlock ≠some w5.heap.size:=fun q=>by
  have:=(Rw.own_lt HOM.out.row _ q).2
  omega
 have hne0:(Value.slice a2 M.length c2).ownBlock ≠some w.heap.size:=fun q=>by
  have:=(Rw.own_lt HOM.out.row _ q).1
  have:=HWA.out
  omega
 have HTI:Hid (∀(W W':World),Below w8.heap.size w8 W->W.grownBy W' (Value.slice a2 M.length c2).ownBlock ->_):=hid (fun W W' hb hg=>cells7_kept (HT8.out W hb) hg hne0 hne5)
 refine wp_region_held_drew (S:=(fun w'=>w'.cell? ⟨w.heap.size,0,none⟩=some (.int .i64 ac)/\w'.cell? ⟨w5.heap.size,0,none⟩=some (.int .i64 ac)/\w'.cell? ⟨w5.heap.size,1,none⟩=some (.int .i64 sq)/\w'.cell? ⟨w5.heap.size,2,none⟩=some (.int .i64 ak)/\w'.cell? ⟨w5.heap.size,3,none⟩=some (.int .i64 an)/\w'.cell? ⟨w5.heap.size,4,none⟩=some (.int .i64 ad)/\w'.cell? ⟨w5.heap.size,5,none⟩=some (.slice a5 AN c5))) (by kernel_rfl) (HT8.out _ (Below.refl _ w8).drew) (fun hHeld=>?_)
 refine wpAnyH_take (i:=0) (v:=?_) rfl (by kernel_rfl) (by kernel_rfl) (by kernel_rfl) (fun _ _ _ h=>h) (Or.inl ⟨by rfl,?_⟩) (by assumption) ?_
 rotate_left
 ·intro w hSw;(try dsimp only at hSw);go_simp<;>with_reducible rfl
 try simp only[Act.put,getElem_toArray,getElem_cons_zero,setIfInBounds_toArray,set_cons_zero,set_cons_succ]
 refine wpAnyH_take (i:=1) (v:=?_) rfl (by kernel_rfl) (by kernel_rfl) (by kernel_rfl) (fun _ _ _ h=>h) (Or.inl ⟨by rfl,?_⟩) (by assumption) ?_
 rotate_left
 ·intro w hSw;(try dsimp only at hSw);go_simp<;>with_reducible rfl
 try simp only[Act.put,getElem_toArray,getElem_cons_succ,getElem_cons_zero,setIfInBounds_toArray,set_cons_zero,set_cons_succ]
 refine wpAnyH_take (i:=2) (v:=?_) rfl (by kernel_rfl) (by kernel_rfl) (by kernel_rfl) (fun _ _ _ h=>h) (Or.inl ⟨by rfl,?_⟩) (by assumption) ?_
 rotate_left
 ·intro w hSw;(try dsimp only at hSw);go_simp<;>with_reducible rfl
 try simp only[Act.put,getElem_toArray,getElem_cons_succ,getElem_cons_zero,setIfInBounds_toArray,set_cons_zero,set_cons_succ]
 refine wpAnyH_take (i:=3) (v:=?_) rfl (by kernel_rfl) (by kernel_rfl) (by kernel_rfl) (fun _ _ _ h=>h) (Or.inl ⟨by rfl,?_⟩) (by assumption) ?_
 rotate_left
 ·intro w hSw;(try dsimp only at hSw);go_simp<;>with_reducible rfl
 try simp only[Act.put,getElem_toArray,getElem_cons_succ,getElem_cons_zero,setIfInBounds_toArray,set_cons_zero,set_cons_succ]
 refine wpAnyH_take (i:=5) (v:=?_) rfl (by kernel_rfl) (by kernel_rfl) (by kernel_rfl) (fun _ _ _ h=>h) (Or.inl ⟨by rfl,?_⟩) (by assumption) ?_
 rotate_left
 ·intro w hSw;(try dsimp only at hSw);go_simp<;>with_reducible rfl
 try simp only[Act.put,getElem_toArray,getElem_cons_succ,getElem_cons_zero,setIfInBounds_toArray,set_cons_zero,set_cons_succ]
 refine wpAnyH_ready (rs:= [4,6]) (by kernel_rfl) (by simp) ?_
 refine AllReadyH.cons rfl (fun K hK=>?_) (AllReadyH.cons rfl (fun K hK=>?_) AllReadyH.nil)
 ·go_simp
  go_at_call 123
  refine(KP8.out _ (Below.refl _ w8).drew).mono ?_
  rintro e w9 ⟨rfl,hb9⟩
  have HB9:Hid (Below w8.heap.size w8 w9):=hid (step (Below.refl w8.heap.size w8).drew hb9)
  refine hK.out _ _ (HT8.out _ HB9.out) (fun hHeld=>?_)
  clear hK K
  try simp only[Act.put,getElem_toArray,getElem_cons_succ,getElem_cons_zero,setIfInBounds_toArray,set_cons_zero,set_cons_succ]
  refine wpAnyH_ready (rs:= [6]) (by kernel_rfl) (by simp) ?_
  refine AllReadyH.cons rfl (fun K hK=>?_) AllReadyH.nil
  go_simp
  have HB10:Hid (Below w8.heap.size w8 (w9.alloc (.cells #[.int .i64 ac,.int .i64 sq,.int .i64 ak,.int .i64 an,.int .i64 ad,.slice a5 AN c5] 51))):=hid (stepAlloc HB9.out _)
  have HYI:Hid ((w9.alloc (.cells #[.int .i64 ac,.int .i64 sq,.int .i64 ak,.int .i64 an,.int .i64 ad,.slice a5 AN c5] 51)).heap[w9.heap.size]?=some (.cells #[.int .i64 ac,.int .i64 sq,.int .i64 ak,.int .i64 an,.int .i64 ad,.slice a5 AN c5] 51)):=hid (heap_alloc_new w9 _)
  refine hK.out _ _ (HT8.out _ HB10.out) (fun hHeld=>?_)
  clear hK K
  try simp only[Act.put,getElem_toArray,getElem_cons_succ,getElem_cons_zero,setIfInBounds_toArray,set_cons_zero,set_cons_succ]
  refine wpAnyH_ready (rs:= [7]) (by kernel_rfl) (by simp) ?_
  refine AllReadyH.cons rfl (fun K hK=>?_) AllReadyH.nil
  go_simp
  go_at_call 122
  refine(HIN.out _ _ (HO8.out.later HB10.out) HB10.out HYI.out (own_ne_lt (HO8.out.later HB9.out).row (Nat.le_refl _))).mono ?_
  rintro e w11 ⟨v11,rfl,ho11,hg11⟩
  have HB11:Hid (Below W1.heap.size W1 w11):=hid ((step HBF1.out HB10.out).grown hg11 (step HBF1.out HB10.out).size (fun g hg=>(Rw.own_lt HO8.out.row g hg).1))
  obtain⟨a9,c9,Q9,rfl,hr9,hq9⟩:=insM_done (HO8.out.later HB10.out) (y:=⟨⟨ac,sq,⟨ak,an,ad,al⟩⟩,a5,c5⟩) (HHA.out _ HB10.out) hg11 ho11 HLE.out HSZ.out
  have HR9:=hid hr9
  have HQ9:Hid (valsM Q9=R):=hid (by rw[hq9,HV.out,HINS.out])
  refine hK.out _ _ (HTI.out _ _ HB10.out hg11) (fun hHeld=>?_)
  clear hK K ho11 hg11 hr9 hq9
  try simp only[Act.put,getElem_toArray,getElem_cons_succ,getElem_cons_zero,setIfInBounds_toArray,set_cons_zero,set_cons_succ]
  refine wpAnyH_take (i:=8) (v:=?_) rfl (by kernel_rfl) (by kernel_rfl) (by kernel_rfl) (fun _ _ _ h=>h) (Or.inl ⟨by rfl,?_⟩) (by assumption) ?_
  rotate_left
  ·intro w hSw;(try dsimp only at hSw);go_simp<;>with_reducible rfl
  try simp only[Act.put,getElem_toArray,getElem_cons_succ,getElem_cons_zero,setIfInBounds_toArray,set_cons_zero,set_cons_succ]
  refine wpAnyH_done (by kernel_rfl) ?_ _
  go_wp2
  go_ret
  exact⟨a9,c9,Q9,rfl,HQ9.out,HR9.out.lower HB.out.size,step HB.out HB11.out⟩
 ·go_simp
  have HB9:Hid (Below w8.heap.size w8 (w8.drew.alloc (.cells #[.int .i64 ac,.int .i64 sq,.int .i64 ak,.int .i64 an,.int .i64 ad,.slice a5 AN c5] 51))):=hid (stepAlloc (Below.refl w8.heap.size w8).drew _)
  have HY9:Hid ((w8.drew.alloc (.cells #[.int .i64 ac,.int .i64 sq,.int .i64 ak,.int .i64 an,.int .i64 ad,.slice a5 AN c5] 51)).heap[w8.heap.size]?=some (.cells #[.int .i64 ac,.int .i64 sq,.int .i64 ak,.int .i64 an,.int .i64 ad,.slice a5 AN c5] 51)):=hid (heap_alloc_new w8.drew _)
  refine hK.out _ _ (HT8.out _ HB9.out) (fun hHeld=>?_)
  clear hK K
  try simp only[Act.put,getElem_toArray,getElem_cons_succ,getElem_cons_zero,setIfInBounds_toArray,set_cons_zero,set_cons_succ]
  refine wpAnyH_ready (rs:= [4]) (by kernel_rfl) (by simp) ?_
  refine AllReadyH.cons rfl (fun K hK=>?_) AllReadyH.nil
  go_simp
  go_at_call 123
  refine(KP8.out _ HB9.out).mono ?_
  rintro e w10 ⟨rfl,hb10⟩
  have HB10:Hid (Below w8.heap.size w8 w10):=hid (step HB9.out hb10)
  have HYI:Hid (w10.heap[w8.heap.size]?=some (.cells #[.int .i64 ac,.int .i64 sq,.int .i64 ak,.int .i64 an,.int .i64 ad,.slice a5 AN c5] 51)):=hid ((hb10.block w8.heap.size (by simp)).trans HY9.out)
  refine hK.out _ _ (HT8.out _ HB10.out) (fun hHeld=>?_)
  clear hK K
  try simp only[Act.put,getElem_toArray,getElem_cons_succ,getElem_cons_zero,setIfInBounds_toArray,set_cons_zero,set_cons_succ]
  refine wpAnyH_ready (rs:= [7]) (by kernel_rfl) (by simp) ?_
  refine AllReadyH.cons rfl (fun K hK=>?_) AllReadyH.nil
  go_simp
  go_at_call 122
  refine(HIN.out _ _ (HO8.out.later HB10.out) HB10.out HYI.out (own_ne_lt HO8.out.row (Nat.le_refl _))).mono ?_
  rintro e w11 ⟨v11,rfl,ho11,hg11⟩
  have HB11:Hid (Below W1.heap.size W1 w11):=hid ((step HBF1.out HB10.out).grown hg11 (step HBF1.out HB10.out).size (fun g hg=>(Rw.own_lt HO8.out.row g hg).1))
  obtain⟨a9,c9,Q9,rfl,hr9,hq9⟩:=insM_done (HO8.out.later HB10.out) (y:=⟨⟨ac,sq,⟨ak,an,ad,al⟩⟩,a5,c5⟩) (HHA.out _ HB10.out) hg11 ho11 HLE.out HSZ.out
  have HR9:=hid hr9
  have HQ9:Hid (valsM Q9=R):=hid (by rw[hq9,HV.out,HINS.out])
  refine hK.out _ _ (HTI.out _ _ HB10.out hg11) (fun hHeld=>?_)
  clear hK K ho11 hg11 hr9 hq9
  try simp only[Act.put,getElem_toArray,getElem_cons_succ,getElem_cons_zero,setIfInBounds_toArray,set_cons_zero,set_cons_succ]
  refine wpAnyH_take (i:=8) (v:=?_) rfl (by kernel_rfl) (by kernel_rfl) (by kernel_rfl) (fun _ _ _ h=>h) (Or.inl ⟨by rfl,?_⟩) (by assumption) ?_
  rotate_left
  ·intro w hSw;(try dsimp only at hSw);go_simp<;>with_reducible rfl
  try simp only[Act.put,getElem_toArray,getElem_cons_succ,getElem_cons_zero,setIfInBounds_toArray,set_cons_zero,set_cons_succ]
  refine wpAnyH_done (by kernel_rfl) ?_ _
  go_wp2
  go_ret
  exact⟨a9,c9,Q9,rfl,HQ9.out,HR9.out.lower HB.out.size,step HB.out HB11.out⟩
theorem MemKeep_own (v u:Value) (L:List MemC) (A:AnsV) (w:World) (h:RdM w v L) (hr:Rm (valsM L)) (h5:L.length<=1000) (hu:RdH w u A.rep.held) (h6:A.rep.held.length<=1000):
  Calls Tryz.prog 61 #[v,ansVal A u] w (GetsO (keepM (valsM L) A) w):=by
 by_cases hno:mayA A=false\/freshM (valsM L) A.client A.seq≠1
 ·rw[keepM_no hno]
  exact MemKeep_no v u L A w h hr h5 hu hno
 ·have h1:mayA A=true:=by
   cases q:mayA A with
   | true=>rfl
   | false=>exact absurd (Or.inl q) hno
  have h2:freshM (valsM L) A.client A.seq=1:=Decidable.byContradiction fun q=>hno (Or.inr q)
  rw[keepM_yes h1 h2]
  rcases idxM_cases (valsM L) A.client with ⟨hi,_⟩ | ⟨k,hk,hi,he,_⟩
  ·exact MemKeep_ins v u L A w h hr h5 hu h6 h1 h2 hi
  ·have hk':k<L.length:=by rw[valsM_length] at hk;exact hk
   rw[valsM_get L k hk'] at he
   exact MemKeep_set v u L A w h hr h5 hu h6 h1 h2 k hk' hi he
end Cm
end Go.Proofs.YtclcgkpfcogcdaaGreat
