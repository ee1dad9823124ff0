/- Texts laid together by program. -/
import Derived.Test.YtlnbmblbeaodcaaGreatQS41
import Derived.Test.YtlnbmblbeaodcaaGreatQS45
/- The statements' awake of layer 11. -/
set_option linter.unusedVariables false
set_option maxRecDepth 8000
set_option linter.unusedSimpArgs false
namespace Go.Proofs.YtlnbmblbeaodcaaGreat
open Lib (hid)
open List (getElem_toArray getElem_cons_succ getElem_cons_zero setIfInBounds_toArray set_cons_zero set_cons_succ)
open Go.RowKit
namespace Cm

def zeros27:List UInt8:= [0,0,0,0,0,0,0,0,0,0,0,0,0,0,0,0,0,0,0,0,0,0,0,0,0,0,0]
theorem rd_zeros27 {w:World} {b:Nat} (h:BxAt w b (.cells #[.int .u8 0,.int .u8 0,.int .u8 0,.int .u8 0,.int .u8 0,.int .u8 0,.int .u8 0,.int .u8 0,.int .u8 0,.int .u8 0,.int .u8 0,.int .u8 0,.int .u8 0,.int .u8 0,.int .u8 0,.int .u8 0,.int .u8 0,.int .u8 0,.int .u8 0,.int .u8 0,.int .u8 0,.int .u8 0,.int .u8 0,.int .u8 0,.int .u8 0,.int .u8 0,.int .u8 0] 5)):Rd w (.slice (some ⟨b,0,none⟩) 27 27) zeros27:=by
 refine⟨some ⟨b,0,none⟩,27,27,rfl,rfl,Nat.le_refl _,by unfold maxLen;omega,(fun q=>by cases q),fun x hx hp=>?_⟩
 cases hx
 refine⟨rfl,fun i hi=>?_⟩
 unfold zeros27 at hi ⊢
 have hi':i<27:=hi
 have h':w.heap[b]?=some (.cells #[.int .u8 0,.int .u8 0,.int .u8 0,.int .u8 0,.int .u8 0,.int .u8 0,.int .u8 0,.int .u8 0,.int .u8 0,.int .u8 0,.int .u8 0,.int .u8 0,.int .u8 0,.int .u8 0,.int .u8 0,.int .u8 0,.int .u8 0,.int .u8 0,.int .u8 0,.int .u8 0,.int .u8 0,.int .u8 0,.int .u8 0,.int .u8 0,.int .u8 0,.int .u8 0,.int .u8 0] 5):=h
 have hc:i=0\/i=1\/i=2\/i=3\/i=4\/i=5\/i=6\/i=7\/i=8\/i=9\/i=10\/i=11\/i=12\/i=13\/i=14\/i=15\/i=16\/i=17\/i=18\/i=19\/i=20\/i=21\/i=22\/i=23\/i=24\/i=25\/i=26:=by omega
 rcases hc with rfl | rfl | rfl | rfl | rfl | rfl | rfl | rfl | rfl | rfl | rfl | rfl | rfl | rfl | rfl | rfl | rfl | rfl | rfl | rfl | rfl | rfl | rfl | rfl | rfl | rfl | rfl<;>simp [World.cell?,h']
theorem make27 (w:World):(Instr.makeSlice 47 (.int .i64 27) (.int .i64 27)).run Tryz.prog w= .ok (.slice (some ⟨w.heap.size,0,none⟩) 27 27) (w.alloc (.cells #[.int .u8 0,.int .u8 0,.int .u8 0,.int .u8 0,.int .u8 0,.int .u8 0,.int .u8 0,.int .u8 0,.int .u8 0,.int .u8 0,.int .u8 0,.int .u8 0,.int .u8 0,.int .u8 0,.int .u8 0,.int .u8 0,.int .u8 0,.int .u8 0,.int .u8 0,.int .u8 0,.int .u8 0,.int .u8 0,.int .u8 0,.int .u8 0,.int .u8 0,.int .u8 0,.int .u8 0] 5)):=by kernel_rfl
theorem put_zeroSt:putSt zeroSt=(zeros27,0):=by decide+kernel
theorem get_zeroSt:getSt zeros27 0=(zeroSt,27,0):=by
 have h:=(BackR.state (s:=zeroSt) (by decide+kernel)).back [] []
 rw[show([]:List UInt8)++bytesSt zeroSt++ []=zeros27 by decide+kernel,show(bytesSt zeroSt).length =27 by decide+kernel] at h
 have h':stateR zeros27 0= .ok (zeroSt,27):=h
 unfold getSt
 rw[h']
 rfl
set_option maxHeartbeats 4000000 in
theorem awake11_ok (w:World):Calls Tryz.prog 20 #[] w (SaysB true w):=by
 have c1: ∀w,Calls Tryz.prog 21 #[.agg #[.int .i64 0,.int .i64 0,.int .i64 0,.slice none 0 0,.slice none 0 0,.slice none 0 0]] w (MadeS (zeros27,0) w):=fun w=>by
  have:=SnapPut_any zeroC10 w (RdSt.zero w) (by decide) (by decide) (fun k hk=>by cases hk) (fun k hk=>by cases hk)
  rw[show zeroC10.v=zeroSt from rfl,put_zeroSt] at this
  exact this.mono fun e w' h=>Made.s h
 have c2: ∀v w,Rd w v zeros27->Calls Tryz.prog 23 #[v,.int .i64 0] w (fun e w'=> ∃sa sc ka kc ma mc,e= .returned (.tuple #[.agg #[.int .i64 0,.int .i64 0,.int .i64 0,.slice sa 0 sc,.slice ka 0 kc,.slice ma 0 mc],.int .i64 27,.int .i64 0])/\RdSt w' ⟨0,0,0,[],sa,sc,[],ka,kc,[],ma,mc⟩/\Below w.heap.size w w'):=fun v w h=>by
  have:=SnapGet_any v zeros27 0 w h (by omega)
  rw[get_zeroSt] at this
  refine this.mono fun e w' q=>?_
  obtain⟨x,q1,q2,q3,q4⟩:=q
  obtain⟨t,n,k,S,sa,sc,K,ka,kc,M,ma,mc⟩:=x
  have r1:t=0:=congrArg StV.time q1
  have r2:n=0:=congrArg StV.num q1
  have r3:k=0:=congrArg StV.token q1
  have r4:S= []:=congrArg StV.ses q1
  have r5:K= []:=List.map_eq_nil_iff.1 (congrArg StV.locks q1)
  have r6:M= []:=List.map_eq_nil_iff.1 (congrArg StV.memos q1)
  subst r1 r2 r3 r4 r5 r6
  exact⟨sa,sc,ka,kc,ma,mc,q2,q3.rd,q4⟩
 have c3: ∀sa sc ka kc ma mc w,RdSt w ⟨0,0,0,[],sa,sc,[],ka,kc,[],ma,mc⟩->Calls Tryz.prog 16 #[.agg #[.int .i64 0,.int .i64 0,.int .i64 0,.slice sa 0 sc,.slice ka 0 kc,.slice ma 0 mc],.agg #[.int .i64 0,.int .i64 0,.int .i64 0,.slice none 0 0,.slice none 0 0,.slice none 0 0]] w (SaysB true w):=fun sa sc ka kc ma mc w h=>same_states ⟨0,0,0,[],sa,sc,[],ka,kc,[],ma,mc⟩ zeroC10 w h (RdSt.zero w) rfl
 have c4: ∀sa sc ka kc ma mc w,RdSt w ⟨0,0,0,[],sa,sc,[],ka,kc,[],ma,mc⟩->Calls Tryz.prog 31 #[.agg #[.int .i64 0,.int .i64 0,.int .i64 0,.slice sa 0 sc,.slice ka 0 kc,.slice ma 0 mc],.agg #[.int .i64 0,.int .i64 0,.int .i64 0,.slice none 0 0,.slice none 0 0,.slice none 0 0]] w (SaysB true w):=fun sa sc ka kc ma mc w h=>SnapSame_any ⟨0,0,0,[],sa,sc,[],ka,kc,[],ma,mc⟩ zeroC10 w h (RdSt.zero w)
 have c5: ∀sa sc ka kc ma mc w,RdSt w ⟨0,0,0,[],sa,sc,[],ka,kc,[],ma,mc⟩->Calls Tryz.prog 31 #[.agg #[.int .i64 0,.int .i64 0,.int .i64 0,.slice sa 0 sc,.slice ka 0 kc,.slice ma 0 mc],.agg #[.int .i64 0,.int .i64 1,.int .i64 0,.slice none 0 0,.slice none 0 0,.slice none 0 0]] w (SaysB false w):=fun sa sc ka kc ma mc w h=>SnapSame_any ⟨0,0,0,[],sa,sc,[],ka,kc,[],ma,mc⟩ ⟨0,1,0,[],none,0,[],none,0,[],none,0⟩ w h ⟨RdX.nil w,RdK.nil w,RdM.nil w⟩
 have c6: ∀v w,Rd w v zeros27->(convert 47 9 v).run Tryz.prog w= .ok (.string ⟨#[0,0,0,0,0,0,0,0,0,0,0,0,0,0,0,0,0,0,0,0,0,0,0,0,0,0,0]⟩) w:=fun v w h=>conv_rd w Tryz.underlying47 Tryz.underlying5 Tryz.underlying9 v _ h
 have C1:=hid c1
 have C2:=hid c2
 have C3:=hid c3
 have C4:=hid c4
 have C5:=hid c5
 have C6:=hid c6
 clear c1 c2 c3 c4 c5 c6
 go_enter Tryz.func20,Tryz.ntmps20
 go_upto_region 3 with (first
  | (go_at_call 21;refine(C1.out _).mono ?_;rintro e w1 ⟨a1,l1,d1,rfl,hr1,hb1⟩)
  | (go_at_call 23;refine(C2.out _ _ hr1).mono ?_;rintro e w2 ⟨sa,sc,ka,kc,ma,mc,rfl,hh2,hb2⟩))
 have hA:BxAt (w2.alloc (.cells #[.int .i64 0,.int .i64 0,.int .i64 0,.slice sa 0 sc,.slice ka 0 kc,.slice ma 0 mc] 26)) w2.heap.size (.cells #[.int .i64 0,.int .i64 0,.int .i64 0,.slice sa 0 sc,.slice ka 0 kc,.slice ma 0 mc] 26):=BxAt.new _ _
 have hB:=newAlloc w2 (.cells #[.int .i64 0,.int .i64 0,.int .i64 0,.slice sa 0 sc,.slice ka 0 kc,.slice ma 0 mc] 26)
 generalize w2.alloc (.cells #[.int .i64 0,.int .i64 0,.int .i64 0,.slice sa 0 sc,.slice ka 0 kc,.slice ma 0 mc] 26)=W at hA hB ⊢
 generalize w2.heap.size=n3 at hA ⊢
 have HB:=hid (step (step hb1 hb2) hB)
 have HR1:=hid (hr1.later (step hb2 hB))
 have HR2:=hid (hh2.later hB)
 have hmk:(Instr.makeSlice 47 (.int .i64 27) (.int .i64 27)).run Tryz.prog W.drew= .ok (.slice (some ⟨W.heap.size,0,none⟩) 27 27) (W.alloc (.cells #[.int .u8 0,.int .u8 0,.int .u8 0,.int .u8 0,.int .u8 0,.int .u8 0,.int .u8 0,.int .u8 0,.int .u8 0,.int .u8 0,.int .u8 0,.int .u8 0,.int .u8 0,.int .u8 0,.int .u8 0,.int .u8 0,.int .u8 0,.int .u8 0,.int .u8 0,.int .u8 0,.int .u8 0,.int .u8 0,.int .u8 0,.int .u8 0,.int .u8 0,.int .u8 0,.int .u8 0] 5)).drew :=make27 W.drew
 have hmk2:=C6.out _ (W.alloc (.cells #[.int .u8 0,.int .u8 0,.int .u8 0,.int .u8 0,.int .u8 0,.int .u8 0,.int .u8 0,.int .u8 0,.int .u8 0,.int .u8 0,.int .u8 0,.int .u8 0,.int .u8 0,.int .u8 0,.int .u8 0,.int .u8 0,.int .u8 0,.int .u8 0,.int .u8 0,.int .u8 0,.int .u8 0,.int .u8 0,.int .u8 0,.int .u8 0,.int .u8 0,.int .u8 0,.int .u8 0] 5)).drew (rd_zeros27 (BxAt.new W _))
 have HQ:Hid (∀w',Below W.heap.size W w'->(convert 47 9 (.slice a1 l1 d1)).run Tryz.prog w'= .ok (.string ⟨#[0,0,0,0,0,0,0,0,0,0,0,0,0,0,0,0,0,0,0,0,0,0,0,0,0,0,0]⟩) w'/\w'.cell? ⟨n3,0,none⟩=some (.int .i64 0)/\w'.cell? ⟨n3,1,none⟩=some (.int .i64 0)/\w'.cell? ⟨n3,2,none⟩=some (.int .i64 0)/\w'.cell? ⟨n3,3,none⟩=some (.slice sa 0 sc)/\w'.cell? ⟨n3,4,none⟩=some (.slice ka 0 kc)/\w'.cell? ⟨n3,5,none⟩=some (.slice ma 0 mc)):=hid fun w' hb=>by
  have hc:=hA.later hb
  exact⟨C6.out _ _ (HR1.out.later hb),cell_atW hc 0,cell_atW hc 1,cell_atW hc 2,cell_atW hc 3,cell_atW hc 4,cell_atW hc 5⟩
 have HZ:=hid ((newAlloc W (.cells #[.int .u8 0,.int .u8 0,.int .u8 0,.int .u8 0,.int .u8 0,.int .u8 0,.int .u8 0,.int .u8 0,.int .u8 0,.int .u8 0,.int .u8 0,.int .u8 0,.int .u8 0,.int .u8 0,.int .u8 0,.int .u8 0,.int .u8 0,.int .u8 0,.int .u8 0,.int .u8 0,.int .u8 0,.int .u8 0,.int .u8 0,.int .u8 0,.int .u8 0,.int .u8 0,.int .u8 0] 5)).drew)
 clear hr1 hh2 hb1 hb2 hB C1 C2 C6 hA
 refine wp_region_held_drew (S:=fun w'=>(convert 47 9 (.slice a1 l1 d1)).run Tryz.prog w'= .ok (.string ⟨#[0,0,0,0,0,0,0,0,0,0,0,0,0,0,0,0,0,0,0,0,0,0,0,0,0,0,0]⟩) w'/\w'.cell? ⟨n3,0,none⟩=some (.int .i64 0)/\w'.cell? ⟨n3,1,none⟩=some (.int .i64 0)/\w'.cell? ⟨n3,2,none⟩=some (.int .i64 0)/\w'.cell? ⟨n3,3,none⟩=some (.slice sa 0 sc)/\w'.cell? ⟨n3,4,none⟩=some (.slice ka 0 kc)/\w'.cell? ⟨n3,5,none⟩=some (.slice ma 0 mc)) (by kernel_rfl) (HQ.out _ (Below.refl _ _).drew) (fun hHeld=>?_)
 refine wpAnyH_take (i:=0) (v:=?_) rfl (by kernel_rfl) (by kernel_rfl) (by kernel_rfl) (fun _ _ _ h=>h) (Or.inl ⟨by rfl,?_⟩) (by assumption) ?_
 rotate_left
 ·intro w hSw;(try dsimp only at hSw);go_simp<;>with_reducible rfl
 try simp only[Act.put,getElem_toArray,getElem_cons_succ,getElem_cons_zero,setIfInBounds_toArray,set_cons_zero,set_cons_succ]
 refine wpAnyH_take (i:=1) (v:=?_) rfl (by kernel_rfl) (by kernel_rfl) (by kernel_rfl) (fun _ _ _ h=>h) (Or.inl ⟨by rfl,?_⟩) (by assumption) ?_
 rotate_left
 ·intro w hSw;(try dsimp only at hSw);go_simp<;>with_reducible rfl
 try simp only[Act.put,getElem_toArray,getElem_cons_succ,getElem_cons_zero,setIfInBounds_toArray,set_cons_zero,set_cons_succ]
 refine wpAnyH_ready (rs:= [2]) (by kernel_rfl) (by simp) ?_
 refine AllReadyH.cons rfl (fun K hK=>?_) AllReadyH.nil
 go_simp
 refine hK.out _ _ (HQ.out _ HZ.out) (fun hHeld=>?_)
 clear hK K
 try simp only[Act.put,getElem_toArray,getElem_cons_succ,getElem_cons_zero,setIfInBounds_toArray,set_cons_zero,set_cons_succ]
 refine wpAnyH_ready (rs:= [3]) (by kernel_rfl) (by simp) ?_
 refine AllReadyH.cons rfl (fun K hK=>?_) AllReadyH.nil
 go_simp
 refine hK.out _ _ (HQ.out _ HZ.out) (fun hHeld=>?_)
 clear hK K
 try simp only[Act.put,getElem_toArray,getElem_cons_succ,getElem_cons_zero,setIfInBounds_toArray,set_cons_zero,set_cons_succ]
 refine wpAnyH_take (i:=4) (v:=?_) rfl (by kernel_rfl) (by kernel_rfl) (by kernel_rfl) (fun _ _ _ h=>h) (Or.inl ⟨by rfl,?_⟩) (by assumption) ?_
 rotate_left
 ·intro w hSw;(try dsimp only at hSw);go_simp<;>with_reducible rfl
 try simp only[Act.put,getElem_toArray,getElem_cons_succ,getElem_cons_zero,setIfInBounds_toArray,set_cons_zero,set_cons_succ]
 refine wpAnyH_take (i:=5) (v:=?_) rfl (by kernel_rfl) (by kernel_rfl) (by kernel_rfl) (fun _ _ _ h=>h) (Or.inl ⟨by rfl,?_⟩) (by assumption) ?_
 rotate_left
 ·intro w hSw;(try dsimp only at hSw);go_simp<;>with_reducible rfl
 try simp only[Act.put,getElem_toArray,getElem_cons_succ,getElem_cons_zero,setIfInBounds_toArray,set_cons_zero,set_cons_succ]
 refine wpAnyH_take (i:=6) (v:=?_) rfl (by kernel_rfl) (by kernel_rfl) (by kernel_rfl) (fun _ _ _ h=>h) (Or.inl ⟨by rfl,?_⟩) (by assumption) ?_
 rotate_left
 ·intro w hSw;(try dsimp only at hSw);go_simp<;>with_reducible rfl
 try simp only[Act.put,getElem_toArray,getElem_cons_succ,getElem_cons_zero,setIfInBounds_toArray,set_cons_zero,set_cons_succ]
 refine wpAnyH_take (i:=7) (v:=?_) rfl (by kernel_rfl) (by kernel_rfl) (by kernel_rfl) (fun _ _ _ h=>h) (Or.inl ⟨by rfl,?_⟩) (by assumption) ?_
 rotate_left
 ·intro w hSw;(try dsimp only at hSw);go_simp<;>with_reducible rfl
 try simp only[Act.put,getElem_toArray,getElem_cons_succ,getElem_cons_zero,setIfInBounds_toArray,set_cons_zero,set_cons_succ]
 refine wpAnyH_take (i:=8) (v:=?_) rfl (by kernel_rfl) (by kernel_rfl) (by kernel_rfl) (fun _ _ _ h=>h) (Or.inl ⟨by rfl,?_⟩) (by assumption) ?_
 rotate_left
 ·intro w hSw;(try dsimp only at hSw);go_simp<;>with_reducible rfl
 try simp only[Act.put,getElem_toArray,getElem_cons_succ,getElem_cons_zero,setIfInBounds_toArray,set_cons_zero,set_cons_succ]
 refine wpAnyH_take (i:=9) (v:=?_) rfl (by kernel_rfl) (by kernel_rfl) (by kernel_rfl) (fun _ _ _ h=>h) (Or.inl ⟨by rfl,?_⟩) (by assumption) ?_
 rotate_left
 ·intro w hSw;(try dsimp only at hSw);go_simp<;>with_reducible rfl
 try simp only[Act.put,getElem_toArray,getElem_cons_succ,getElem_cons_zero,setIfInBounds_toArray,set_cons_zero,set_cons_succ]
 refine wpAnyH_take (i:=10) (v:=?_) rfl (by kernel_rfl) (by kernel_rfl) (by kernel_rfl) (fun _ _ _ h=>h) (Or.inl ⟨by rfl,?_⟩) (by assumption) ?_
 rotate_left
 ·intro w hSw;(try dsimp only at hSw);go_simp<;>with_reducible rfl
 try simp only[Act.put,getElem_toArray,getElem_cons_succ,getElem_cons_zero,setIfInBounds_toArray,set_cons_zero,set_cons_succ]
 refine wpAnyH_take (i:=11) (v:=?_) rfl (by kernel_rfl) (by kernel_rfl) (by kernel_rfl) (fun _ _ _ h=>h) (Or.inl ⟨by rfl,?_⟩) (by assumption) ?_
 rotate_left
 ·intro w hSw;(try dsimp only at hSw);go_simp<;>with_reducible rfl
 try simp only[Act.put,getElem_toArray,getElem_cons_succ,getElem_cons_zero,setIfInBounds_toArray,set_cons_zero,set_cons_succ]
 refine wpAnyH_take (i:=12) (v:=?_) rfl (by kernel_rfl) (by kernel_rfl) (by kernel_rfl) (fun _ _ _ h=>h) (Or.inl ⟨by rfl,?_⟩) (by assumption) ?_
 rotate_left
 ·intro w hSw;(try dsimp only at hSw);go_simp<;>with_reducible rfl
 try simp only[Act.put,getElem_toArray,getElem_cons_succ,getElem_cons_zero,setIfInBounds_toArray,set_cons_zero,set_cons_succ]
 refine wpAnyH_take (i:=13) (v:=?_) rfl (by kernel_rfl) (by kernel_rfl) (by kernel_rfl) (fun _ _ _ h=>h) (Or.inl ⟨by rfl,?_⟩) (by assumption) ?_
 rotate_left
 ·intro w hSw;(try dsimp only at hSw);go_simp<;>with_reducible rfl
 try simp only[Act.put,getElem_toArray,getElem_cons_succ,getElem_cons_zero,setIfInBounds_toArray,set_cons_zero,set_cons_succ]
 refine wpAnyH_take (i:=14) (v:=?_) rfl (by kernel_rfl) (by kernel_rfl) (by kernel_rfl) (fun _ _ _ h=>h) (Or.inl ⟨by rfl,?_⟩) (by assumption) ?_
 rotate_left
 ·intro w hSw;(try dsimp only at hSw);go_simp<;>with_reducible rfl
 try simp only[Act.put,getElem_toArray,getElem_cons_succ,getElem_cons_zero,setIfInBounds_toArray,set_cons_zero,set_cons_succ]
 refine wpAnyH_take (i:=15) (v:=?_) rfl (by kernel_rfl) (by kernel_rfl) (by kernel_rfl) (fun _ _ _ h=>h) (Or.inl ⟨by rfl,?_⟩) (by assumption) ?_
 rotate_left
 ·intro w hSw;(try dsimp only at hSw);go_simp<;>with_reducible rfl
 try simp only[Act.put,getElem_toArray,getElem_cons_succ,getElem_cons_zero,setIfInBounds_toArray,set_cons_zero,set_cons_succ]
 refine wpAnyH_take (i:=16) (v:=?_) rfl (by kernel_rfl) (by kernel_rfl) (by kernel_rfl) (fun _ _ _ h=>h) (Or.inl ⟨by rfl,?_⟩) (by assumption) ?_
 rotate_left
 ·intro w hSw;(try dsimp only at hSw);go_simp<;>with_reducible rfl
 try simp only[Act.put,getElem_toArray,getElem_cons_succ,getElem_cons_zero,setIfInBounds_toArray,set_cons_zero,set_cons_succ]
 refine wpAnyH_take (i:=17) (v:=?_) rfl (by kernel_rfl) (by kernel_rfl) (by kernel_rfl) (fun _ _ _ h=>h) (Or.inl ⟨by rfl,?_⟩) (by assumption) ?_
 rotate_left
 ·intro w hSw;(try dsimp only at hSw);go_simp<;>with_reducible rfl
 try simp only[Act.put,getElem_toArray,getElem_cons_succ,getElem_cons_zero,setIfInBounds_toArray,set_cons_zero,set_cons_succ]
 refine wpAnyH_take (i:=18) (v:=?_) rfl (by kernel_rfl) (by kernel_rfl) (by kernel_rfl) (fun _ _ _ h=>h) (Or.inl ⟨by rfl,?_⟩) (by assumption) ?_
 rotate_left
 ·intro w hSw;(try dsimp only at hSw);go_simp<;>with_reducible rfl
 try simp only[Act.put,getElem_toArray,getElem_cons_succ,getElem_cons_zero,setIfInBounds_toArray,set_cons_zero,set_cons_succ]
 refine wpAnyH_take (i:=19) (v:=?_) rfl (by kernel_rfl) (by kernel_rfl) (by kernel_rfl) (fun _ _ _ h=>h) (Or.inl ⟨by rfl,?_⟩) (by assumption) ?_
 rotate_left
 ·intro w hSw;(try dsimp only at hSw);go_simp<;>with_reducible rfl
 try simp only[Act.put,getElem_toArray,getElem_cons_succ,getElem_cons_zero,setIfInBounds_toArray,set_cons_zero,set_cons_succ]
 refine wpAnyH_ready (rs:= [20]) (by kernel_rfl) (by simp) ?_
 refine AllReadyH.cons rfl (fun K hK=>?_) AllReadyH.nil
 go_simp
 go_at_call 16
 refine(C3.out _ _ _ _ _ _ _ (HR2.out.later HZ.out)).mono ?_
 rintro e w3 ⟨rfl,hb3⟩
 have HB3:=hid (HZ.out.trans (hb3.mono HZ.out.size))
 clear hb3
 refine hK.out _ _ (HQ.out _ HB3.out) (fun hHeld=>?_)
 clear hK K
 try simp only[Act.put,getElem_toArray,getElem_cons_succ,getElem_cons_zero,setIfInBounds_toArray,set_cons_zero,set_cons_succ]
 refine wpAnyH_take (i:=21) (v:=?_) rfl (by kernel_rfl) (by kernel_rfl) (by kernel_rfl) (fun _ _ _ h=>h) (Or.inl ⟨by rfl,?_⟩) (by assumption) ?_
 rotate_left
 ·intro w hSw;(try dsimp only at hSw);go_simp<;>with_reducible rfl
 try simp only[Act.put,getElem_toArray,getElem_cons_succ,getElem_cons_zero,setIfInBounds_toArray,set_cons_zero,set_cons_succ]
 refine wpAnyH_take (i:=22) (v:=?_) rfl (by kernel_rfl) (by kernel_rfl) (by kernel_rfl) (fun _ _ _ h=>h) (Or.inl ⟨by rfl,?_⟩) (by assumption) ?_
 rotate_left
 ·intro w hSw;(try dsimp only at hSw);go_simp<;>with_reducible rfl
 try simp only[Act.put,getElem_toArray,getElem_cons_succ,getElem_cons_zero,setIfInBounds_toArray,set_cons_zero,set_cons_succ]
 refine wpAnyH_take (i:=23) (v:=?_) rfl (by kernel_rfl) (by kernel_rfl) (by kernel_rfl) (fun _ _ _ h=>h) (Or.inl ⟨by rfl,?_⟩) (by assumption) ?_
 rotate_left
 ·intro w hSw;(try dsimp only at hSw);go_simp<;>with_reducible rfl
 try simp only[Act.put,getElem_toArray,getElem_cons_succ,getElem_cons_zero,setIfInBounds_toArray,set_cons_zero,set_cons_succ]
 refine wpAnyH_take (i:=24) (v:=?_) rfl (by kernel_rfl) (by kernel_rfl) (by kernel_rfl) (fun _ _ _ h=>h) (Or.inl ⟨by rfl,?_⟩) (by assumption) ?_
 rotate_left
 ·intro w hSw;(try dsimp only at hSw);go_simp<;>with_reducible rfl
 try simp only[Act.put,getElem_toArray,getElem_cons_succ,getElem_cons_zero,setIfInBounds_toArray,set_cons_zero,set_cons_succ]
 refine wpAnyH_ready (rs:= [25]) (by kernel_rfl) (by simp) ?_
 refine AllReadyH.cons rfl (fun K hK=>?_) AllReadyH.nil
 go_simp
 go_at_call 31
 refine(C4.out _ _ _ _ _ _ _ (HR2.out.later HB3.out)).mono ?_
 rintro e w3 ⟨rfl,hb3⟩
 have HB4:=hid (HB3.out.trans (hb3.mono HB3.out.size))
 clear hb3
 refine hK.out _ _ (HQ.out _ HB4.out) (fun hHeld=>?_)
 clear hK K
 try simp only[Act.put,getElem_toArray,getElem_cons_succ,getElem_cons_zero,setIfInBounds_toArray,set_cons_zero,set_cons_succ]
 refine wpAnyH_take (i:=26) (v:=?_) rfl (by kernel_rfl) (by kernel_rfl) (by kernel_rfl) (fun _ _ _ h=>h) (Or.inl ⟨by rfl,?_⟩) (by assumption) ?_
 rotate_left
 ·intro w hSw;(try dsimp only at hSw);go_simp<;>with_reducible rfl
 try simp only[Act.put,getElem_toArray,getElem_cons_succ,getElem_cons_zero,setIfInBounds_toArray,set_cons_zero,set_cons_succ]
 refine wpAnyH_take (i:=27) (v:=?_) rfl (by kernel_rfl) (by kernel_rfl) (by kernel_rfl) (fun _ _ _ h=>h) (Or.inl ⟨by rfl,?_⟩) (by assumption) ?_
 rotate_left
 ·intro w hSw;(try dsimp only at hSw);go_simp<;>with_reducible rfl
 try simp only[Act.put,getElem_toArray,getElem_cons_succ,getElem_cons_zero,setIfInBounds_toArray,set_cons_zero,set_cons_succ]
 refine wpAnyH_take (i:=28) (v:=?_) rfl (by kernel_rfl) (by kernel_rfl) (by kernel_rfl) (fun _ _ _ h=>h) (Or.inl ⟨by rfl,?_⟩) (by assumption) ?_
 rotate_left
 ·intro w hSw;(try dsimp only at hSw);go_simp<;>with_reducible rfl
 try simp only[Act.put,getElem_toArray,getElem_cons_succ,getElem_cons_zero,setIfInBounds_toArray,set_cons_zero,set_cons_succ]
 refine wpAnyH_take (i:=29) (v:=?_) rfl (by kernel_rfl) (by kernel_rfl) (by kernel_rfl) (fun _ _ _ h=>h) (Or.inl ⟨by rfl,?_⟩) (by assumption) ?_
 rotate_left
 ·intro w hSw;(try dsimp only at hSw);go_simp<;>with_reducible rfl
 try simp only[Act.put,getElem_toArray,getElem_cons_succ,getElem_cons_zero,setIfInBounds_toArray,set_cons_zero,set_cons_succ]
 refine wpAnyH_ready (rs:= [30]) (by kernel_rfl) (by simp) ?_
 refine AllReadyH.cons rfl (fun K hK=>?_) AllReadyH.nil
 go_simp
 go_at_call 31
 refine(C5.out _ _ _ _ _ _ _ (HR2.out.later HB4.out)).mono ?_
 rintro e w3 ⟨rfl,hb3⟩
 have HB5:=hid (HB4.out.trans (hb3.mono HB4.out.size))
 clear hb3
 refine hK.out _ _ (HQ.out _ HB5.out) (fun hHeld=>?_)
 clear hK K
 try simp only[Act.put,getElem_toArray,getElem_cons_succ,getElem_cons_zero,setIfInBounds_toArray,set_cons_zero,set_cons_succ]
 refine wpAnyH_take (i:=31) (v:=?_) rfl (by kernel_rfl) (by kernel_rfl) (by kernel_rfl) (fun _ _ _ h=>h) (Or.inl ⟨by rfl,?_⟩) (by assumption) ?_
 rotate_left
 ·intro w hSw;(try dsimp only at hSw);go_simp<;>with_reducible rfl
 try simp only[Act.put,getElem_toArray,getElem_cons_succ,getElem_cons_zero,setIfInBounds_toArray,set_cons_zero,set_cons_succ]
 refine wpAnyH_take (i:=32) (v:=?_) rfl (by kernel_rfl) (by kernel_rfl) (by kernel_rfl) (fun _ _ _ h=>h) (Or.inl ⟨by rfl,?_⟩) (by assumption) ?_
 rotate_left
 ·intro w hSw;(try dsimp only at hSw);go_simp<;>with_reducible rfl
 try simp only[Act.put,getElem_toArray,getElem_cons_succ,getElem_cons_zero,setIfInBounds_toArray,set_cons_zero,set_cons_succ]
 refine wpAnyH_take (i:=33) (v:=?_) rfl (by kernel_rfl) (by kernel_rfl) (by kernel_rfl) (fun _ _ _ h=>h) (Or.inl ⟨by rfl,?_⟩) (by assumption) ?_
 rotate_left
 ·intro w hSw;(try dsimp only at hSw);go_simp<;>with_reducible rfl
 try simp only[Act.put,getElem_toArray,getElem_cons_succ,getElem_cons_zero,setIfInBounds_toArray,set_cons_zero,set_cons_succ]
 refine wpAnyH_done (by kernel_rfl) ?_ _
 go_wp2
 go_ret
 exact⟨rfl,step HB.out HB5.out⟩
end Cm
end Go.Proofs.YtlnbmblbeaodcaaGreat
