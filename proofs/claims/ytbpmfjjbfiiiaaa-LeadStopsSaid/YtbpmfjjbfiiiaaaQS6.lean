/- Texts laid together by program. -/
import Derived.Test.YtbpmfjjbfiiiaaaQS5
/- Contract of the statements' Batch of layer 12, once more: it is one plain function of its bytes. -/
set_option linter.unusedVariables false
set_option maxRecDepth 8000
set_option linter.unusedSimpArgs false
namespace Go.Proofs.Ytbpmfjjbfiiiaaa
open Lib (hid)
open List (getElem_toArray getElem_cons_succ getElem_cons_zero setIfInBounds_toArray set_cons_zero set_cons_succ)
open Go.RowKit
namespace Cm

def batG (A:List UInt8) (len:Nat):Nat->Nat->List ReqV->List ReqV
 | 0,_,G=>G
 | F+1,I,G=>if I+4<len/\G.length<3 then batG A len F (I+5) (if hasC G (reqOf (bAtB A I) (bAtB A (I+1)) (bAtB A (I+2)) (bAtB A (I+3)) (bAtB A (I+4))).client then G else G++ [reqOf (bAtB A I) (bAtB A (I+1)) (bAtB A (I+2)) (bAtB A (I+3)) (bAtB A (I+4))]) else G
theorem batG_end {A:List UInt8} {len I:Nat} {G:List ReqV} (h: ¬(I+4<len/\G.length<3)): ∀F,batG A len F I G=G
 | 0=>rfl
 | F+1=>by rw[batG,if_neg h]
theorem batG_go {A:List UInt8} {len I F:Nat} {G T:List ReqV} (h:I+4<len/\G.length<3) (hl:len<=I+F) (hT:batG A len F I G=T): ∃F',len<=I+5+F'/\batG A len F' (I+5) (if hasC G (reqOf (bAtB A I) (bAtB A (I+1)) (bAtB A (I+2)) (bAtB A (I+3)) (bAtB A (I+4))).client then G else G++ [reqOf (bAtB A I) (bAtB A (I+1)) (bAtB A (I+2)) (bAtB A (I+3)) (bAtB A (I+4))])=T:=by
 match F,hl,hT with
 | 0,hl,_=>omega
 | F+1,hl,hT=>
  rw[batG,if_pos h] at hT
  exact⟨F,by omega,hT⟩
def batchF (A:List UInt8):BatV:=if A.length<4 then fillB else if bAtB A 0=255 then fillB else
 ⟨false,((bAtB A 2 % 8:Nat):Int),((bAtB A 0 % 4:Nat):Int),((bAtB A 1 % 6:Nat):Int),(bAtB A 3:Int),batG A A.length A.length 4 []⟩
def MadeBF (A:List UInt8) (w:World) (e:Ending) (w':World):Prop:=
 ∃b v,e= .returned (batVal b v)/\mayB b=true/\w'.ownsRow (w.heap.size+1) 71 5 v b.reqs.length (flatX cellsR b.reqs)/\Below w.heap.size w w'/\b=batchF A
theorem MadeBF.filled {A:List UInt8} {w w1:World} {e:Ending} (he:e= .returned (.agg #[.bool true,.int .i64 0,.int .i64 0,.int .i64 0,.int .i64 0,.slice none 0 0])) (hb:Below w.heap.size w w1) (hA:fillB=batchF A):MadeBF A w e w1:=
 ⟨fillB,.slice none 0 0,he,by decide+kernel,World.ownsRow_nil _ _ _ _,hb,hA⟩
theorem MadeBF.out {A:List UInt8} {w w':World} {e:Ending} (h:MadeBF A w e w'): ∃v,e= .returned (batVal (batchF A) v)/\mayB (batchF A)=true/\w'.ownsRow (w.heap.size+1) 71 5 v (batchF A).reqs.length (flatX cellsR (batchF A).reqs)/\Below w.heap.size w w':=by
 obtain⟨b,v,h1,h2,h3,h4,rfl⟩:=h
 exact⟨v,h1,h2,h3,h4⟩
set_option maxHeartbeats 8000000 in
theorem Batch_F (v:Value) (bs:List UInt8) (w:World) (h:Rd w v bs) (hsm:bs.length<=4611686018427387904):Calls Try.prog 41 #[v] w (MadeBF bs w):=by
 have hlen:=Rd.len_le h
 unfold maxLen at hlen
 obtain⟨a,len,cap,rfl,hl,hcap,hmx, -⟩:=h.ex
 subst hl
 by_cases c4:bs.length<4
 ·have d4:decide ((bs.length:Int)<4)=true:=by simp;omega
  clear h
  go_enter Try.func41,Try.ntmps41
  go_wp2
  refine bodyPost_ret (by simp [results,Try.results41,go_sem]<;>rfl) rfl (MadeBF.filled rfl (newAlloc w _) (by unfold batchF;rw[if_pos c4]))
 have d4:decide ((bs.length:Int)<4)=false:=by simp;omega
 obtain⟨b,o,rfl,hby⟩:=byte_at h (by omega)
 have HY:=hid hby
 have HFL:bAtB bs 0=255->Hid (fillB=batchF bs):=fun q=>hid (by unfold batchF;rw[if_neg c4,if_pos q])
 have HBF:bAtB bs 0≠255->Hid (batchF bs=⟨false,((bAtB bs 2 % 8:Nat):Int),((bAtB bs 0 % 4:Nat):Int),((bAtB bs 1 % 6:Nat):Int),(bAtB bs 3:Int),batG bs bs.length bs.length 4 []⟩):=fun q=>hid (by unfold batchF;rw[if_neg c4,if_neg q])
 clear h hby
 generalize bs.length=len at*
 have u0:(0:Int)<(len:Int):=by omega
 have u1:(1:Int)<(len:Int):=by omega
 have u2:(2:Int)<(len:Int):=by omega
 have u3:(3:Int)<(len:Int):=by omega
 have v0:0<len:=by omega
 have v1:1<len:=by omega
 have v2:2<len:=by omega
 have v3:3<len:=by omega
 have HB0:=hid (newAlloc w batZero)
 have hb0:=HY.out _ HB0.out 0 (by omega)
 have hx0:=bAtB_lt bs 0
 rw[Nat.add_zero] at hb0
 by_cases c0:bAtB bs 0=255
 ·have HFL:=HFL c0
  clear HBF
  rw[c0] at hb0
  have hb0:(w.alloc batZero).cell? ⟨b,o,none⟩=some (.int .u8 255):=hb0
  unfold batZero at hb0
  go_enter Try.func41,Try.ntmps41
  go_wp2
  refine bodyPost_ret (by simp [results,Try.results41,go_sem]<;>rfl) rfl (MadeBF.filled rfl (newAlloc w _) HFL.out)
 have d0:((bAtB bs 0:Int)==255)=false:=by simp;omega
 have HBF:=HBF c0
 clear HFL
 obtain⟨T,hT⟩: ∃T,batG bs len len 4 []=T:=⟨_,rfl⟩
 rw[hT] at HBF
 have HT:=hid hT
 clear hT
 go_enter Try.func41,Try.ntmps41
 unfold batZero at hb0
 go_upto_region 3 with fail
 have hz0:(w.alloc batZero).heap[w.heap.size]?=some batZero:=alloc_atB _ _ _ rfl
 unfold batZero at HB0 hz0
 generalize hW0:w.alloc (.cells #[.bool false,.int .i64 0,.int .i64 0,.int .i64 0,.int .i64 0,.slice none 0 0] 42)=W0 at HB0 hz0 ⊢
 clear hW0 hb0 d0
 have HKP:Hid (∀W,Below W0.heap.size W0 W->W.cell? ⟨b,o,none⟩=some (.int .u8 (bAtB bs 0:Int))/\W.cell? ⟨b,o+1,none⟩=some (.int .u8 (bAtB bs 1:Int))/\W.cell? ⟨b,o+2,none⟩=some (.int .u8 (bAtB bs 2:Int))/\W.cell? ⟨b,o+3,none⟩=some (.int .u8 (bAtB bs 3:Int))):=hid fun W hb=>⟨HY.out _ (step HB0.out hb) 0 (by omega),HY.out _ (step HB0.out hb) 1 (by omega),HY.out _ (step HB0.out hb) 2 (by omega),HY.out _ (step HB0.out hb) 3 (by omega)⟩
 have hx1:=bAtB_lt bs 1
 have hx2:=bAtB_lt bs 2
 have hx3:=bAtB_lt bs 3
 generalize bAtB bs 0=x0 at*
 generalize bAtB bs 1=x1 at*
 generalize bAtB bs 2=x2 at*
 generalize bAtB bs 3=x3 at*
 have q3:IntKind.i64.wrap (x3:Int)=(x3:Int):=by rw[IntKind.wrap_i64];omega
 obtain⟨X0,hX0⟩: ∃X,x0 % 4=X:=⟨_,rfl⟩
 have q0:IntKind.i64.wrap (x0:Int)=(x0:Int):=by rw[IntKind.wrap_i64];omega
 have r0:(x0:Int) % 4=(X0:Int):=by omega
 have t0:(x0:Int).tmod 4=(X0:Int):=by rw[Int.tmod_eq_emod_of_nonneg (by omega)];exact r0
 have l0:X0<8:=by omega
 rw[hX0] at HBF
 clear hX0
 obtain⟨X1,hX1⟩: ∃X,x1 % 6=X:=⟨_,rfl⟩
 have q1:IntKind.i64.wrap (x1:Int)=(x1:Int):=by rw[IntKind.wrap_i64];omega
 have r1:(x1:Int) % 6=(X1:Int):=by omega
 have t1:(x1:Int).tmod 6=(X1:Int):=by rw[Int.tmod_eq_emod_of_nonneg (by omega)];exact r1
 have l1:X1<8:=by omega
 rw[hX1] at HBF
 clear hX1
 obtain⟨X2,hX2⟩: ∃X,x2 % 8=X:=⟨_,rfl⟩
 have q2:IntKind.i64.wrap (x2:Int)=(x2:Int):=by rw[IntKind.wrap_i64];omega
 have r2:(x2:Int) % 8=(X2:Int):=by omega
 have t2:(x2:Int).tmod 8=(X2:Int):=by rw[Int.tmod_eq_emod_of_nonneg (by omega)];exact r2
 have l2:X2<8:=by omega
 rw[hX2] at HBF
 clear hX2
 refine wp_region_held_drew (S:=fun W=>W.cell? ⟨b,o,none⟩=some (.int .u8 (x0:Int))/\W.cell? ⟨b,o+1,none⟩=some (.int .u8 (x1:Int))/\W.cell? ⟨b,o+2,none⟩=some (.int .u8 (x2:Int))/\W.cell? ⟨b,o+3,none⟩=some (.int .u8 (x3:Int))) (by kernel_rfl) (HKP.out _ (Below.refl _ _).drew) (fun hHeld=>?_)
 obtain⟨V,hV⟩: ∃V,V=W0.drew:=⟨_,rfl⟩
 have HBV:Hid (Below W0.heap.size W0 V):=hid (by rw[hV];exact(Below.refl _ _).drew)
 rw[<-hV] at hHeld ⊢
 clear hV
 refine wpAnyH_take (i:=0) (v:=?_) rfl (by kernel_rfl) (by kernel_rfl) (by kernel_rfl) (fun _ _ _ h=>h) (Or.inl ⟨by rfl,?_⟩) (by assumption) ?_
 rotate_left
 ·intro w hSw;(try dsimp only at hSw);go_simp<;>with_reducible rfl
 try simp only[Act.put,getElem_toArray,getElem_cons_succ,getElem_cons_zero,setIfInBounds_toArray,set_cons_zero,set_cons_succ]
 refine wpAnyH_take (i:=1) (v:=?_) rfl (by kernel_rfl) (by kernel_rfl) (by kernel_rfl) (fun _ _ _ h=>h) (Or.inl ⟨by rfl,?_⟩) (by assumption) ?_
 rotate_left
 ·intro w hSw;(try dsimp only at hSw);go_simp<;>with_reducible rfl
 try simp only[Act.put,getElem_toArray,getElem_cons_succ,getElem_cons_zero,setIfInBounds_toArray,set_cons_zero,set_cons_succ]
 refine wpAnyH_take (i:=2) (v:=?_) rfl (by kernel_rfl) (by kernel_rfl) (by kernel_rfl) (fun _ _ _ h=>h) (Or.inl ⟨by rfl,?_⟩) (by assumption) ?_
 rotate_left
 ·intro w hSw;(try dsimp only at hSw);go_simp<;>with_reducible rfl
 try simp only[Act.put,getElem_toArray,getElem_cons_succ,getElem_cons_zero,setIfInBounds_toArray,set_cons_zero,set_cons_succ]
 refine wpAnyH_take (i:=3) (v:=?_) rfl (by kernel_rfl) (by kernel_rfl) (by kernel_rfl) (fun _ _ _ h=>h) (Or.inl ⟨by rfl,?_⟩) (by assumption) ?_
 rotate_left
 ·intro w hSw;(try dsimp only at hSw);go_simp<;>with_reducible rfl
 try simp only[Act.put,getElem_toArray,getElem_cons_succ,getElem_cons_zero,setIfInBounds_toArray,set_cons_zero,set_cons_succ]
 refine wpAnyH_take (i:=4) (v:=?_) rfl (by kernel_rfl) (by kernel_rfl) (by kernel_rfl) (fun _ _ _ h=>h) (Or.inl ⟨by rfl,?_⟩) (by assumption) ?_
 rotate_left
 ·intro w hSw;(try dsimp only at hSw);go_simp<;>with_reducible rfl
 try simp only[Act.put,getElem_toArray,getElem_cons_succ,getElem_cons_zero,setIfInBounds_toArray,set_cons_zero,set_cons_succ]
 refine wpAnyH_take (i:=5) (v:=?_) rfl (by kernel_rfl) (by kernel_rfl) (by kernel_rfl) (fun _ _ _ h=>h) (Or.inl ⟨by rfl,?_⟩) (by assumption) ?_
 rotate_left
 ·intro w hSw;(try dsimp only at hSw);go_simp<;>with_reducible rfl
 try simp only[Act.put,getElem_toArray,getElem_cons_succ,getElem_cons_zero,setIfInBounds_toArray,set_cons_zero,set_cons_succ]
 refine wpAnyH_take (i:=6) (v:=?_) rfl (by kernel_rfl) (by kernel_rfl) (by kernel_rfl) (fun _ _ _ h=>h) (Or.inl ⟨by rfl,?_⟩) (by assumption) ?_
 rotate_left
 ·intro w hSw;(try dsimp only at hSw);go_simp<;>with_reducible rfl
 try simp only[Act.put,getElem_toArray,getElem_cons_succ,getElem_cons_zero,setIfInBounds_toArray,set_cons_zero,set_cons_succ]
 refine wpAnyH_take (i:=7) (v:=?_) rfl (by kernel_rfl) (by kernel_rfl) (by kernel_rfl) (fun _ _ _ h=>h) (Or.inl ⟨by rfl,?_⟩) (by assumption) ?_
 rotate_left
 ·intro w hSw;(try dsimp only at hSw);go_simp<;>with_reducible rfl
 try simp only[Act.put,getElem_toArray,getElem_cons_succ,getElem_cons_zero,setIfInBounds_toArray,set_cons_zero,set_cons_succ]
 refine wpAnyH_take (i:=8) (v:=?_) rfl (by kernel_rfl) (by kernel_rfl) (by kernel_rfl) (fun _ _ _ h=>h) (Or.inl ⟨by rfl,?_⟩) (by assumption) ?_
 rotate_left
 ·intro w hSw;(try dsimp only at hSw);go_simp<;>with_reducible rfl
 try simp only[Act.put,getElem_toArray,getElem_cons_succ,getElem_cons_zero,setIfInBounds_toArray,set_cons_zero,set_cons_succ]
 refine wpAnyH_take (i:=9) (v:=?_) rfl (by kernel_rfl) (by kernel_rfl) (by kernel_rfl) (fun _ _ _ h=>h) (Or.inl ⟨by rfl,?_⟩) (by assumption) ?_
 rotate_left
 ·intro w hSw;(try dsimp only at hSw);go_simp<;>with_reducible rfl
 try simp only[Act.put,getElem_toArray,getElem_cons_succ,getElem_cons_zero,setIfInBounds_toArray,set_cons_zero,set_cons_succ]
 refine wpAnyH_take (i:=10) (v:=?_) rfl (by kernel_rfl) (by kernel_rfl) (by kernel_rfl) (fun _ _ _ h=>h) (Or.inl ⟨by rfl,?_⟩) (by assumption) ?_
 rotate_left
 ·intro w hSw;(try dsimp only at hSw);go_simp<;>with_reducible rfl
 try simp only[Act.put,getElem_toArray,getElem_cons_succ,getElem_cons_zero,setIfInBounds_toArray,set_cons_zero,set_cons_succ]
 refine wpAnyH_take (i:=11) (v:=?_) rfl (by kernel_rfl) (by kernel_rfl) (by kernel_rfl) (fun _ _ _ h=>h) (Or.inl ⟨by rfl,?_⟩) (by assumption) ?_
 rotate_left
 ·intro w hSw;(try dsimp only at hSw);go_simp<;>with_reducible rfl
 try simp only[Act.put,getElem_toArray,getElem_cons_succ,getElem_cons_zero,setIfInBounds_toArray,set_cons_zero,set_cons_succ]
 refine wpAnyH_take (i:=12) (v:=?_) rfl (by kernel_rfl) (by kernel_rfl) (by kernel_rfl) (fun _ _ _ h=>h) (Or.inl ⟨by rfl,?_⟩) (by assumption) ?_
 rotate_left
 ·intro w hSw;(try dsimp only at hSw);go_simp<;>with_reducible rfl
 try simp only[Act.put,getElem_toArray,getElem_cons_succ,getElem_cons_zero,setIfInBounds_toArray,set_cons_zero,set_cons_succ]
 refine wpAnyH_take (i:=13) (v:=?_) rfl (by kernel_rfl) (by kernel_rfl) (by kernel_rfl) (fun _ _ _ h=>h) (Or.inl ⟨by rfl,?_⟩) (by assumption) ?_
 rotate_left
 ·intro w hSw;(try dsimp only at hSw);go_simp<;>with_reducible rfl
 try simp only[Act.put,getElem_toArray,getElem_cons_succ,getElem_cons_zero,setIfInBounds_toArray,set_cons_zero,set_cons_succ]
 refine wpAnyH_take (i:=14) (v:=?_) rfl (by kernel_rfl) (by kernel_rfl) (by kernel_rfl) (fun _ _ _ h=>h) (Or.inl ⟨by rfl,?_⟩) (by assumption) ?_
 rotate_left
 ·intro w hSw;(try dsimp only at hSw);go_simp<;>with_reducible rfl
 try simp only[Act.put,getElem_toArray,getElem_cons_succ,getElem_cons_zero,setIfInBounds_toArray,set_cons_zero,set_cons_succ]
 refine wpAnyH_take (i:=15) (v:=?_) rfl (by kernel_rfl) (by kernel_rfl) (by kernel_rfl) (fun _ _ _ h=>h) (Or.inl ⟨by rfl,?_⟩) (by assumption) ?_
 rotate_left
 ·intro w hSw;(try dsimp only at hSw);go_simp<;>with_reducible rfl
 try simp only[Act.put,getElem_toArray,getElem_cons_succ,getElem_cons_zero,setIfInBounds_toArray,set_cons_zero,set_cons_succ]
 refine wpAnyH_take (i:=16) (v:=?_) rfl (by kernel_rfl) (by kernel_rfl) (by kernel_rfl) (fun _ _ _ h=>h) (Or.inl ⟨by rfl,?_⟩) (by assumption) ?_
 rotate_left
 ·intro w hSw;(try dsimp only at hSw);go_simp<;>with_reducible rfl
 try simp only[Act.put,getElem_toArray,getElem_cons_succ,getElem_cons_zero,setIfInBounds_toArray,set_cons_zero,set_cons_succ]
 refine wpAnyH_take (i:=17) (v:=?_) rfl (by kernel_rfl) (by kernel_rfl) (by kernel_rfl) (fun _ _ _ h=>h) (Or.inl ⟨by rfl,?_⟩) (by assumption) ?_
 rotate_left
 ·intro w hSw;(try dsimp only at hSw);go_simp<;>with_reducible rfl
 try simp only[Act.put,getElem_toArray,getElem_cons_succ,getElem_cons_zero,setIfInBounds_toArray,set_cons_zero,set_cons_succ]
 refine wpAnyH_take (i:=18) (v:=?_) rfl (by kernel_rfl) (by kernel_rfl) (by kernel_rfl) (fun _ _ _ h=>h) (Or.inl ⟨by rfl,?_⟩) (by assumption) ?_
 rotate_left
 ·intro w hSw;(try dsimp only at hSw);go_simp<;>with_reducible rfl
 try simp only[Act.put,getElem_toArray,getElem_cons_succ,getElem_cons_zero,setIfInBounds_toArray,set_cons_zero,set_cons_succ]
 refine wpAnyH_take (i:=19) (v:=?_) rfl (by kernel_rfl) (by kernel_rfl) (by kernel_rfl) (fun _ _ _ h=>h) (Or.inl ⟨by rfl,?_⟩) (by assumption) ?_
 rotate_left
 ·intro w hSw;(try dsimp only at hSw);go_simp<;>with_reducible rfl
 try simp only[Act.put,getElem_toArray,getElem_cons_succ,getElem_cons_zero,setIfInBounds_toArray,set_cons_zero,set_cons_succ]
 refine wpAnyH_take (i:=20) (v:=?_) rfl (by kernel_rfl) (by kernel_rfl) (by kernel_rfl) (fun _ _ _ h=>h) (Or.inl ⟨by rfl,?_⟩) (by assumption) ?_
 rotate_left
 ·intro w hSw;(try dsimp only at hSw);go_simp<;>with_reducible rfl
 try simp only[Act.put,getElem_toArray,getElem_cons_succ,getElem_cons_zero,setIfInBounds_toArray,set_cons_zero,set_cons_succ]
 refine wpAnyH_ready (rs:= [21]) (by kernel_rfl) (by simp) ?_
 refine AllReadyH.cons rfl (fun K hK=>?_) AllReadyH.nil
 go_simp
 obtain⟨V',hV'⟩: ∃V',V'=V.alloc (.cells #[.bool false,.int .i64 0,.int .i64 0,.int .i64 0,.int .i64 0,.slice none 0 0] 42):=⟨_,rfl⟩
 have hb:Below V.heap.size V V':=(by rw[hV'];exact newAlloc _ _)
 have HG0:Hid (GB w V.heap.size (.cells #[.bool false,.int .i64 0,.int .i64 0,.int .i64 0,.int .i64 0,.slice none 0 0] 42) V'):=hid (by rw[hV'];exact GB.new (step HB0.out HBV.out) ((HBV.out.block _ (get_ltB hz0)).trans hz0) _)
 rw[<-hV']
 have hB4:=step HBV.out hb
 clear hV' hb
 have hA3:Hid (W0.heap.size<=V.heap.size):=hid HBV.out.size
 generalize hA:V.heap.size=A at HG0 hA3 ⊢
 clear hA
 refine hK.out _ _ (HKP.out _ hB4) (fun hHeld=>?_)
 clear hK K
 try simp only[Act.put,getElem_toArray,getElem_cons_succ,getElem_cons_zero,setIfInBounds_toArray,set_cons_zero,set_cons_succ]
 have hz:=HG0.out.box
 have k0:=cell_at hz 0
 have k1:=cell_at hz 1
 have k2:=cell_at hz 2
 have k3:=cell_at hz 3
 have k4:=cell_at hz 4
 have k5:=cell_at hz 5
 have kf:=frozen_at hz
 simp at k0 k1 k2 k3 k4 k5
 clear hz
 refine wpAnyH_ready (rs:= [22]) (by kernel_rfl) (by simp) ?_
 refine AllReadyH.cons rfl (fun K hK=>?_) AllReadyH.nil
 go_simp
 have hA:W0.heap.size<=A:=hA3.out
 refine hK.out _ _ (HKP.out _ ((((((hB4.setCell hA _).setCell hA _).setCell hA _).setCell hA _).setCell hA _).setCell hA _)) (fun hHeld=>?_)
 clear hK K
 try simp only[Act.put,getElem_toArray,getElem_cons_succ,getElem_cons_zero,setIfInBounds_toArray,set_cons_zero,set_cons_succ]
 refine wpAnyH_done (by kernel_rfl) ?_ _
 have HG1:Hid (GB w A (batBox [(X2:Int),(X0:Int),(X1:Int),(x3:Int)] (.slice none 0 0)) ((((((V'.setCell ⟨A,0,none⟩ (.bool false)).setCell ⟨A,1,none⟩ (.int .i64 (X2:Int))).setCell ⟨A,2,none⟩ (.int .i64 (X0:Int))).setCell ⟨A,3,none⟩ (.int .i64 (X1:Int))).setCell ⟨A,4,none⟩ (.int .i64 (x3:Int))).setCell ⟨A,5,none⟩ (.slice none 0 0))):=hid (HG0.out.put6 _ _ _ _ _ _)
 generalize ((((((V'.setCell ⟨A,0,none⟩ (.bool false)).setCell ⟨A,1,none⟩ (.int .i64 (X2:Int))).setCell ⟨A,2,none⟩ (.int .i64 (X0:Int))).setCell ⟨A,3,none⟩ (.int .i64 (X1:Int))).setCell ⟨A,4,none⟩ (.int .i64 (x3:Int))).setCell ⟨A,5,none⟩ (.slice none 0 0))=W4 at HG1 ⊢
 clear k0 k1 k2 k3 k4 k5 kf hHeld HG0 HBV hB4 hA HKP hA3 hz0 r0 t0 r1 t1 r2 t2 q0 q1 q2 q3 hx0 hx1 hx2 c0
 obtain⟨i5,hi5,h50,h51,h52⟩:=info_partsB infoReqB
 go_wp2_with fail
 go_loopw [4,5,6,7] (fun i _ _ _ wr=> ∃(I:Nat) (G:List ReqV) (u:Value),4<=I/\I<=len/\i= .int .i64 (I:Int)/\G.length<=3/\okR [] G=true/\Hid (GB w A (batBox [(X2:Int),(X0:Int),(X1:Int),(x3:Int)] u) wr)/\Hid (wr.ownsRow (A+1) 71 5 u G.length (flatX cellsR G))/\Hid (∃F,len<=I+F/\batG bs len F I G=T)) (fun i _ _ _ _=>len+6 - (intOf i).toNat)
 case atStart=>exact⟨4,[],.slice none 0 0,by omega,by omega,rfl,by decide,rfl,HG1,hid (World.ownsRow_nil _ _ _ _),hid ⟨len,by omega,HT.out⟩⟩
 case round=>
  obtain⟨I,G,u,hI4,hIl,rfl,hG3,hok,HG,HO,HFX⟩:=hrel
  obtain⟨ua,uc,hu⟩:=Rw.own_form HO.out
  subst hu
  obtain⟨⟨m0,m1,m2,m3,m4,m5⟩,mf⟩:=HG.out.bc4
  have HOK:=hid hok
  clear hok
  have e4:IntKind.i64.wrap ((I:Int)+4)=(I:Int)+4:=by rw[IntKind.wrap_i64];omega
  by_cases hgo:I+4<len/\G.length<3
  case neg=>
   have d1:decide ((I:Int)+4<(len:Int))=true/\decide ((G.length:Int)<3)=false\/decide ((I:Int)+4<(len:Int))=false:=by
    by_cases q:I+4<len
    ·exact .inl ⟨by simp;omega,by simp;omega⟩
    ·exact .inr (by simp;omega)
   have HM:Hid (mayB ⟨false,(X2:Int),(X0:Int),(X1:Int),(x3:Int),G⟩=true):=hid (mayB_mk (by omega) (by omega) (by omega) (by omega) hG3 HOK.out)
   obtain⟨⟨z0,z1,z2,z3,z4,z5⟩,zf⟩:=HG.out.zc
   have key: ∀(W:World) (i:Nat) (u:Value) (g:Nat),g≠w.heap.size->(W.setCell ⟨w.heap.size,i,none⟩ u).heap[g]?=W.heap[g]?:=fun W i u g hne=>Below.heap_setCell _ _ _ _ hne
   have HBE:Hid (⟨false,(X2:Int),(X0:Int),(X1:Int),(x3:Int),G⟩=batchF bs):=hid (by
    obtain⟨F,_,hF⟩:=HFX.out
    rw[batG_end hgo] at hF
    rw[HBF.out,hF])
   have KEY:=hid key
   clear key hgo
   rcases d1 with ⟨d1,d2⟩ | d1<;>
   ·go_wp2
    refine bodyPost_ret (by simp [results,Try.results41,go_sem,z0,z1,z2,z3,z4,z5]<;>rfl) rfl ⟨⟨false,(X2:Int),(X0:Int),(X1:Int),(x3:Int),G⟩,.slice ua G.length uc,rfl,HM.out,own_lowerX (Rw.own_keep HO.out fun g hg=>?_) (by have:=HG.out.lt;omega),set6z HG.out.below _ _ _ _ _ _,HBE.out⟩
    have hg1:=(Rw.own_lt HO.out g hg).1
    have hne:g≠w.heap.size:=by have:=HG.out.lt;omega
    rw[KEY.out _ _ _ g hne,KEY.out _ _ _ g hne,KEY.out _ _ _ g hne,KEY.out _ _ _ g hne,KEY.out _ _ _ g hne,KEY.out _ _ _ g hne]
  obtain⟨hI,hG2⟩:=hgo
  have d1:decide ((I:Int)+4<(len:Int))=true:=by simp;omega
  have d2:decide ((G.length:Int)<3)=true:=by simp;omega
  have HPB:Hid (∀W,Below wr.heap.size wr W->W.cell? ⟨b,o+I,none⟩=some (.int .u8 (bAtB bs I:Int))/\W.cell? ⟨b,o+(I+1),none⟩=some (.int .u8 (bAtB bs (I+1):Int))/\W.cell? ⟨b,o+(I+2),none⟩=some (.int .u8 (bAtB bs (I+2):Int))/\W.cell? ⟨b,o+(I+3),none⟩=some (.int .u8 (bAtB bs (I+3):Int))/\W.cell? ⟨b,o+(I+4),none⟩=some (.int .u8 (bAtB bs (I+4):Int))):=hid fun W hb=>by
   have hB:=step HG.out.below hb
   exact⟨HY.out _ hB I (by omega),HY.out _ hB (I+1) (by omega),HY.out _ hB (I+2) (by omega),HY.out _ hB (I+3) (by omega),HY.out _ hB (I+4) (by omega)⟩
  obtain⟨F,hF1,hF2⟩: ∃F',len<=I+5+F'/\batG bs len F' (I+5) (if hasC G (reqOf (bAtB bs I) (bAtB bs (I+1)) (bAtB bs (I+2)) (bAtB bs (I+3)) (bAtB bs (I+4))).client then G else G++ [reqOf (bAtB bs I) (bAtB bs (I+1)) (bAtB bs (I+2)) (bAtB bs (I+3)) (bAtB bs (I+4))])=T:=by
   obtain⟨F,h1,h2⟩:=HFX.out
   exact batG_go ⟨hI,hG2⟩ h1 h2
  have HF1:=hid hF1
  have HF2:=hid hF2
  clear hF1 hF2 HFX
  have y0:=bAtB_lt bs I
  have y1:=bAtB_lt bs (I+1)
  have y2:=bAtB_lt bs (I+2)
  have y3:=bAtB_lt bs (I+3)
  have y4:=bAtB_lt bs (I+4)
  generalize bAtB bs I=b0 at*
  generalize bAtB bs (I+1)=b1 at*
  generalize bAtB bs (I+2)=b2 at*
  generalize bAtB bs (I+3)=b3 at*
  generalize bAtB bs (I+4)=b4 at*
  have CQ:=hid (fun W=>Req_any b0 b1 b2 b3 b4 W y0 y1 y2 y3 y4)
  have HRM:=hid (reqOf_may b0 b1 b2 b3 b4 y1)
  generalize reqOf b0 b1 b2 b3 b4=R at CQ HRM HF2
  clear y0 y1 y2 y3 y4
  go_upto_region 7 with fail
  clear m0 m1 m2 m3 m4 m5 mf d1 d2
  have w0:(I:Int)<(len:Int):=by omega
  have w1:(I:Int)+1<(len:Int):=by omega
  have w2:(I:Int)+2<(len:Int):=by omega
  have w3:(I:Int)+3<(len:Int):=by omega
  have w4:(I:Int)+4<(len:Int):=by omega
  have n0:I<len:=by omega
  have n1:I+1<len:=by omega
  have n2:I+2<len:=by omega
  have n3:I+3<len:=by omega
  have e1:IntKind.i64.wrap ((I:Int)+1)=(I:Int)+1:=by rw[IntKind.wrap_i64];omega
  have e2:IntKind.i64.wrap ((I:Int)+2)=(I:Int)+2:=by rw[IntKind.wrap_i64];omega
  have e3:IntKind.i64.wrap ((I:Int)+3)=(I:Int)+3:=by rw[IntKind.wrap_i64];omega
  have g1:(0:Int)<=(I:Int)+1:=by omega
  have g2:(0:Int)<=(I:Int)+2:=by omega
  have g3:(0:Int)<=(I:Int)+3:=by omega
  have g4:(0:Int)<=(I:Int)+4:=by omega
  have f1:((I:Int)+1).toNat =I+1:=by omega
  have f2:((I:Int)+2).toNat =I+2:=by omega
  have f3:((I:Int)+3).toNat =I+3:=by omega
  have f4:((I:Int)+4).toNat =I+4:=by omega
  obtain⟨rc,rq,rk,rs,rn⟩:=R
  unfold reqVal at CQ
  dsimp only at CQ
  go_cut [5] from 52 to 76 (fun s wc=> ∃g,s= .pointer (some ⟨g,0,none⟩)/\wr.heap.size<=g/\Hid (HeapAt wc g (.cells #[.int .i64 rc,.int .i64 rq,.int .i64 rk,.int .i64 rs,.string (bstr rn)] 71))/\Hid (Below wr.heap.size wr wc))
  case first=>
   refine wp_region_held_drew (S:=fun W=>W.cell? ⟨b,o+I,none⟩=some (.int .u8 (b0:Int))/\W.cell? ⟨b,o+(I+1),none⟩=some (.int .u8 (b1:Int))/\W.cell? ⟨b,o+(I+2),none⟩=some (.int .u8 (b2:Int))/\W.cell? ⟨b,o+(I+3),none⟩=some (.int .u8 (b3:Int))/\W.cell? ⟨b,o+(I+4),none⟩=some (.int .u8 (b4:Int))) (by kernel_rfl) (HPB.out _ (Below.refl _ _).drew) (fun hHeld=>?_)
   obtain⟨V,hV⟩: ∃V,V=wr.drew:=⟨_,rfl⟩
   have HBV:Hid (Below wr.heap.size wr V):=hid (by rw[hV];exact(Below.refl _ _).drew)
   rw[<-hV] at hHeld ⊢
   clear hV
   refine wpAnyH_take (i:=0) (v:=?_) rfl (by kernel_rfl) (by kernel_rfl) (by kernel_rfl) (fun _ _ _ h=>h) (Or.inl ⟨by rfl,?_⟩) (by assumption) ?_
   rotate_left
   ·intro w hSw;(try dsimp only at hSw);go_simp<;>with_reducible rfl
   try simp only[Act.put,getElem_toArray,getElem_cons_succ,getElem_cons_zero,setIfInBounds_toArray,set_cons_zero,set_cons_succ]
   refine wpAnyH_take (i:=1) (v:=?_) rfl (by kernel_rfl) (by kernel_rfl) (by kernel_rfl) (fun _ _ _ h=>h) (Or.inl ⟨by rfl,?_⟩) (by assumption) ?_
   rotate_left
   ·intro w hSw;(try dsimp only at hSw);go_simp<;>with_reducible rfl
   try simp only[Act.put,getElem_toArray,getElem_cons_succ,getElem_cons_zero,setIfInBounds_toArray,set_cons_zero,set_cons_succ]
   refine wpAnyH_take (i:=2) (v:=?_) rfl (by kernel_rfl) (by kernel_rfl) (by kernel_rfl) (fun _ _ _ h=>h) (Or.inl ⟨by rfl,?_⟩) (by assumption) ?_
   rotate_left
   ·intro w hSw;(try dsimp only at hSw);go_simp<;>with_reducible rfl
   try simp only[Act.put,getElem_toArray,getElem_cons_succ,getElem_cons_zero,setIfInBounds_toArray,set_cons_zero,set_cons_succ]
   refine wpAnyH_take (i:=3) (v:=?_) rfl (by kernel_rfl) (by kernel_rfl) (by kernel_rfl) (fun _ _ _ h=>h) (Or.inl ⟨by rfl,?_⟩) (by assumption) ?_
   rotate_left
   ·intro w hSw;(try dsimp only at hSw);go_simp<;>with_reducible rfl
   try simp only[Act.put,getElem_toArray,getElem_cons_succ,getElem_cons_zero,setIfInBounds_toArray,set_cons_zero,set_cons_succ]
   refine wpAnyH_take (i:=4) (v:=?_) rfl (by kernel_rfl) (by kernel_rfl) (by kernel_rfl) (fun _ _ _ h=>h) (Or.inl ⟨by rfl,?_⟩) (by assumption) ?_
   rotate_left
   ·intro w hSw;(try dsimp only at hSw);go_simp<;>with_reducible rfl
   try simp only[Act.put,getElem_toArray,getElem_cons_succ,getElem_cons_zero,setIfInBounds_toArray,set_cons_zero,set_cons_succ]
   refine wpAnyH_take (i:=5) (v:=?_) rfl (by kernel_rfl) (by kernel_rfl) (by kernel_rfl) (fun _ _ _ h=>h) (Or.inl ⟨by rfl,?_⟩) (by assumption) ?_
   rotate_left
   ·intro w hSw;(try dsimp only at hSw);go_simp<;>with_reducible rfl
   try simp only[Act.put,getElem_toArray,getElem_cons_succ,getElem_cons_zero,setIfInBounds_toArray,set_cons_zero,set_cons_succ]
   refine wpAnyH_take (i:=6) (v:=?_) rfl (by kernel_rfl) (by kernel_rfl) (by kernel_rfl) (fun _ _ _ h=>h) (Or.inl ⟨by rfl,?_⟩) (by assumption) ?_
   rotate_left
   ·intro w hSw;(try dsimp only at hSw);go_simp<;>with_reducible rfl
   try simp only[Act.put,getElem_toArray,getElem_cons_succ,getElem_cons_zero,setIfInBounds_toArray,set_cons_zero,set_cons_succ]
   refine wpAnyH_take (i:=7) (v:=?_) rfl (by kernel_rfl) (by kernel_rfl) (by kernel_rfl) (fun _ _ _ h=>h) (Or.inl ⟨by rfl,?_⟩) (by assumption) ?_
   rotate_left
   ·intro w hSw;(try dsimp only at hSw);go_simp<;>with_reducible rfl
   try simp only[Act.put,getElem_toArray,getElem_cons_succ,getElem_cons_zero,setIfInBounds_toArray,set_cons_zero,set_cons_succ]
   refine wpAnyH_take (i:=8) (v:=?_) rfl (by kernel_rfl) (by kernel_rfl) (by kernel_rfl) (fun _ _ _ h=>h) (Or.inl ⟨by rfl,?_⟩) (by assumption) ?_
   rotate_left
   ·intro w hSw;(try dsimp only at hSw);go_simp<;>with_reducible rfl
   try simp only[Act.put,getElem_toArray,getElem_cons_succ,getElem_cons_zero,setIfInBounds_toArray,set_cons_zero,set_cons_succ]
   refine wpAnyH_take (i:=9) (v:=?_) rfl (by kernel_rfl) (by kernel_rfl) (by kernel_rfl) (fun _ _ _ h=>h) (Or.inl ⟨by rfl,?_⟩) (by assumption) ?_
   rotate_left
   ·intro w hSw;(try dsimp only at hSw);go_simp<;>with_reducible rfl
   try simp only[Act.put,getElem_toArray,getElem_cons_succ,getElem_cons_zero,setIfInBounds_toArray,set_cons_zero,set_cons_succ]
   refine wpAnyH_take (i:=10) (v:=?_) rfl (by kernel_rfl) (by kernel_rfl) (by kernel_rfl) (fun _ _ _ h=>h) (Or.inl ⟨by rfl,?_⟩) (by assumption) ?_
   rotate_left
   ·intro w hSw;(try dsimp only at hSw);go_simp<;>with_reducible rfl
   try simp only[Act.put,getElem_toArray,getElem_cons_succ,getElem_cons_zero,setIfInBounds_toArray,set_cons_zero,set_cons_succ]
   refine wpAnyH_take (i:=11) (v:=?_) rfl (by kernel_rfl) (by kernel_rfl) (by kernel_rfl) (fun _ _ _ h=>h) (Or.inl ⟨by rfl,?_⟩) (by assumption) ?_
   rotate_left
   ·intro w hSw;(try dsimp only at hSw);go_simp<;>with_reducible rfl
   try simp only[Act.put,getElem_toArray,getElem_cons_succ,getElem_cons_zero,setIfInBounds_toArray,set_cons_zero,set_cons_succ]
   refine wpAnyH_take (i:=12) (v:=?_) rfl (by kernel_rfl) (by kernel_rfl) (by kernel_rfl) (fun _ _ _ h=>h) (Or.inl ⟨by rfl,?_⟩) (by assumption) ?_
   rotate_left
   ·intro w hSw;(try dsimp only at hSw);go_simp<;>with_reducible rfl
   try simp only[Act.put,getElem_toArray,getElem_cons_succ,getElem_cons_zero,setIfInBounds_toArray,set_cons_zero,set_cons_succ]
   refine wpAnyH_take (i:=13) (v:=?_) rfl (by kernel_rfl) (by kernel_rfl) (by kernel_rfl) (fun _ _ _ h=>h) (Or.inl ⟨by rfl,?_⟩) (by assumption) ?_
   rotate_left
   ·intro w hSw;(try dsimp only at hSw);go_simp<;>with_reducible rfl
   try simp only[Act.put,getElem_toArray,getElem_cons_succ,getElem_cons_zero,setIfInBounds_toArray,set_cons_zero,set_cons_succ]
   refine wpAnyH_take (i:=14) (v:=?_) rfl (by kernel_rfl) (by kernel_rfl) (by kernel_rfl) (fun _ _ _ h=>h) (Or.inl ⟨by rfl,?_⟩) (by assumption) ?_
   rotate_left
   ·intro w hSw;(try dsimp only at hSw);go_simp<;>with_reducible rfl
   try simp only[Act.put,getElem_toArray,getElem_cons_succ,getElem_cons_zero,setIfInBounds_toArray,set_cons_zero,set_cons_succ]
   refine wpAnyH_take (i:=15) (v:=?_) rfl (by kernel_rfl) (by kernel_rfl) (by kernel_rfl) (fun _ _ _ h=>h) (Or.inl ⟨by rfl,?_⟩) (by assumption) ?_
   rotate_left
   ·intro w hSw;(try dsimp only at hSw);go_simp<;>with_reducible rfl
   try simp only[Act.put,getElem_toArray,getElem_cons_succ,getElem_cons_zero,setIfInBounds_toArray,set_cons_zero,set_cons_succ]
   refine wpAnyH_take (i:=16) (v:=?_) rfl (by kernel_rfl) (by kernel_rfl) (by kernel_rfl) (fun _ _ _ h=>h) (Or.inl ⟨by rfl,?_⟩) (by assumption) ?_
   rotate_left
   ·intro w hSw;(try dsimp only at hSw);go_simp<;>with_reducible rfl
   try simp only[Act.put,getElem_toArray,getElem_cons_succ,getElem_cons_zero,setIfInBounds_toArray,set_cons_zero,set_cons_succ]
   refine wpAnyH_take (i:=17) (v:=?_) rfl (by kernel_rfl) (by kernel_rfl) (by kernel_rfl) (fun _ _ _ h=>h) (Or.inl ⟨by rfl,?_⟩) (by assumption) ?_
   rotate_left
   ·intro w hSw;(try dsimp only at hSw);go_simp<;>with_reducible rfl
   try simp only[Act.put,getElem_toArray,getElem_cons_succ,getElem_cons_zero,setIfInBounds_toArray,set_cons_zero,set_cons_succ]
   refine wpAnyH_take (i:=18) (v:=?_) rfl (by kernel_rfl) (by kernel_rfl) (by kernel_rfl) (fun _ _ _ h=>h) (Or.inl ⟨by rfl,?_⟩) (by assumption) ?_
   rotate_left
   ·intro w hSw;(try dsimp only at hSw);go_simp<;>with_reducible rfl
   try simp only[Act.put,getElem_toArray,getElem_cons_succ,getElem_cons_zero,setIfInBounds_toArray,set_cons_zero,set_cons_succ]
   refine wpAnyH_take (i:=19) (v:=?_) rfl (by kernel_rfl) (by kernel_rfl) (by kernel_rfl) (fun _ _ _ h=>h) (Or.inl ⟨by rfl,?_⟩) (by assumption) ?_
   rotate_left
   ·intro w hSw;(try dsimp only at hSw);go_simp<;>with_reducible rfl
   try simp only[Act.put,getElem_toArray,getElem_cons_succ,getElem_cons_zero,setIfInBounds_toArray,set_cons_zero,set_cons_succ]
   refine wpAnyH_take (i:=20) (v:=?_) rfl (by kernel_rfl) (by kernel_rfl) (by kernel_rfl) (fun _ _ _ h=>h) (Or.inl ⟨by rfl,?_⟩) (by assumption) ?_
   rotate_left
   ·intro w hSw;(try dsimp only at hSw);go_simp<;>with_reducible rfl
   try simp only[Act.put,getElem_toArray,getElem_cons_succ,getElem_cons_zero,setIfInBounds_toArray,set_cons_zero,set_cons_succ]
   refine wpAnyH_take (i:=21) (v:=?_) rfl (by kernel_rfl) (by kernel_rfl) (by kernel_rfl) (fun _ _ _ h=>h) (Or.inl ⟨by rfl,?_⟩) (by assumption) ?_
   rotate_left
   ·intro w hSw;(try dsimp only at hSw);go_simp<;>with_reducible rfl
   try simp only[Act.put,getElem_toArray,getElem_cons_succ,getElem_cons_zero,setIfInBounds_toArray,set_cons_zero,set_cons_succ]
   refine wpAnyH_take (i:=22) (v:=?_) rfl (by kernel_rfl) (by kernel_rfl) (by kernel_rfl) (fun _ _ _ h=>h) (Or.inl ⟨by rfl,?_⟩) (by assumption) ?_
   rotate_left
   ·intro w hSw;(try dsimp only at hSw);go_simp<;>with_reducible rfl
   try simp only[Act.put,getElem_toArray,getElem_cons_succ,getElem_cons_zero,setIfInBounds_toArray,set_cons_zero,set_cons_succ]
   refine wpAnyH_take (i:=23) (v:=?_) rfl (by kernel_rfl) (by kernel_rfl) (by kernel_rfl) (fun _ _ _ h=>h) (Or.inl ⟨by rfl,?_⟩) (by assumption) ?_
   rotate_left
   ·intro w hSw;(try dsimp only at hSw);go_simp<;>with_reducible rfl
   try simp only[Act.put,getElem_toArray,getElem_cons_succ,getElem_cons_zero,setIfInBounds_toArray,set_cons_zero,set_cons_succ]
   refine wpAnyH_ready (rs:= [24,25]) (by kernel_rfl) (by simp) ?_
   refine AllReadyH.cons rfl (fun K hK=>?_) (AllReadyH.cons rfl (fun K hK=>?_) AllReadyH.nil)
   ·skip
    go_simp
    go_at_call 27
    refine(CQ.out V).mono ?_
    rintro e V' ⟨rfl,hb⟩
    have HBV:=hid (step HBV.out hb)
    clear hb
    obtain⟨V,rfl⟩: ∃V,V=V':=⟨_,rfl⟩
    refine hK.out _ _ (HPB.out _ HBV.out) (fun hHeld=>?_)
    clear hK K
    try simp only[Act.put,getElem_toArray,getElem_cons_succ,getElem_cons_zero,setIfInBounds_toArray,set_cons_zero,set_cons_succ]
    refine wpAnyH_ready (rs:= [25]) (by kernel_rfl) (by simp) ?_
    refine AllReadyH.cons rfl (fun K hK=>?_) AllReadyH.nil
    go_simp
    obtain⟨V',hV'⟩: ∃V',V'=V.alloc (.cells #[.int .i64 0,.int .i64 0,.int .i64 0,.int .i64 0,.string ⟨#[]⟩] 71):=⟨_,rfl⟩
    have hb:Below V.heap.size V V':=(by rw[hV'];exact newAlloc _ _)
    have HZ:Hid (HeapAt V' V.heap.size (.cells #[.int .i64 0,.int .i64 0,.int .i64 0,.int .i64 0,.string ⟨#[]⟩] 71)):=hid (by rw[hV'];exact alloc_atB _ _ _ rfl)
    rw[<-hV']
    have hg:Hid (wr.heap.size<=V.heap.size):=hid HBV.out.size
    have HBV:=hid (step HBV.out hb)
    clear hV'
    generalize V.heap.size=g at HZ hg ⊢
    clear hb
    obtain⟨V,rfl⟩: ∃V,V=V':=⟨_,rfl⟩
    refine hK.out _ _ (HPB.out _ HBV.out) (fun hHeld=>?_)
    clear hK K
    try simp only[Act.put,getElem_toArray,getElem_cons_succ,getElem_cons_zero,setIfInBounds_toArray,set_cons_zero,set_cons_succ]
    have hz:=HZ.out
    have k0:=cell_at hz 0
    have k1:=cell_at hz 1
    have k2:=cell_at hz 2
    have k3:=cell_at hz 3
    have k4:=cell_at hz 4
    have kf:=frozen_at hz
    simp at k0 k1 k2 k3 k4
    clear hz
    refine wpAnyH_ready (rs:= [26]) (by kernel_rfl) (by simp) ?_
    refine AllReadyH.cons rfl (fun K hK=>?_) AllReadyH.nil
    go_simp
    have hg':wr.heap.size<=g:=hg.out
    have hB5:=(((((HBV.out.setCell (p:=⟨g,0,none⟩) hg' (.int .i64 rc)).setCell (p:=⟨g,1,none⟩) hg' (.int .i64 rq)).setCell (p:=⟨g,2,none⟩) hg' (.int .i64 rk)).setCell (p:=⟨g,3,none⟩) hg' (.int .i64 rs)).setCell (p:=⟨g,4,none⟩) hg' (.string (bstr rn)))
    refine hK.out _ _ (HPB.out _ hB5) (fun hHeld=>?_)
    clear hK K
    try simp only[Act.put,getElem_toArray,getElem_cons_succ,getElem_cons_zero,setIfInBounds_toArray,set_cons_zero,set_cons_succ]
    refine wpAnyH_done (by kernel_rfl) ?_ _
    go_wp2_with fail
    go_meet
    exact⟨g,rfl,hg',hid (set_atB (set_atB (set_atB (set_atB (set_atB HZ.out 0 (.int .i64 rc)) 1 (.int .i64 rq)) 2 (.int .i64 rk)) 3 (.int .i64 rs)) 4 (.string (bstr rn))),hid hB5⟩
   ·skip
    go_simp
    obtain⟨V',hV'⟩: ∃V',V'=V.alloc (.cells #[.int .i64 0,.int .i64 0,.int .i64 0,.int .i64 0,.string ⟨#[]⟩] 71):=⟨_,rfl⟩
    have hb:Below V.heap.size V V':=(by rw[hV'];exact newAlloc _ _)
    have HZ:Hid (HeapAt V' V.heap.size (.cells #[.int .i64 0,.int .i64 0,.int .i64 0,.int .i64 0,.string ⟨#[]⟩] 71)):=hid (by rw[hV'];exact alloc_atB _ _ _ rfl)
    rw[<-hV']
    have hg:Hid (wr.heap.size<=V.heap.size):=hid HBV.out.size
    have HBV:=hid (step HBV.out hb)
    clear hV'
    generalize V.heap.size=g at HZ hg ⊢
    clear hb
    obtain⟨V,rfl⟩: ∃V,V=V':=⟨_,rfl⟩
    refine hK.out _ _ (HPB.out _ HBV.out) (fun hHeld=>?_)
    clear hK K
    try simp only[Act.put,getElem_toArray,getElem_cons_succ,getElem_cons_zero,setIfInBounds_toArray,set_cons_zero,set_cons_succ]
    refine wpAnyH_ready (rs:= [24]) (by kernel_rfl) (by simp) ?_
    refine AllReadyH.cons rfl (fun K hK=>?_) AllReadyH.nil
    go_simp
    go_at_call 27
    refine(CQ.out V).mono ?_
    rintro e V' ⟨rfl,hb⟩
    have HBV:=hid (step HBV.out hb)
    have HZ:=hid (HZ.out.later hb)
    clear hb
    obtain⟨V,rfl⟩: ∃V,V=V':=⟨_,rfl⟩
    refine hK.out _ _ (HPB.out _ HBV.out) (fun hHeld=>?_)
    clear hK K
    try simp only[Act.put,getElem_toArray,getElem_cons_succ,getElem_cons_zero,setIfInBounds_toArray,set_cons_zero,set_cons_succ]
    have hz:=HZ.out
    have k0:=cell_at hz 0
    have k1:=cell_at hz 1
    have k2:=cell_at hz 2
    have k3:=cell_at hz 3
    have k4:=cell_at hz 4
    have kf:=frozen_at hz
    simp at k0 k1 k2 k3 k4
    clear hz
    refine wpAnyH_ready (rs:= [26]) (by kernel_rfl) (by simp) ?_
    refine AllReadyH.cons rfl (fun K hK=>?_) AllReadyH.nil
    go_simp
    have hg':wr.heap.size<=g:=hg.out
    have hB5:=(((((HBV.out.setCell (p:=⟨g,0,none⟩) hg' (.int .i64 rc)).setCell (p:=⟨g,1,none⟩) hg' (.int .i64 rq)).setCell (p:=⟨g,2,none⟩) hg' (.int .i64 rk)).setCell (p:=⟨g,3,none⟩) hg' (.int .i64 rs)).setCell (p:=⟨g,4,none⟩) hg' (.string (bstr rn)))
    refine hK.out _ _ (HPB.out _ hB5) (fun hHeld=>?_)
    clear hK K
    try simp only[Act.put,getElem_toArray,getElem_cons_succ,getElem_cons_zero,setIfInBounds_toArray,set_cons_zero,set_cons_succ]
    refine wpAnyH_done (by kernel_rfl) ?_ _
    go_wp2_with fail
    go_meet
    exact⟨g,rfl,hg',hid (set_atB (set_atB (set_atB (set_atB (set_atB HZ.out 0 (.int .i64 rc)) 1 (.int .i64 rq)) 2 (.int .i64 rk)) 3 (.int .i64 rs)) 4 (.string (bstr rn))),hid hB5⟩
  case rest=>
   obtain⟨g,rfl,hg,HZ,HBC⟩:=hcut
   obtain⟨W,rfl⟩: ∃W,W=wc:=⟨_,rfl⟩
   have HGC:=hid (HG.out.later HBC.out)
   have HOC:=hid (Rw.own_below HO.out HBC.out)
   have HAT:=hid (fun k hk=>rdr_at (RdX.own cellsR_length HOC.out) k hk)
   have HST:=hid (hasC_step G)
   have e5:IntKind.i64.wrap ((I:Int)+5)=(I:Int)+5:=by rw[IntKind.wrap_i64];omega
   clear w0 w1 w2 w3 w4 n0 n1 n2 n3 e1 e2 e3 e4 g1 g2 g3 g4 f1 f2 f3 f4 HPB CQ HG HO HY
   obtain⟨L,hL⟩: ∃L,G.length=L:=⟨_,rfl⟩
   have HLL:=hid hL
   rw[hL] at hG2 hG3 HOC ⊢
   clear hL
   go_wp2_with fail
   go_loopw [6,7] (fun s i wq=> ∃k:Nat,k<=L/\i= .int .i64 (k:Int)/\s= .bool (hasC (G.take k) rc)/\Hid (Below W.heap.size W wq)) (fun _ i _=>L - (intOf i).toNat)
   case atStart=>exact⟨0,by omega,rfl,rfl,hid (Below.refl _ _)⟩
   case round=>
    obtain⟨k,hk,rfl,rfl,HBQ⟩:=hrel
    obtain⟨⟨m0,m1,m2,m3,m4,m5⟩,mf⟩:=(HGC.out.later HBQ.out).bc4
    have hzq:=HZ.out.later HBQ.out
    have z0:=cell_at hzq 0
    have z1:=cell_at hzq 1
    have z2:=cell_at hzq 2
    have z3:=cell_at hzq 3
    have z4:=cell_at hzq 4
    have zf:=frozen_at hzq
    simp at z0 z1 z2 z3 z4
    have HZQ:=hid hzq
    clear hzq
    by_cases hlt:k<L
    ·have hkl:k<G.length:=by rw[HLL.out];exact hlt
     obtain⟨lb,lo,rfl,hc⟩:=HAT.out k hkl
     obtain⟨q0, -, -, -, -⟩:=hc _ HBQ.out
     have hs:=HST.out k hkl rc
     clear hc HAT HST
     generalize G[k].client =y at q0 hs
     generalize hasC (G.take k) rc=S at hs ⊢
     have hk0:(0:Int)<=(k:Int):=by omega
     have hk1:(k:Int)<(L:Int):=by omega
     cases S
     case true=>
      have HS2:=hid hs
      clear hs
      go_upto_region 12 with fail
      go_quiet (fail)
      go_wp2
      go_roundw
      case rel=>exact⟨k+1,by omega,by go_num,by rw[HS2.out];rfl,hid (below_drewB HBQ.out nq)⟩
      case measure=>simp [intOf];omega
     by_cases e:y=rc
     ·have d:(y==rc)=true:=by simpa using e
      rw[decide_eq_true e] at hs
      have HS2:=hid hs
      clear hs e
      go_upto_region 12 with fail
      go_quiet (fail)
      go_wp2
      go_roundw
      case rel=>exact⟨k+1,by omega,by go_num,by rw[HS2.out];rfl,hid (below_drewB HBQ.out nq)⟩
      case measure=>simp [intOf];omega
     ·have d:(y==rc)=false:=by simpa using e
      rw[decide_eq_false e] at hs
      have HS2:=hid hs
      clear hs e
      go_upto_region 12 with fail
      go_quiet (fail)
      go_wp2
      go_roundw
      case rel=>exact⟨k+1,by omega,by go_num,by rw[HS2.out];rfl,hid (below_drewB HBQ.out nq)⟩
      case measure=>simp [intOf];omega
    ·obtain rfl:k=L:=by omega
     have hT:G.take k=G:=by rw[<-HLL.out];exact List.take_length
     rw[hT]
     have HGQ:=hid (HGC.out.later HBQ.out)
     have HOQ:=hid (Rw.own_below HOC.out HBQ.out)
     clear hT HAT HST HGC HOC
     cases hS:hasC G rc
     case true=>
      have HFT:Hid (batG bs len F (I+5) G=T):=hid (by have q:=HF2.out;rw[if_pos hS] at q;exact q)
      clear hS
      obtain rfl:G.length=k:=HLL.out
      go_wp2
      go_wp2
      go_roundw
      case rel=>exact⟨I+5,G,.slice ua G.length uc,by omega,by omega,by go_num,by omega,HOK.out,HGQ,HOQ,hid ⟨F,HF1.out,HFT.out⟩⟩
      case measure=>simp [intOf];omega
     have HS2:=hid hS
     have HFT:Hid (batG bs len F (I+5) (G++ [⟨rc,rq,⟨rk,rs,rn⟩⟩])=T):=hid (by have q:=HF2.out;rw[if_neg (by rw[hS];exact Bool.false_ne_true)] at q;exact q)
     have hone:=cellsR_one ⟨rc,rq,⟨rk,rs,rn⟩⟩
     clear hS
     obtain rfl:G.length=k:=HLL.out
     go_wp2_with (at_builtin;refine wpList_append_one cellsR_length (by omega) rfl (.tmp 99) (.tmp 101) 38 rfl 71 i5 _ 48 Try.underlying38 hi5 h50 h51 h52 rfl #[.int .i64 rc,.int .i64 rq,.int .i64 rk,.int .i64 rs,.string (bstr rn)] ⟨rc,rq,⟨rk,rs,rn⟩⟩ rfl hone G (A+1) (A+1) wr _ rfl rfl HOQ.out (by unfold maxLen;omega) (by omega) (get_ltB HGQ.out.box) (Below.refl _ _) (Nat.le_refl _) ?_;intro v6 w6 hown6 hb6 hat6;have HG6:=hid (HGQ.out.below1 hb6);have HO6:=hid hown6;obtain⟨va,vc,rfl⟩:=Rw.own_form hown6;obtain⟨⟨z0,z1,z2,z3,z4,z5⟩,zf⟩:=HG6.out.bc4)
     go_roundw
     case rel=>exact⟨I+5,G++ [⟨rc,rq,⟨rk,rs,rn⟩⟩],_,by omega,by omega,by go_num,by simp;omega,okR_push (r:=⟨rc,rq,⟨rk,rs,rn⟩⟩) [] HOK.out HRM.out (by rw[List.nil_append];exact HS2.out),hid (HG6.out.list _),hid (by have q:=own_box HO6.out (Nat.lt_succ_self _) (.slice va (G.length+1) vc);simpa only[List.length_append,List.length_singleton] using q),hid ⟨F,HF1.out,HFT.out⟩⟩
     case measure=>simp [intOf];omega
end Cm
end Go.Proofs.Ytbpmfjjbfiiiaaa
