/- Texts laid together by program. -/
import Derived.Test.YtlnbmblbeaodcaaGreatQS24
import Derived.Test.YtlnbmblbeaodcaaGreatQS28
/- The developers' writer of package snap: a state. -/
set_option linter.unusedVariables false
set_option maxRecDepth 8000
set_option linter.unusedSimpArgs false
namespace Go.Proofs.YtlnbmblbeaodcaaGreat
open Lib (hid)
open Go.RowKit
namespace Cm
variable {α : Type}
def lockB (k:LockC):List UInt8:=bytesLock k.val
def memoB (z:MemC):List UInt8:=bytesA z.m
theorem take_flat (f:α->List UInt8) (l:List α) (j:Nat) (h:j<l.length):(l.take (j+1)).flatMap f=(l.take j).flatMap f++f l[j]:=by
 rw[List.take_succ_eq_append_getElem h,List.flatMap_append]
 simp
theorem flat_few (f:α->List UInt8): ∀l:List α,(∀x∈l,(f x).length <=1000)->(l.flatMap f).length <=1000*l.length
 | [],_=>Nat.le_refl _
 | x::l,h=>by
  have h1:=flat_few f l fun y hy=>h y (List.mem_cons_of_mem _ hy)
  have h2:=h x List.mem_cons_self
  rw[List.flatMap_cons,List.length_append,List.length_cons]
  omega
theorem take_few (f:α->List UInt8) (l:List α) (h: ∀x∈l,(f x).length <=1000) (hl:l.length<=8) (j:Nat):((l.take j).flatMap f).length <=8000:=by
 have h1:=flat_few f (l.take j) fun x hx=>h x (List.mem_of_mem_take hx)
 have h2:(l.take j).length <=l.length:=by rw[List.length_take];omega
 omega
theorem ses_few (x:SesV):(bytesSes x).length <=1000:=by simp [bytesSes,be8_length]
theorem lock_few (k:LockV) (h:oneK k=true):(bytesLock k).length <=1000:=by
 unfold oneK at h
 simp only[Bool.and_eq_true] at h
 obtain⟨hn,hc,ht,hl,_⟩:=h
 have h1:=name_len _ hn
 have h2:=((rightL_iff _).1 hl).1
 simp [bytesLock,be8_length,lineB_length]
 omega
theorem memo_few (m:AnsV) (h:mayA m=true):(bytesA m).length <=1000:=by
 have:=held_few m h
 rw[bytesA_length]
 omega
set_option maxHeartbeats 2000000 in
theorem SnapPutState (w0:World) (g:Nat) (bs:List UInt8) (w:World) (h:WB w0 g bs w) (x:StC) (hx:rightA x.v=true) (hr:RdSt w0 x) (hl:bs.length<=900000):
  Calls Tryz.prog 69 #[.pointer (some ⟨g,0,none⟩),stVal x] w fun e w'=>e= .returned (.tuple #[])/\WB w0 g (bs++bytesSt x.v) w'/\Kp w w':=by
 obtain⟨r1,r2,r3⟩:=hr
 have hx2:=hx
 unfold rightA at hx2
 simp only[Bool.and_eq_true] at hx2
 obtain⟨⟨h1,h2,h3,h4,h5,h6⟩, -, -⟩:=hx2
 unfold StC.v at*
 unfold stVal StC.sv StC.kv StC.mv at*
 obtain⟨ti,nu,tk,S,sa,sc,K,ka,kc,M,ma,mc⟩:=x
 dsimp only at*
 unfold highF at h1 h2 h3
 simp at h1 h2 h3
 obtain⟨n4,q4⟩:=(rightS_iff _).1 h4
 obtain⟨n5,q5⟩:=(rightK_iff _).1 h5
 have q6:=(rightM_iff _).1 h6
 have n6:=rm_few q6
 have e5:(vals K).length =K.length:=by simp [vals]
 have e6:(valsM M).length =M.length:=valsM_length M
 rw[e5] at n5
 rw[e6] at n6
 have oneK': ∀z∈K,oneK z.val=true:=fun z hz=>q5.one _ (List.mem_map.2 ⟨z,hz,rfl⟩)
 have mayM': ∀z∈M,mayA z.m=true:=fun z hz=>q6.may _ (List.mem_map.2 ⟨z,hz,rfl⟩)
 have C1:Hid (∀W bs,WB w0 g bs W->bs.length<=980000->Calls Tryz.prog 76 #[.pointer (some ⟨g,0,none⟩),.int .i64 ti] W fun e w'=>e= .returned (.tuple #[])/\WB w0 g (bs++be8 ti.toNat) w'/\Kp W w'):=fun W bs h hl=>SnapPutNum w0 g bs W h ti (by omega) (by omega) (by omega)
 have C2:Hid (∀W bs,WB w0 g bs W->bs.length<=980000->Calls Tryz.prog 76 #[.pointer (some ⟨g,0,none⟩),.int .i64 nu] W fun e w'=>e= .returned (.tuple #[])/\WB w0 g (bs++be8 nu.toNat) w'/\Kp W w'):=fun W bs h hl=>SnapPutNum w0 g bs W h nu (by omega) (by omega) (by omega)
 have C3:Hid (∀W bs,WB w0 g bs W->bs.length<=980000->Calls Tryz.prog 76 #[.pointer (some ⟨g,0,none⟩),.int .i64 tk] W fun e w'=>e= .returned (.tuple #[])/\WB w0 g (bs++be8 tk.toNat) w'/\Kp W w'):=fun W bs h hl=>SnapPutNum w0 g bs W h tk (by omega) (by omega) (by omega)
 have C4:Hid (∀W bs,WB w0 g bs W->bs.length<=980000->Calls Tryz.prog 133 #[.pointer (some ⟨g,0,none⟩),.int .i64 (S.length:Int)] W fun e w'=>e= .returned (.tuple #[])/\WB w0 g (bs++ [UInt8.ofNat S.length]) w'/\Kp W w'):=fun W bs h hl=>by
  have:=SnapPutByte w0 g bs W h (S.length:Int) (by omega) (by omega) (by omega)
  rwa [Int.toNat_natCast] at this
 have C5:Hid (∀W bs,WB w0 g bs W->bs.length<=980000->Calls Tryz.prog 133 #[.pointer (some ⟨g,0,none⟩),.int .i64 (K.length:Int)] W fun e w'=>e= .returned (.tuple #[])/\WB w0 g (bs++ [UInt8.ofNat K.length]) w'/\Kp W w'):=fun W bs h hl=>by
  have:=SnapPutByte w0 g bs W h (K.length:Int) (by omega) (by omega) (by omega)
  rwa [Int.toNat_natCast] at this
 have C6:Hid (∀W bs,WB w0 g bs W->bs.length<=980000->Calls Tryz.prog 133 #[.pointer (some ⟨g,0,none⟩),.int .i64 (M.length:Int)] W fun e w'=>e= .returned (.tuple #[])/\WB w0 g (bs++ [UInt8.ofNat M.length]) w'/\Kp W w'):=fun W bs h hl=>by
  have:=SnapPutByte w0 g bs W h (M.length:Int) (by omega) (by omega) (by omega)
  rwa [Int.toNat_natCast] at this
 have CS:Hid (∀j (hj:j<S.length),∀W bs,WB w0 g bs W->bs.length<=980000->Calls Tryz.prog 134 #[.pointer (some ⟨g,0,none⟩),.agg #[.int .i64 S[j].client,.int .i64 S[j].num,.int .i64 S[j].ren]] W fun e w'=>e= .returned (.tuple #[])/\WB w0 g (bs++bytesSes S[j]) w'/\Kp W w'):=fun j hj W bs h hl=>SnapPutSes w0 g bs W h S[j] (q4.one _ (List.getElem_mem hj)) (by omega)
 have CK:Hid (∀j (hj:j<K.length),∀W bs,WB w0 g bs W->bs.length<=980000->Calls Tryz.prog 135 #[.pointer (some ⟨g,0,none⟩),.agg #[.string (bstr K[j].name),.int .i64 K[j].holder,.int .i64 K[j].token,.slice K[j].la K[j].line.length K[j].lc]] W fun e w'=>e= .returned (.tuple #[])/\WB w0 g (bs++lockB K[j]) w'/\Kp W w'):=fun j hj W bs h hl=>SnapPutLock w0 g bs W h K[j] (oneK' _ (List.getElem_mem hj)) (r2.line _ (List.getElem_mem hj)) (by omega)
 have CM:Hid (∀j (hj:j<M.length),∀W bs,WB w0 g bs W->bs.length<=980000->Calls Tryz.prog 136 #[.pointer (some ⟨g,0,none⟩),.agg #[.int .i64 M[j].m.client,.int .i64 M[j].m.seq,.int .i64 M[j].m.rep.code,.int .i64 M[j].m.rep.session,.int .i64 M[j].m.rep.ahead,.slice M[j].ha M[j].m.rep.held.length M[j].hc]] W fun e w'=>e= .returned (.tuple #[])/\WB w0 g (bs++memoB M[j]) w'/\Kp W w'):=fun j hj W bs h hl=>SnapPutMemo w0 g bs W h M[j].m M[j].hv (mayM' _ (List.getElem_mem hj)) ((r3.held _ (List.getElem_mem hj)).later h.below) (by omega)
 have HS:=hid (fun i hi=>rds_at r1 i hi)
 have HKA:=hid (fun i hi=>rdk_at r2.row i hi)
 have HM:=hid (fun i hi=>rdm_at r3.row i hi)
 have TS:=hid (take_flat bytesSes S)
 have TK:=hid (take_flat lockB K)
 have TM:=hid (take_flat memoB M)
 have LS:=hid (take_few bytesSes S (fun z _=>ses_few z) (by omega))
 have LK:=hid (take_few lockB K (fun z hz=>lock_few _ (oneK' z hz)) (by omega))
 have LM:=hid (take_few memoB M (fun z hz=>memo_few _ (mayM' z hz)) (by omega))
 have hE:bs++bytesSt ⟨ti,nu,tk,S,vals K,valsM M⟩=bs++be8 ti.toNat++be8 nu.toNat++be8 tk.toNat++ [UInt8.ofNat S.length]++(S.take S.length).flatMap bytesSes++ [UInt8.ofNat K.length]++(K.take K.length).flatMap lockB++ [UInt8.ofNat M.length]++(M.take M.length).flatMap memoB:=by
  simp [bytesSt,vals,valsM,List.flatMap_map]
  rfl
 have HE:=hid hE
 have HN:=hid hl
 have HW:=hid h
 have m1:=r1.len
 have m2:=r2.row.len
 have m3:=r3.row.len
 clear hE hl h r1 r2 r3 h1 h2 h3 h4 h5 h6 q4 q5 q6 e5 e6 oneK' mayM' hx
 obtain⟨SL,hSL⟩: ∃SL,S.length=SL:=⟨_,rfl⟩
 obtain⟨KL,hKL⟩: ∃KL,K.length=KL:=⟨_,rfl⟩
 obtain⟨ML,hML⟩: ∃ML,M.length=ML:=⟨_,rfl⟩
 have HSL:=hid hSL
 have HKL:=hid hKL
 have HML:=hid hML
 rw[hSL] at n4 m1 C4 HE ⊢
 rw[hKL] at n5 m2 C5 HE ⊢
 rw[hML] at n6 m3 C6 HE ⊢
 clear hSL hKL hML
 go_enter Tryz.func69,Tryz.ntmps69
 go_upto_region 1 with fail
 have hst:=newAlloc w (.cells #[.int .i64 ti,.int .i64 nu,.int .i64 tk,.slice sa SL sc,.slice ka KL kc,.slice ma ML mc] 26)
 have HX:Hid ((w.alloc (.cells #[.int .i64 ti,.int .i64 nu,.int .i64 tk,.slice sa SL sc,.slice ka KL kc,.slice ma ML mc] 26)).heap[w.heap.size]?=some (Obj.cells #[.int .i64 ti,.int .i64 nu,.int .i64 tk,.slice sa SL sc,.slice ka KL kc,.slice ma ML mc] 26)):=hid (by show(w.heap.push _)[w.heap.size]?= _;simp)
 have HW:=hid (HW.out.later hst)
 have HK:=hid (Kp.of hst)
 generalize hW:w.alloc _=W at HX HW HK ⊢
 generalize w.heap.size=xb at HX ⊢
 clear hW hst
 have k0:=cell_atW HX.out 0
 have k1:=cell_atW HX.out 1
 have k2:=cell_atW HX.out 2
 have k3:=cell_atW HX.out 3
 have k4:=cell_atW HX.out 4
 have k5:=cell_atW HX.out 5
 simp only[List.getElem?_toArray,List.getElem?_cons_zero,List.getElem?_cons_succ] at k0 k1 k2 k3 k4 k5
 go_wp2_with fail
 refine(C1.out _ _ HW.out (by have:=HN.out;simp [be8_length];omega)).mono ?_
 rintro e v0 ⟨rfl,hw2,hk2⟩
 have HX:=hid (hk2 xb _ _ HX.out (by decide) (by decide))
 have HK:=hid (HK.out.step hk2)
 have HW:=hid hw2
 clear hw2 hk2 C1 k0 k1 k2 k3 k4 k5
 have k0:=cell_atW HX.out 0
 have k1:=cell_atW HX.out 1
 have k2:=cell_atW HX.out 2
 have k3:=cell_atW HX.out 3
 have k4:=cell_atW HX.out 4
 have k5:=cell_atW HX.out 5
 simp only[List.getElem?_toArray,List.getElem?_cons_zero,List.getElem?_cons_succ] at k0 k1 k2 k3 k4 k5
 go_wp2_with fail
 refine(C2.out _ _ HW.out (by have:=HN.out;simp [be8_length];omega)).mono ?_
 rintro e v1 ⟨rfl,hw2,hk2⟩
 have HX:=hid (hk2 xb _ _ HX.out (by decide) (by decide))
 have HK:=hid (HK.out.step hk2)
 have HW:=hid hw2
 clear hw2 hk2 C2 k0 k1 k2 k3 k4 k5
 have k0:=cell_atW HX.out 0
 have k1:=cell_atW HX.out 1
 have k2:=cell_atW HX.out 2
 have k3:=cell_atW HX.out 3
 have k4:=cell_atW HX.out 4
 have k5:=cell_atW HX.out 5
 simp only[List.getElem?_toArray,List.getElem?_cons_zero,List.getElem?_cons_succ] at k0 k1 k2 k3 k4 k5
 go_wp2_with fail
 refine(C3.out _ _ HW.out (by have:=HN.out;simp [be8_length];omega)).mono ?_
 rintro e v2 ⟨rfl,hw2,hk2⟩
 have HX:=hid (hk2 xb _ _ HX.out (by decide) (by decide))
 have HK:=hid (HK.out.step hk2)
 have HW:=hid hw2
 clear hw2 hk2 C3 k0 k1 k2 k3 k4 k5
 have k0:=cell_atW HX.out 0
 have k1:=cell_atW HX.out 1
 have k2:=cell_atW HX.out 2
 have k3:=cell_atW HX.out 3
 have k4:=cell_atW HX.out 4
 have k5:=cell_atW HX.out 5
 simp only[List.getElem?_toArray,List.getElem?_cons_zero,List.getElem?_cons_succ] at k0 k1 k2 k3 k4 k5
 go_wp2_with fail
 refine(C4.out _ _ HW.out (by have:=HN.out;simp [be8_length];omega)).mono ?_
 rintro e v3 ⟨rfl,hw2,hk2⟩
 have HX:=hid (hk2 xb _ _ HX.out (by decide) (by decide))
 have HK:=hid (HK.out.step hk2)
 have HW:=hid hw2
 clear hw2 hk2 C4 k0 k1 k2 k3 k4 k5
 obtain⟨B4,hB4⟩: ∃B4,bs++be8 ti.toNat++be8 nu.toNat++be8 tk.toNat++ [UInt8.ofNat SL]=B4:=⟨_,rfl⟩
 have hB5:B4.length<=910000:=by have:=HN.out;rw[<-hB4];simp [be8_length];omega
 rw[hB4] at HW HE
 have HN:=hid hB5
 clear hB4 hB5
 have k0:=cell_atW HX.out 0
 have k1:=cell_atW HX.out 1
 have k2:=cell_atW HX.out 2
 have k3:=cell_atW HX.out 3
 have k4:=cell_atW HX.out 4
 have k5:=cell_atW HX.out 5
 simp only[List.getElem?_toArray,List.getElem?_cons_zero,List.getElem?_cons_succ] at k0 k1 k2 k3 k4 k5
 go_wp2_with fail
 clear k0 k1 k2 k3 k4 k5
 go_loopw [30] (fun i wr=> ∃j:Nat,j<=SL/\i= .int .i64 j/\Hid (WB w0 g (B4++(S.take j).flatMap bytesSes) wr)/\Hid (Kp w wr)/\Hid (wr.heap[xb]?=some (Obj.cells #[.int .i64 ti,.int .i64 nu,.int .i64 tk,.slice sa SL sc,.slice ka KL kc,.slice ma ML mc] 26))) (fun i _=>SL - (intOf i).toNat)
 case atStart=>exact⟨0,by omega,rfl,hid (by have:=HW.out;simpa using this),HK,HX⟩
 case round=>
  obtain⟨j,hj,rfl,HW,HK,HX⟩:=hrel
  by_cases hlt:j<SL
  ·have hjl:j<S.length:=by rw[HSL.out];exact hlt
   obtain⟨b',o',rfl,hc⟩:=HS.out j hjl
   obtain⟨q0,q1,q2⟩:=hc _ HW.out.below
   have CX:=hid (CS.out j hjl)
   have HT:=hid (TS.out j hjl)
   clear hc
   try unfold LockC.lv at*
   try unfold MemC.hv at*
   generalize S[j]'hjl=y at q0 q1 q2 CX HT
   clear hjl
   obtain⟨yc,yn,yr⟩:=y
   dsimp only[LockC.val] at q0 q1 q2 CX HT
   go_upto_region 8 with fail
   have hst:=newAlloc wr (.cells #[.int .i64 yc,.int .i64 yn,.int .i64 yr] 73)
   have hq:(wr.alloc (.cells #[.int .i64 yc,.int .i64 yn,.int .i64 yr] 73)).heap[wr.heap.size]?=some (Obj.cells #[.int .i64 yc,.int .i64 yn,.int .i64 yr] 73):=by show(wr.heap.push _)[wr.heap.size]?= _;simp
   have HW:=hid (HW.out.later hst)
   have HK:=hid (HK.out.step (Kp.of hst))
   have HX:=hid ((hst.block xb (get_ltW HX.out)).trans HX.out)
   clear q0 q1 q2
   generalize hWW:wr.alloc _=W9 at hq HW HK HX ⊢
   generalize wr.heap.size=yb at hq ⊢
   clear hWW hst
   have y0:=cell_atW hq 0
   have y1:=cell_atW hq 1
   have y2:=cell_atW hq 2
   simp only[List.getElem?_toArray,List.getElem?_cons_zero,List.getElem?_cons_succ] at y0 y1 y2
   clear hq
   go_wp2_with fail
   refine(CX.out _ _ HW.out (by have:=HN.out;have:=LS.out j;rw[List.length_append];omega)).mono ?_
   rintro e v9 ⟨rfl,hw2,hk2⟩
   have HX:=hid (hk2 xb _ _ HX.out (by decide) (by decide))
   have HK:=hid (HK.out.step hk2)
   have HW:=hid hw2
   clear hw2 hk2 CX y0 y1 y2
   go_wp2_with fail
   go_roundw
   case rel=>exact⟨j+1,by omega,by go_num,hid (by rw[HT.out,<-List.append_assoc];exact HW.out),HK,HX⟩
   case measure=>simp [intOf];omega
  ·obtain rfl:SL=j:=by omega
   clear CS HS TS
   have k0:=cell_atW HX.out 0
   have k1:=cell_atW HX.out 1
   have k2:=cell_atW HX.out 2
   have k3:=cell_atW HX.out 3
   have k4:=cell_atW HX.out 4
   have k5:=cell_atW HX.out 5
   simp only[List.getElem?_toArray,List.getElem?_cons_zero,List.getElem?_cons_succ] at k0 k1 k2 k3 k4 k5
   go_wp2_with fail
   refine(C5.out _ _ HW.out (by have:=HN.out;have:=LS.out SL;rw[List.length_append];omega)).mono ?_
   rintro e v5 ⟨rfl,hw2,hk2⟩
   have HX:=hid (hk2 xb _ _ HX.out (by decide) (by decide))
   have HK:=hid (HK.out.step hk2)
   have HW:=hid hw2
   clear hw2 hk2 C5 k0 k1 k2 k3 k4 k5
   obtain⟨B5,hB4⟩: ∃B5,B4++(S.take SL).flatMap bytesSes++ [UInt8.ofNat KL]=B5:=⟨_,rfl⟩
   have hB5:B5.length<=920000:=by have:=HN.out;have:=LS.out SL;rw[<-hB4];rw[List.length_append,List.length_append,List.length_singleton];omega
   rw[hB4] at HW HE
   have HN:=hid hB5
   clear hB4 hB5
   have k0:=cell_atW HX.out 0
   have k1:=cell_atW HX.out 1
   have k2:=cell_atW HX.out 2
   have k3:=cell_atW HX.out 3
   have k4:=cell_atW HX.out 4
   have k5:=cell_atW HX.out 5
   simp only[List.getElem?_toArray,List.getElem?_cons_zero,List.getElem?_cons_succ] at k0 k1 k2 k3 k4 k5
   go_wp2_with fail
   clear k0 k1 k2 k3 k4 k5
   go_loopw [46] (fun i wr=> ∃j:Nat,j<=KL/\i= .int .i64 j/\Hid (WB w0 g (B5++(K.take j).flatMap lockB) wr)/\Hid (Kp w wr)/\Hid (wr.heap[xb]?=some (Obj.cells #[.int .i64 ti,.int .i64 nu,.int .i64 tk,.slice sa SL sc,.slice ka KL kc,.slice ma ML mc] 26))) (fun i _=>KL - (intOf i).toNat)
   case atStart=>exact⟨0,by omega,rfl,hid (by have:=HW.out;simpa using this),HK,HX⟩
   case round=>
    obtain⟨j,hj,rfl,HW,HK,HX⟩:=hrel
    by_cases hlt:j<KL
    ·have hjl:j<K.length:=by rw[HKL.out];exact hlt
     obtain⟨b',o',rfl,hc⟩:=HKA.out j hjl
     obtain⟨q0,q1,q2,q3⟩:=hc _ HW.out.below
     have CX:=hid (CK.out j hjl)
     have HT:=hid (TK.out j hjl)
     clear hc
     try unfold LockC.lv at*
     try unfold MemC.hv at*
     generalize K[j]'hjl=y at q0 q1 q2 q3 CX HT
     clear hjl
     obtain⟨yn,yh,yt,yl,yla,ylc⟩:=y
     dsimp only[LockC.val] at q0 q1 q2 q3 CX HT
     go_upto_region 14 with fail
     have hst:=newAlloc wr (.cells #[.string (bstr yn),.int .i64 yh,.int .i64 yt,.slice yla yl.length ylc] 71)
     have hq:(wr.alloc (.cells #[.string (bstr yn),.int .i64 yh,.int .i64 yt,.slice yla yl.length ylc] 71)).heap[wr.heap.size]?=some (Obj.cells #[.string (bstr yn),.int .i64 yh,.int .i64 yt,.slice yla yl.length ylc] 71):=by show(wr.heap.push _)[wr.heap.size]?= _;simp
     have HW:=hid (HW.out.later hst)
     have HK:=hid (HK.out.step (Kp.of hst))
     have HX:=hid ((hst.block xb (get_ltW HX.out)).trans HX.out)
     clear q0 q1 q2 q3
     generalize hWW:wr.alloc _=W9 at hq HW HK HX ⊢
     generalize wr.heap.size=yb at hq ⊢
     clear hWW hst
     have y0:=cell_atW hq 0
     have y1:=cell_atW hq 1
     have y2:=cell_atW hq 2
     have y3:=cell_atW hq 3
     simp only[List.getElem?_toArray,List.getElem?_cons_zero,List.getElem?_cons_succ] at y0 y1 y2 y3
     clear hq
     go_wp2_with fail
     refine(CX.out _ _ HW.out (by have:=HN.out;have:=LK.out j;rw[List.length_append];omega)).mono ?_
     rintro e v9 ⟨rfl,hw2,hk2⟩
     have HX:=hid (hk2 xb _ _ HX.out (by decide) (by decide))
     have HK:=hid (HK.out.step hk2)
     have HW:=hid hw2
     clear hw2 hk2 CX y0 y1 y2 y3
     go_wp2_with fail
     go_roundw
     case rel=>exact⟨j+1,by omega,by go_num,hid (by rw[HT.out,<-List.append_assoc];exact HW.out),HK,HX⟩
     case measure=>simp [intOf];omega
    ·obtain rfl:KL=j:=by omega
     clear CK HKA TK
     have k0:=cell_atW HX.out 0
     have k1:=cell_atW HX.out 1
     have k2:=cell_atW HX.out 2
     have k3:=cell_atW HX.out 3
     have k4:=cell_atW HX.out 4
     have k5:=cell_atW HX.out 5
     simp only[List.getElem?_toArray,List.getElem?_cons_zero,List.getElem?_cons_succ] at k0 k1 k2 k3 k4 k5
     go_wp2_with fail
     refine(C6.out _ _ HW.out (by have:=HN.out;have:=LK.out KL;rw[List.length_append];omega)).mono ?_
     rintro e v6 ⟨rfl,hw2,hk2⟩
     have HX:=hid (hk2 xb _ _ HX.out (by decide) (by decide))
     have HK:=hid (HK.out.step hk2)
     have HW:=hid hw2
     clear hw2 hk2 C6 k0 k1 k2 k3 k4 k5
     obtain⟨B6,hB4⟩: ∃B6,B5++(K.take KL).flatMap lockB++ [UInt8.ofNat ML]=B6:=⟨_,rfl⟩
     have hB5:B6.length<=930000:=by have:=HN.out;have:=LK.out KL;rw[<-hB4];rw[List.length_append,List.length_append,List.length_singleton];omega
     rw[hB4] at HW HE
     have HN:=hid hB5
     clear hB4 hB5
     have k0:=cell_atW HX.out 0
     have k1:=cell_atW HX.out 1
     have k2:=cell_atW HX.out 2
     have k3:=cell_atW HX.out 3
     have k4:=cell_atW HX.out 4
     have k5:=cell_atW HX.out 5
     simp only[List.getElem?_toArray,List.getElem?_cons_zero,List.getElem?_cons_succ] at k0 k1 k2 k3 k4 k5
     go_wp2_with fail
     clear k0 k1 k2 k3 k4 k5
     go_loopw [62] (fun i wr=> ∃j:Nat,j<=ML/\i= .int .i64 j/\Hid (WB w0 g (B6++(M.take j).flatMap memoB) wr)/\Hid (Kp w wr)) (fun i _=>ML - (intOf i).toNat)
     case atStart=>exact⟨0,by omega,rfl,hid (by have:=HW.out;simpa using this),HK⟩
     case round=>
      obtain⟨j,hj,rfl,HW,HK⟩:=hrel
      by_cases hlt:j<ML
      ·have hjl:j<M.length:=by rw[HML.out];exact hlt
       obtain⟨b',o',rfl,hc⟩:=HM.out j hjl
       obtain⟨q0,q1,q2,q3,q4,q5⟩:=hc _ HW.out.below
       have CX:=hid (CM.out j hjl)
       have HT:=hid (TM.out j hjl)
       clear hc
       try unfold LockC.lv at*
       try unfold MemC.hv at*
       generalize M[j]'hjl=y at q0 q1 q2 q3 q4 q5 CX HT
       clear hjl
       obtain⟨⟨yc,yq,⟨rk,rs,ra,rh⟩⟩,yla,ylc⟩:=y
       dsimp only[LockC.val] at q0 q1 q2 q3 q4 q5 CX HT
       go_upto_region 20 with fail
       have hst:=newAlloc wr (.cells #[.int .i64 yc,.int .i64 yq,.int .i64 rk,.int .i64 rs,.int .i64 ra,.slice yla rh.length ylc] 76)
       have hq:(wr.alloc (.cells #[.int .i64 yc,.int .i64 yq,.int .i64 rk,.int .i64 rs,.int .i64 ra,.slice yla rh.length ylc] 76)).heap[wr.heap.size]?=some (Obj.cells #[.int .i64 yc,.int .i64 yq,.int .i64 rk,.int .i64 rs,.int .i64 ra,.slice yla rh.length ylc] 76):=by show(wr.heap.push _)[wr.heap.size]?= _;simp
       have HW:=hid (HW.out.later hst)
       have HK:=hid (HK.out.step (Kp.of hst))
       clear q0 q1 q2 q3 q4 q5
       generalize hWW:wr.alloc _=W9 at hq HW HK  ⊢
       generalize wr.heap.size=yb at hq ⊢
       clear hWW hst
       have y0:=cell_atW hq 0
       have y1:=cell_atW hq 1
       have y2:=cell_atW hq 2
       have y3:=cell_atW hq 3
       have y4:=cell_atW hq 4
       have y5:=cell_atW hq 5
       simp only[List.getElem?_toArray,List.getElem?_cons_zero,List.getElem?_cons_succ] at y0 y1 y2 y3 y4 y5
       clear hq
       go_wp2_with fail
       refine(CX.out _ _ HW.out (by have:=HN.out;have:=LM.out j;rw[List.length_append];omega)).mono ?_
       rintro e v9 ⟨rfl,hw2,hk2⟩
       have HK:=hid (HK.out.step hk2)
       have HW:=hid hw2
       clear hw2 hk2 CX y0 y1 y2 y3 y4 y5
       go_wp2_with fail
       go_roundw
       case rel=>exact⟨j+1,by omega,by go_num,hid (by rw[HT.out,<-List.append_assoc];exact HW.out),HK⟩
       case measure=>simp [intOf];omega
      ·obtain rfl:ML=j:=by omega
       go_wp2_with fail
       go_end0
       exact⟨rfl,by rw[HE.out];exact HW.out,HK.out⟩
end Cm
end Go.Proofs.YtlnbmblbeaodcaaGreat
