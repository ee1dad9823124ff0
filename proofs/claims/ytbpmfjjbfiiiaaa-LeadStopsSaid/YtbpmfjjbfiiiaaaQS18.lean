/- Texts laid together by program. -/
import Derived.Test.YtbpmfjjbfiiiaaaQS9
import Derived.Lib.QuietBelow
/- The document's Walk, SameBatches. -/
set_option linter.unusedVariables false
set_option maxRecDepth 8000
set_option linter.unusedSimpArgs false
namespace Go.Proofs.Ytbpmfjjbfiiiaaa
open Lib (hid)
open Go.RowKit
namespace Pl
open Cm Ac

set_option maxHeartbeats 4000000 in
theorem RefWalk_any (tv ts time slot:Int) (v:Value) (L:List BatC) (w:World) (h:RdX 6 cellsB w v L) (hN:L.length<=1000):
  Calls Try.prog 45 #[tipVal tv ts,.int .i64 time,.int .i64 slot,v] w (WalksT (walkF ⟨tv,ts,time⟩ (startF slot) (valsB L)) w):=by
 have CN:=hid (fun w=>high12_any slot 0 w)
 obtain⟨st,hst⟩: ∃st,startF slot=st:=⟨_,rfl⟩
 obtain⟨hs0,hs1⟩:=startF_bounds slot
 rw[hst] at hs0 hs1 ⊢
 have hsf:st=if highF slot 0 then slot else 0:=by rw[<-hst];rfl
 have hl0:=valsB_length L
 obtain⟨a,cap,rfl⟩:=h.form
 obtain⟨_,_,hv,hlc,hcm, -⟩:=h.ex
 cases hv
 have HA:=hid (fun i hi=>rdb_at h i hi)
 have HG:=hid (fun i (hi:i<L.length) hi'=>valsB_get L i hi hi')
 have HWV:=hid (fun s t i h hv=>walk_valid s t (valsB L) i h hv)
 have HWN:=hid (fun s t i h hv=>walk_not s t (valsB L) i h hv)
 clear h hst
 generalize valsB L=V at HG HWV HWN hl0 ⊢
 obtain⟨N,hn⟩: ∃N,L.length=N:=⟨_,rfl⟩
 have HN:=hid hn
 rw[hn] at hlc hl0 hN ⊢
 have HV:=hid hl0
 clear hn hl0
 have h0:HeapAt ((w.alloc (tipObj tv ts)).alloc (tipObj 0 0)) w.heap.size (tipObj tv ts):=HeapAt.later (alloc_atB _ _ _ rfl) (newAlloc _ _)
 have h1:HeapAt ((w.alloc (tipObj tv ts)).alloc (tipObj 0 0)) (w.heap.size+1) (tipObj 0 0):=alloc_atB _ _ _ (by simp)
 have H0:=hid h0
 have H1:=hid h1
 have HB0:=hid (stepAlloc (newAlloc w (tipObj tv ts)) (tipObj 0 0))
 have HS0:=hid hs0
 have HS1:=hid hs1
 clear h0 h1 hs0 hs1
 unfold tipVal WalksT
 unfold tipObj at H0 H1 HB0
 generalize highF slot 0=HF at CN hsf
 cases HF
 case false=>
  simp only[Bool.false_eq_true,if_false] at hsf
  subst hsf
  go_enter Try.func45,Try.ntmps45
  go_upto_region 3 with (go_at_call 54;refine(CN.out _).mono ?_;rintro e w1 ⟨rfl,rfl⟩)
  generalize hW:(w.alloc (.cells #[.int .i64 tv,.int .i64 ts] 28)).alloc (.cells #[.int .i64 0,.int .i64 0] 28)=W at H0 H1 HB0 ⊢
  clear hW CN
  go_wp2
  go_loopw [1,10,14] (fun x i _ wr=> ∃(j:Nat) (T p q:Int),j<=N/\i= .int .i64 (j:Int)/\x= .int .i64 T/\Hid (Below w.heap.size w wr)/\Hid (HeapAt wr w.heap.size (tipObj p q))/\Hid (HeapAt wr (w.heap.size+1) (tipObj 0 0))/\Hid (walkF ⟨tv,ts,time⟩ 0 V=walkF ⟨p,q,T⟩ (j:Int) (V.drop j))) (fun _ i _ _=>N - (intOf i).toNat)
  case atStart=>exact⟨0,time,tv,ts,by omega,rfl,rfl,HB0,H0,H1,hid (by simp)⟩
  case round=>
   obtain⟨j,T,p,q,hj,rfl,rfl,HB,HT,HZ,HWW⟩:=hrel
   by_cases hlt:j<N
   case neg=>
    obtain rfl:j=N:=by omega
    have hh:=HT.out
    have t0:=cell_at hh 0
    have t1:=cell_at hh 1
    have tf:=frozen_at hh
    have hz:=HZ.out
    have z0:=cell_at hz 0
    have z1:=cell_at hz 1
    have zf:=frozen_at hz
    simp at t0 t1 z0 z1
    have HE:=hid (HWW.out.trans (by rw[List.drop_eq_nil_of_le (by rw[HV.out];exact Nat.le_refl _)];rfl:_=(⟨p,q,T⟩:TipV)))
    clear hh hz
    go_wp2
    refine bodyPost_ret (by simp [results,Try.results45,go_sem,z0,z1]<;>rfl) rfl ⟨by rw[HE.out];rfl,(HB.out.setCell (by show w.heap.size<=w.heap.size+1;omega) _).setCell (by show w.heap.size<=w.heap.size+1;omega) _⟩
   have hjl:j<L.length:=by rw[HN.out];exact hlt
   have hjv:j<V.length:=by rw[HV.out];exact hlt
   obtain⟨b,o,rfl,hc⟩:=HA.out j hjl
   obtain⟨q0,q1,q2,q3,q4,q5⟩:=hc _ HB.out
   have hv1:=HWV.out ⟨p,q,T⟩ (j:Int) j hjv
   have hv2:=HWN.out ⟨p,q,T⟩ (j:Int) j hjv
   rw[HG.out j hjl hjv] at hv1 hv2
   have hcc: ∀wx,Below wr.heap.size wr wx->wx.cell? ⟨b,o+j*6+1,none⟩=some (.int .i64 L[j].bat.view)/\wx.cell? ⟨b,o+j*6+4,none⟩=some (.int .i64 L[j].bat.time):=fun wx hb=>by
    obtain⟨-,c1, -, -,c4, -⟩:=hc wx (step HB.out hb)
    exact⟨c1,c4⟩
   have hob: ∀wx,Below wr.heap.size wr wx->b<w.heap.size:=fun wx hb=>lt_of_cell (hc w (Below.refl _ _)).1
   obtain⟨x,hx⟩: ∃x,L[j]=x:=⟨_,rfl⟩
   rw[hx] at q0 q1 q2 q3 q4 q5 hv1 hv2 hcc
   have hbw:=hob wr (Below.refl _ _)
   clear hc hx hob
   obtain⟨⟨xf,xv,xtv,xts,xt,xr⟩,xa,xc⟩:=x
   unfold BatC.u at q5
   dsimp only at q0 q1 q2 q3 q4 q5 hv1 hv2 hcc
   have CV:=hid (fun w=>RefValidB_any ⟨xf,xv,xtv,xts,xt,xr⟩ (.slice xa xr.length xc) p q w)
   unfold batVal tipVal at CV
   dsimp only at CV
   generalize validF p q ⟨xf,xv,xtv,xts,xt,xr⟩=B at CV hv1 hv2
   generalize xr.length=xn at*
   have HV1:=hid hv1
   have HV2:=hid hv2
   have HCC:=hid hcc
   have hh:=HT.out
   have t0:=cell_at hh 0
   have t1:=cell_at hh 1
   simp at t0 t1
   have HTT:=hid (fun wx (hb:Below wr.heap.size wr wx)=>(by
    have hh:=HT.out.later hb
    exact⟨⟨cell_at hh 0,cell_at hh 1⟩,frozen_at hh⟩:(wx.cell? ⟨w.heap.size,0,none⟩=some (.int .i64 p)/\wx.cell? ⟨w.heap.size,1,none⟩=some (.int .i64 q))/\ ∀k,wx.frozen? ⟨w.heap.size,k,none⟩=false))
   have hj0:(0:Int)<=(j:Int):=by omega
   have hj1:(j:Int)<(N:Int):=by omega
   have ew:IntKind.i64.wrap (j:Int)=(j:Int):=by have:=HS0.out;have:=HS1.out;rw[IntKind.wrap_i64];omega
   obtain⟨M,hM⟩: ∃M:Int,(if T<xt then xt else T)=M:=⟨_,rfl⟩
   have HM:=hid (show max T xt=M by rw[<-hM,max_eq])
   have HS1':Hid (((j+1:Nat):Int)=(j:Int)+1):=hid (by omega)
   clear hv1 hv2 hjl hjv hh hcc
   have hne: ¬b=w.heap.size:=by omega
   have hne2: ¬w.heap.size=b:=by omega
   clear hbw
   go_upto_region 6 with fail
   have k0:=cell_regrown q0
   have k1:=cell_regrown q1
   have k2:=cell_regrown q2
   have k3:=cell_regrown q3
   have k4:=cell_regrown q4
   have k5:=cell_regrown q5
   have l0:=cell_regrown t0
   have l1:=cell_regrown t1
   have D1:=hid (fun d os=>Calls.regrown_of (w:=wr) (d:=d) (os:=os) (CV.out _))
   clear CV
   refine wp_region_quiet_below (by kernel_rfl) (by kernel_rfl) ?_
   repeat (go_big_quiet_step (fail))
   go_big_quiet_step (exact D1.out _ _)
   repeat (go_big_quiet_step (fail))
   refine wpQuiet_nil ?_
   intro wz hw'
   have HB2:Hid (Below wr.heap.size wr wz):=hid (by obtain⟨⟨dq,osq⟩,hw2⟩:=hw';rw[hw2];exact below_regrown wr dq osq)
   clear hw' k0 k1 k2 k3 k4 k5 l0 l1 D1 q0 q1 q2 q3 q4 q5 t0 t1
   obtain⟨⟨t0,t1⟩,tf⟩:=HTT.out _ HB2.out
   obtain⟨c1,c4⟩:=HCC.out _ HB2.out
   cases B
   case false=>
    have HF:=hid (HV2.out rfl)
    go_wp2
    go_roundw
    case rel=>exact⟨j+1,T,p,q,by omega,by go_num,rfl,hid (step HB.out HB2.out),hid (HT.out.later HB2.out),hid (HZ.out.later HB2.out),hid (by rw[HWW.out,HF.out,HS1'.out])⟩
    case measure=>simp [intOf];omega
   have HF:=hid (HV1.out rfl)
   go_wp2
   go_roundw
   case rel=>exact⟨j+1,M,xv,(j:Int),by omega,by go_num,rfl,hid (((step HB.out HB2.out).setCell (p:=⟨w.heap.size,0,none⟩) (Nat.le_refl _) _).setCell (p:=⟨w.heap.size,1,none⟩) (Nat.le_refl _) _),hid (set_atB (set_atB (HT.out.later HB2.out) 0 (.int .i64 xv)) 1 (.int .i64 (j:Int))),hid (((HZ.out.later HB2.out).other (by omega) _).other (by omega) _),hid (by rw[HWW.out,HF.out,HS1'.out];show walkF ⟨xv,(j:Int),max T xt⟩ _ _= _;rw[HM.out])⟩
   case measure=>simp [intOf];omega
 case true=>
  simp only[if_true] at hsf
  subst hsf
  go_enter Try.func45,Try.ntmps45
  go_upto_region 3 with (go_at_call 54;refine(CN.out _).mono ?_;rintro e w1 ⟨rfl,rfl⟩)
  generalize hW:(w.alloc (.cells #[.int .i64 tv,.int .i64 ts] 28)).alloc (.cells #[.int .i64 0,.int .i64 0] 28)=W at H0 H1 HB0 ⊢
  clear hW CN
  go_wp2
  go_loopw [1,10,14] (fun x i _ wr=> ∃(j:Nat) (T p q:Int),j<=N/\i= .int .i64 (j:Int)/\x= .int .i64 T/\Hid (Below w.heap.size w wr)/\Hid (HeapAt wr w.heap.size (tipObj p q))/\Hid (HeapAt wr (w.heap.size+1) (tipObj 0 0))/\Hid (walkF ⟨tv,ts,time⟩ st V=walkF ⟨p,q,T⟩ (st+(j:Int)) (V.drop j))) (fun _ i _ _=>N - (intOf i).toNat)
  case atStart=>exact⟨0,time,tv,ts,by omega,rfl,rfl,HB0,H0,H1,hid (by simp)⟩
  case round=>
   obtain⟨j,T,p,q,hj,rfl,rfl,HB,HT,HZ,HWW⟩:=hrel
   by_cases hlt:j<N
   case neg=>
    obtain rfl:j=N:=by omega
    have hh:=HT.out
    have t0:=cell_at hh 0
    have t1:=cell_at hh 1
    have tf:=frozen_at hh
    have hz:=HZ.out
    have z0:=cell_at hz 0
    have z1:=cell_at hz 1
    have zf:=frozen_at hz
    simp at t0 t1 z0 z1
    have HE:=hid (HWW.out.trans (by rw[List.drop_eq_nil_of_le (by rw[HV.out];exact Nat.le_refl _)];rfl:_=(⟨p,q,T⟩:TipV)))
    clear hh hz
    go_wp2
    refine bodyPost_ret (by simp [results,Try.results45,go_sem,z0,z1]<;>rfl) rfl ⟨by rw[HE.out];rfl,(HB.out.setCell (by show w.heap.size<=w.heap.size+1;omega) _).setCell (by show w.heap.size<=w.heap.size+1;omega) _⟩
   have hjl:j<L.length:=by rw[HN.out];exact hlt
   have hjv:j<V.length:=by rw[HV.out];exact hlt
   obtain⟨b,o,rfl,hc⟩:=HA.out j hjl
   obtain⟨q0,q1,q2,q3,q4,q5⟩:=hc _ HB.out
   have hv1:=HWV.out ⟨p,q,T⟩ (st+(j:Int)) j hjv
   have hv2:=HWN.out ⟨p,q,T⟩ (st+(j:Int)) j hjv
   rw[HG.out j hjl hjv] at hv1 hv2
   have hcc: ∀wx,Below wr.heap.size wr wx->wx.cell? ⟨b,o+j*6+1,none⟩=some (.int .i64 L[j].bat.view)/\wx.cell? ⟨b,o+j*6+4,none⟩=some (.int .i64 L[j].bat.time):=fun wx hb=>by
    obtain⟨-,c1, -, -,c4, -⟩:=hc wx (step HB.out hb)
    exact⟨c1,c4⟩
   have hob: ∀wx,Below wr.heap.size wr wx->b<w.heap.size:=fun wx hb=>lt_of_cell (hc w (Below.refl _ _)).1
   obtain⟨x,hx⟩: ∃x,L[j]=x:=⟨_,rfl⟩
   rw[hx] at q0 q1 q2 q3 q4 q5 hv1 hv2 hcc
   have hbw:=hob wr (Below.refl _ _)
   clear hc hx hob
   obtain⟨⟨xf,xv,xtv,xts,xt,xr⟩,xa,xc⟩:=x
   unfold BatC.u at q5
   dsimp only at q0 q1 q2 q3 q4 q5 hv1 hv2 hcc
   have CV:=hid (fun w=>RefValidB_any ⟨xf,xv,xtv,xts,xt,xr⟩ (.slice xa xr.length xc) p q w)
   unfold batVal tipVal at CV
   dsimp only at CV
   generalize validF p q ⟨xf,xv,xtv,xts,xt,xr⟩=B at CV hv1 hv2
   generalize xr.length=xn at*
   have HV1:=hid hv1
   have HV2:=hid hv2
   have HCC:=hid hcc
   have hh:=HT.out
   have t0:=cell_at hh 0
   have t1:=cell_at hh 1
   simp at t0 t1
   have HTT:=hid (fun wx (hb:Below wr.heap.size wr wx)=>(by
    have hh:=HT.out.later hb
    exact⟨⟨cell_at hh 0,cell_at hh 1⟩,frozen_at hh⟩:(wx.cell? ⟨w.heap.size,0,none⟩=some (.int .i64 p)/\wx.cell? ⟨w.heap.size,1,none⟩=some (.int .i64 q))/\ ∀k,wx.frozen? ⟨w.heap.size,k,none⟩=false))
   have hj0:(0:Int)<=(j:Int):=by omega
   have hj1:(j:Int)<(N:Int):=by omega
   have ew:IntKind.i64.wrap (st+(j:Int))=(st+(j:Int)):=by have:=HS0.out;have:=HS1.out;rw[IntKind.wrap_i64];omega
   obtain⟨M,hM⟩: ∃M:Int,(if T<xt then xt else T)=M:=⟨_,rfl⟩
   have HM:=hid (show max T xt=M by rw[<-hM,max_eq])
   have HS1':Hid (st+((j+1:Nat):Int)=(st+(j:Int))+1):=hid (by omega)
   clear hv1 hv2 hjl hjv hh hcc
   have hne: ¬b=w.heap.size:=by omega
   have hne2: ¬w.heap.size=b:=by omega
   clear hbw
   go_upto_region 6 with fail
   have k0:=cell_regrown q0
   have k1:=cell_regrown q1
   have k2:=cell_regrown q2
   have k3:=cell_regrown q3
   have k4:=cell_regrown q4
   have k5:=cell_regrown q5
   have l0:=cell_regrown t0
   have l1:=cell_regrown t1
   have D1:=hid (fun d os=>Calls.regrown_of (w:=wr) (d:=d) (os:=os) (CV.out _))
   clear CV
   refine wp_region_quiet_below (by kernel_rfl) (by kernel_rfl) ?_
   repeat (go_big_quiet_step (fail))
   go_big_quiet_step (exact D1.out _ _)
   repeat (go_big_quiet_step (fail))
   refine wpQuiet_nil ?_
   intro wz hw'
   have HB2:Hid (Below wr.heap.size wr wz):=hid (by obtain⟨⟨dq,osq⟩,hw2⟩:=hw';rw[hw2];exact below_regrown wr dq osq)
   clear hw' k0 k1 k2 k3 k4 k5 l0 l1 D1 q0 q1 q2 q3 q4 q5 t0 t1
   obtain⟨⟨t0,t1⟩,tf⟩:=HTT.out _ HB2.out
   obtain⟨c1,c4⟩:=HCC.out _ HB2.out
   cases B
   case false=>
    have HF:=hid (HV2.out rfl)
    go_wp2
    go_roundw
    case rel=>exact⟨j+1,T,p,q,by omega,by go_num,rfl,hid (step HB.out HB2.out),hid (HT.out.later HB2.out),hid (HZ.out.later HB2.out),hid (by rw[HWW.out,HF.out,HS1'.out])⟩
    case measure=>simp [intOf];omega
   have HF:=hid (HV1.out rfl)
   go_wp2
   go_roundw
   case rel=>exact⟨j+1,M,xv,(st+(j:Int)),by omega,by go_num,rfl,hid (((step HB.out HB2.out).setCell (p:=⟨w.heap.size,0,none⟩) (Nat.le_refl _) _).setCell (p:=⟨w.heap.size,1,none⟩) (Nat.le_refl _) _),hid (set_atB (set_atB (HT.out.later HB2.out) 0 (.int .i64 xv)) 1 (.int .i64 (st+(j:Int)))),hid (((HZ.out.later HB2.out).other (by omega) _).other (by omega) _),hid (by rw[HWW.out,HF.out,HS1'.out];show walkF ⟨xv,(st+(j:Int)),max T xt⟩ _ _= _;rw[HM.out])⟩
   case measure=>simp [intOf];omega
end Pl
end Go.Proofs.Ytbpmfjjbfiiiaaa
