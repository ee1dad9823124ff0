/- Texts laid together by program. -/
import Derived.Test.YtbpmfjjbfiiiaaaQS8
/- Rows of batches; batch.Walk, the document's Walk, SameBatches. -/
set_option linter.unusedVariables false
set_option maxRecDepth 8000
set_option linter.unusedSimpArgs false
namespace Go.Proofs.Ytbpmfjjbfiiiaaa
open Lib (hid)
open Go.RowKit
namespace Pl
open Cm Ac

structure BatC where
 bat:BatV
 ua:Option Addr
 uc:Nat
def BatC.u (x:BatC):Value:=.slice x.ua x.bat.reqs.length x.uc
def valsB (L:List BatC):List BatV:=L.map BatC.bat
theorem valsB_length (L:List BatC):(valsB L).length =L.length:=by simp [valsB]
theorem valsB_get (L:List BatC) (i:Nat) (h:i<L.length) (h':i<(valsB L).length):(valsB L)[i]=L[i].bat :=by simp [valsB]
theorem valsB_snoc (L:List BatC) (x:BatC):valsB (L++ [x])=valsB L++ [x.bat]:=by simp [valsB]
def cellsB (x:BatC):List Value:= [.bool x.bat.fill,.int .i64 x.bat.view,.int .i64 x.bat.tv,.int .i64 x.bat.ts,.int .i64 x.bat.time,x.u]
theorem cellsB_length (x:BatC):(cellsB x).length =6:=rfl
theorem cellsB_one (x:BatC): ∀u∈cellsB x,u.oneCell'=true:=by
 intro u hu
 unfold cellsB BatC.u at hu
 simp only[List.mem_cons,List.not_mem_nil,or_false] at hu
 rcases hu with rfl | rfl | rfl | rfl | rfl | rfl<;>rfl
structure RdB (w:World) (v:Value) (L:List BatC):Prop where
 row:RdX 6 cellsB w v L
 reqs: ∀x∈L,RdR w x.u x.bat.reqs
theorem RdB.later {w w':World} {v:Value} {L:List BatC} (h:RdB w v L) (hb:Below w.heap.size w w'):RdB w' v L:=⟨h.row.later hb,fun x hx=>(h.reqs x hx).later hb⟩
theorem RdB.form {w:World} {v:Value} {L:List BatC} (h:RdB w v L): ∃a cap,v= .slice a L.length cap:=h.row.form
theorem RdB.nil (w:World):RdB w (.slice none 0 0) []:=⟨RdX.nil w,fun x hx=>by cases hx⟩
theorem rdb_at {w:World} {a:Option Addr} {n cap:Nat} {L:List BatC} (h:RdX 6 cellsB w (.slice a n cap) L) (i:Nat) (hi:i<L.length):
  ∃b o,a=some ⟨b,o,none⟩/\ ∀w':World,Below w.heap.size w w'->w'.cell? ⟨b,o+i*6,none⟩=some (.bool L[i].bat.fill)/\w'.cell? ⟨b,o+i*6+1,none⟩=some (.int .i64 L[i].bat.view)/\w'.cell? ⟨b,o+i*6+2,none⟩=some (.int .i64 L[i].bat.tv)/\w'.cell? ⟨b,o+i*6+3,none⟩=some (.int .i64 L[i].bat.ts)/\w'.cell? ⟨b,o+i*6+4,none⟩=some (.int .i64 L[i].bat.time)/\w'.cell? ⟨b,o+i*6+5,none⟩=some L[i].u :=by
 obtain⟨b,o,e,c⟩:=h.at i hi
 exact⟨b,o,e,fun w' hb=>⟨c w' hb 0 _ rfl,c w' hb 1 _ rfl,c w' hb 2 _ rfl,c w' hb 3 _ rfl,c w' hb 4 _ rfl,c w' hb 5 _ rfl⟩⟩
theorem startF_bounds (t:Int):0<=startF t/\startF t<=2305843009213693952:=by
 unfold startF highF
 split
 ·rename_i h
  simpa using h
 ·decide
theorem max_eq (a b:Int):(if a<b then b else a)=max a b:=by
 split<;>omega
theorem walk_valid (s:TipV) (t:Int) (l:List BatV) (i:Nat) (h:i<l.length) (hv:validF s.tv s.ts l[i]=true):walkF s t (l.drop i)=walkF ⟨l[i].view,t,max s.time l[i].time⟩ (t+1) (l.drop (i+1)):=by
 rw[walkF_step s t l i h]
 unfold validF at hv
 rw[hv,if_pos rfl]
theorem walk_not (s:TipV) (t:Int) (l:List BatV) (i:Nat) (h:i<l.length) (hv:validF s.tv s.ts l[i]=false):walkF s t (l.drop i)=walkF s (t+1) (l.drop (i+1)):=by
 rw[walkF_step s t l i h]
 unfold validF at hv
 rw[hv,if_neg Bool.false_ne_true]
def WalksT (e:TipV) (w:World) (x:Ending) (w':World):Prop:=x= .returned (.tuple #[tipVal e.tv e.ts,.int .i64 e.time])/\Below w.heap.size w w'
set_option maxHeartbeats 4000000 in
theorem Walk_any (tv ts time slot:Int) (v:Value) (L:List BatC) (w:World) (h:RdX 6 cellsB w v L) (hN:L.length<=1000):
  Calls Try.prog 67 #[tipVal tv ts,.int .i64 time,.int .i64 slot,v] w (WalksT (walkF ⟨tv,ts,time⟩ (startF slot) (valsB L)) w):=by
 have CN:=hid (fun w=>isNumB_any slot w)
 obtain⟨st,hst⟩: ∃st,startF slot=st:=⟨_,rfl⟩
 obtain⟨hs0,hs1⟩:=startF_bounds slot
 rw[hst] at hs0 hs1 ⊢
 have hsf:st=if highF slot 0 then slot else 0:=by rw[<-hst];rfl
 have hl0:=valsB_length L
 obtain⟨a,cap,rfl⟩:=h.form
 obtain⟨_,_,hv,hlc,hcm, -⟩:=h.ex
 cases hv
 have HA:=hid (fun i hi=>rdb_at h i hi)
 have HG:=hid (fun i (hi:i<L.length) hi'=>valsB_get L i hi hi')
 have HWV:=hid (fun s t i h hv=>walk_valid s t (valsB L) i h hv)
 have HWN:=hid (fun s t i h hv=>walk_not s t (valsB L) i h hv)
 clear h hst
 generalize valsB L=V at HG HWV HWN hl0 ⊢
 obtain⟨N,hn⟩: ∃N,L.length=N:=⟨_,rfl⟩
 have HN:=hid hn
 rw[hn] at hlc hl0 hN ⊢
 have HV:=hid hl0
 clear hn hl0
 have h0:HeapAt ((w.alloc (tipObj tv ts)).alloc (tipObj 0 0)) w.heap.size (tipObj tv ts):=HeapAt.later (alloc_atB _ _ _ rfl) (newAlloc _ _)
 have h1:HeapAt ((w.alloc (tipObj tv ts)).alloc (tipObj 0 0)) (w.heap.size+1) (tipObj 0 0):=alloc_atB _ _ _ (by simp)
 have H0:=hid h0
 have H1:=hid h1
 have HB0:=hid (stepAlloc (newAlloc w (tipObj tv ts)) (tipObj 0 0))
 have HS0:=hid hs0
 have HS1:=hid hs1
 clear h0 h1 hs0 hs1
 unfold tipVal WalksT
 unfold tipObj at H0 H1 HB0
 generalize highF slot 0=HF at CN hsf
 cases HF
 case false=>
  simp only[Bool.false_eq_true,if_false] at hsf
  subst hsf
  go_enter Try.func67,Try.ntmps67
  go_upto_region 3 with (go_at_call 33;refine(CN.out _).mono ?_;rintro e w1 ⟨rfl,rfl⟩)
  generalize hW:(w.alloc (.cells #[.int .i64 tv,.int .i64 ts] 28)).alloc (.cells #[.int .i64 0,.int .i64 0] 28)=W at H0 H1 HB0 ⊢
  clear hW CN
  go_wp2
  go_loopw [1,10,11,17] (fun x _ _ i wr=> ∃(j:Nat) (T p q:Int),j<=N/\i= .int .i64 (j:Int)/\x= .int .i64 T/\Hid (Below w.heap.size w wr)/\Hid (HeapAt wr w.heap.size (tipObj p q))/\Hid (HeapAt wr (w.heap.size+1) (tipObj 0 0))/\Hid (walkF ⟨tv,ts,time⟩ (0:Int) V=walkF ⟨p,q,T⟩ (j:Int) (V.drop j))) (fun _ _ _ i _=>N - (intOf i).toNat)
  case atStart=>exact⟨0,time,tv,ts,by omega,rfl,rfl,HB0,H0,H1,hid (by simp)⟩
  case round=>
   obtain⟨j,T,p,q,hj,rfl,rfl,HB,HT,HZ,HWW⟩:=hrel
   by_cases hlt:j<N
   case neg=>
    obtain rfl:j=N:=by omega
    have hh:=HT.out
    have t0:=cell_at hh 0
    have t1:=cell_at hh 1
    have tf:=frozen_at hh
    have hz:=HZ.out
    have z0:=cell_at hz 0
    have z1:=cell_at hz 1
    have zf:=frozen_at hz
    simp at t0 t1 z0 z1
    have HE:=hid (HWW.out.trans (by rw[List.drop_eq_nil_of_le (by rw[HV.out];exact Nat.le_refl _)];rfl:_=(⟨p,q,T⟩:TipV)))
    clear hh hz
    go_wp2
    refine bodyPost_ret (by simp [results,Try.results67,go_sem,z0,z1]<;>rfl) rfl ⟨by rw[HE.out];rfl,(HB.out.setCell (by show w.heap.size<=w.heap.size+1;omega) _).setCell (by show w.heap.size<=w.heap.size+1;omega) _⟩
   have hjl:j<L.length:=by rw[HN.out];exact hlt
   have hjv:j<V.length:=by rw[HV.out];exact hlt
   obtain⟨b,o,rfl,hc⟩:=HA.out j hjl
   obtain⟨q0,q1,q2,q3,q4,q5⟩:=hc _ HB.out
   have hv1:=HWV.out ⟨p,q,T⟩ (j:Int) j hjv
   have hv2:=HWN.out ⟨p,q,T⟩ (j:Int) j hjv
   rw[HG.out j hjl hjv] at hv1 hv2
   obtain⟨x,hx⟩: ∃x,L[j]=x:=⟨_,rfl⟩
   rw[hx] at q0 q1 q2 q3 q4 q5 hv1 hv2
   clear hc hx HA HG HWV HWN
   obtain⟨⟨xf,xv,xtv,xts,xt,xr⟩,xa,xc⟩:=x
   unfold BatC.u at q5
   dsimp only at q0 q1 q2 q3 q4 q5 hv1 hv2
   have CV:=hid (fun w=>ValidB_any ⟨xf,xv,xtv,xts,xt,xr⟩ (.slice xa xr.length xc) p q w)
   unfold batVal tipVal at CV
   dsimp only at CV
   generalize validF p q ⟨xf,xv,xtv,xts,xt,xr⟩=B at CV hv1 hv2
   generalize xr.length=xn at*
   have HV1:=hid hv1
   have HV2:=hid hv2
   have HTT:=hid (fun wx (hb:Below wr.heap.size wr wx)=>(by
    have hh:=HT.out.later hb
    exact⟨⟨cell_at hh 0,cell_at hh 1⟩,frozen_at hh⟩:(wx.cell? ⟨w.heap.size,0,none⟩=some (.int .i64 p)/\wx.cell? ⟨w.heap.size,1,none⟩=some (.int .i64 q))/\ ∀k,wx.frozen? ⟨w.heap.size,k,none⟩=false))
   have hba:=newAlloc wr (.cells #[.bool xf,.int .i64 xv,.int .i64 xtv,.int .i64 xts,.int .i64 xt,.slice xa xn xc] 42)
   obtain⟨⟨t0,t1⟩,tf⟩:=HTT.out _ hba
   obtain⟨m0,m1,m2,m3,m4,m5⟩:=box6p (Below.refl _ (wr.alloc (.cells #[.bool xf,.int .i64 xv,.int .i64 xtv,.int .i64 xts,.int .i64 xt,.slice xa xn xc] 42)))
   have HBA:=hid hba
   have hj0:(0:Int)<=(j:Int):=by omega
   have hj1:(j:Int)<(N:Int):=by omega
   have ew:IntKind.i64.wrap (j:Int)=(j:Int):=by have:=HS0.out;have:=HS1.out;rw[IntKind.wrap_i64];omega
   obtain⟨M,hM⟩: ∃M:Int,(if T<xt then xt else T)=M:=⟨_,rfl⟩
   have HM:=hid (show max T xt=M by rw[<-hM,max_eq])
   have HS1':Hid (((j+1:Nat):Int)=(j:Int)+1):=hid (by omega)
   clear hv1 hv2 hjl hjv hba
   have HLT:Hid (w.heap.size<wr.heap.size):=hid (get_ltB HT.out)
   cases B
   case false=>
    have HF:=hid (HV2.out rfl)
    go_wp2_with (go_at_call 12;refine(CV.out _).mono ?_;rintro e w2 ⟨rfl,hb2⟩;have HB2:=hid (step HBA.out hb2);clear hb2 t0 t1 tf m0 m1 m2 m3 m4 m5)
    go_roundw
    case rel=>exact⟨j+1,T,p,q,by omega,by go_num,rfl,hid (step HB.out HB2.out),hid (HT.out.later HB2.out),hid (HZ.out.later HB2.out),hid (by rw[HWW.out,HF.out,HS1'.out])⟩
    case measure=>simp [intOf];omega
   have HF:=hid (HV1.out rfl)
   go_wp2_with (go_at_call 12;refine(CV.out _).mono ?_;rintro e w2 ⟨rfl,hb2⟩;have HB2:=hid (step HBA.out hb2);clear t0 t1 tf m0 m1 m2 m3 m4 m5;obtain⟨m0,m1,m2,m3,m4,m5⟩:=box6p hb2;obtain⟨⟨t0,t1⟩,tf⟩:=HTT.out _ HB2.out;have hne: ¬wr.heap.size=w.heap.size:=(by have:=HLT.out;omega);clear hb2)
   go_roundw
   case rel=>exact⟨j+1,M,xv,(j:Int),by omega,by go_num,rfl,hid (((step HB.out HB2.out).setCell (p:=⟨w.heap.size,0,none⟩) (Nat.le_refl _) _).setCell (p:=⟨w.heap.size,1,none⟩) (Nat.le_refl _) _),hid (set_atB (set_atB (HT.out.later HB2.out) 0 (.int .i64 xv)) 1 (.int .i64 (j:Int))),hid (((HZ.out.later HB2.out).other (by omega) _).other (by omega) _),hid (by rw[HWW.out,HF.out,HS1'.out];show walkF ⟨xv,(j:Int),max T xt⟩ _ _= _;rw[HM.out])⟩
   case measure=>simp [intOf];omega
 case true=>
  simp only[if_true] at hsf
  subst hsf
  go_enter Try.func67,Try.ntmps67
  go_upto_region 3 with (go_at_call 33;refine(CN.out _).mono ?_;rintro e w1 ⟨rfl,rfl⟩)
  generalize hW:(w.alloc (.cells #[.int .i64 tv,.int .i64 ts] 28)).alloc (.cells #[.int .i64 0,.int .i64 0] 28)=W at H0 H1 HB0 ⊢
  clear hW CN
  go_wp2
  go_loopw [1,10,11,17] (fun x _ _ i wr=> ∃(j:Nat) (T p q:Int),j<=N/\i= .int .i64 (j:Int)/\x= .int .i64 T/\Hid (Below w.heap.size w wr)/\Hid (HeapAt wr w.heap.size (tipObj p q))/\Hid (HeapAt wr (w.heap.size+1) (tipObj 0 0))/\Hid (walkF ⟨tv,ts,time⟩ st V=walkF ⟨p,q,T⟩ (st+(j:Int)) (V.drop j))) (fun _ _ _ i _=>N - (intOf i).toNat)
  case atStart=>exact⟨0,time,tv,ts,by omega,rfl,rfl,HB0,H0,H1,hid (by simp)⟩
  case round=>
   obtain⟨j,T,p,q,hj,rfl,rfl,HB,HT,HZ,HWW⟩:=hrel
   by_cases hlt:j<N
   case neg=>
    obtain rfl:j=N:=by omega
    have hh:=HT.out
    have t0:=cell_at hh 0
    have t1:=cell_at hh 1
    have tf:=frozen_at hh
    have hz:=HZ.out
    have z0:=cell_at hz 0
    have z1:=cell_at hz 1
    have zf:=frozen_at hz
    simp at t0 t1 z0 z1
    have HE:=hid (HWW.out.trans (by rw[List.drop_eq_nil_of_le (by rw[HV.out];exact Nat.le_refl _)];rfl:_=(⟨p,q,T⟩:TipV)))
    clear hh hz
    go_wp2
    refine bodyPost_ret (by simp [results,Try.results67,go_sem,z0,z1]<;>rfl) rfl ⟨by rw[HE.out];rfl,(HB.out.setCell (by show w.heap.size<=w.heap.size+1;omega) _).setCell (by show w.heap.size<=w.heap.size+1;omega) _⟩
   have hjl:j<L.length:=by rw[HN.out];exact hlt
   have hjv:j<V.length:=by rw[HV.out];exact hlt
   obtain⟨b,o,rfl,hc⟩:=HA.out j hjl
   obtain⟨q0,q1,q2,q3,q4,q5⟩:=hc _ HB.out
   have hv1:=HWV.out ⟨p,q,T⟩ (st+(j:Int)) j hjv
   have hv2:=HWN.out ⟨p,q,T⟩ (st+(j:Int)) j hjv
   rw[HG.out j hjl hjv] at hv1 hv2
   obtain⟨x,hx⟩: ∃x,L[j]=x:=⟨_,rfl⟩
   rw[hx] at q0 q1 q2 q3 q4 q5 hv1 hv2
   clear hc hx HA HG HWV HWN
   obtain⟨⟨xf,xv,xtv,xts,xt,xr⟩,xa,xc⟩:=x
   unfold BatC.u at q5
   dsimp only at q0 q1 q2 q3 q4 q5 hv1 hv2
   have CV:=hid (fun w=>ValidB_any ⟨xf,xv,xtv,xts,xt,xr⟩ (.slice xa xr.length xc) p q w)
   unfold batVal tipVal at CV
   dsimp only at CV
   generalize validF p q ⟨xf,xv,xtv,xts,xt,xr⟩=B at CV hv1 hv2
   generalize xr.length=xn at*
   have HV1:=hid hv1
   have HV2:=hid hv2
   have HTT:=hid (fun wx (hb:Below wr.heap.size wr wx)=>(by
    have hh:=HT.out.later hb
    exact⟨⟨cell_at hh 0,cell_at hh 1⟩,frozen_at hh⟩:(wx.cell? ⟨w.heap.size,0,none⟩=some (.int .i64 p)/\wx.cell? ⟨w.heap.size,1,none⟩=some (.int .i64 q))/\ ∀k,wx.frozen? ⟨w.heap.size,k,none⟩=false))
   have hba:=newAlloc wr (.cells #[.bool xf,.int .i64 xv,.int .i64 xtv,.int .i64 xts,.int .i64 xt,.slice xa xn xc] 42)
   obtain⟨⟨t0,t1⟩,tf⟩:=HTT.out _ hba
   obtain⟨m0,m1,m2,m3,m4,m5⟩:=box6p (Below.refl _ (wr.alloc (.cells #[.bool xf,.int .i64 xv,.int .i64 xtv,.int .i64 xts,.int .i64 xt,.slice xa xn xc] 42)))
   have HBA:=hid hba
   have hj0:(0:Int)<=(j:Int):=by omega
   have hj1:(j:Int)<(N:Int):=by omega
   have ew:IntKind.i64.wrap (st+(j:Int))=st+(j:Int):=by have:=HS0.out;have:=HS1.out;rw[IntKind.wrap_i64];omega
   obtain⟨M,hM⟩: ∃M:Int,(if T<xt then xt else T)=M:=⟨_,rfl⟩
   have HM:=hid (show max T xt=M by rw[<-hM,max_eq])
   have HS1':Hid (st+((j+1:Nat):Int)=st+(j:Int)+1):=hid (by omega)
   clear hv1 hv2 hjl hjv hba
   have HLT:Hid (w.heap.size<wr.heap.size):=hid (get_ltB HT.out)
   cases B
   case false=>
    have HF:=hid (HV2.out rfl)
    go_wp2_with (go_at_call 12;refine(CV.out _).mono ?_;rintro e w2 ⟨rfl,hb2⟩;have HB2:=hid (step HBA.out hb2);clear hb2 t0 t1 tf m0 m1 m2 m3 m4 m5)
    go_roundw
    case rel=>exact⟨j+1,T,p,q,by omega,by go_num,rfl,hid (step HB.out HB2.out),hid (HT.out.later HB2.out),hid (HZ.out.later HB2.out),hid (by rw[HWW.out,HF.out,HS1'.out])⟩
    case measure=>simp [intOf];omega
   have HF:=hid (HV1.out rfl)
   go_wp2_with (go_at_call 12;refine(CV.out _).mono ?_;rintro e w2 ⟨rfl,hb2⟩;have HB2:=hid (step HBA.out hb2);clear t0 t1 tf m0 m1 m2 m3 m4 m5;obtain⟨m0,m1,m2,m3,m4,m5⟩:=box6p hb2;obtain⟨⟨t0,t1⟩,tf⟩:=HTT.out _ HB2.out;have hne: ¬wr.heap.size=w.heap.size:=(by have:=HLT.out;omega);clear hb2)
   go_roundw
   case rel=>exact⟨j+1,M,xv,st+(j:Int),by omega,by go_num,rfl,hid (((step HB.out HB2.out).setCell (p:=⟨w.heap.size,0,none⟩) (Nat.le_refl _) _).setCell (p:=⟨w.heap.size,1,none⟩) (Nat.le_refl _) _),hid (set_atB (set_atB (HT.out.later HB2.out) 0 (.int .i64 xv)) 1 (.int .i64 (st+(j:Int)))),hid (((HZ.out.later HB2.out).other (by omega) _).other (by omega) _),hid (by rw[HWW.out,HF.out,HS1'.out];show walkF ⟨xv,st+(j:Int),max T xt⟩ _ _= _;rw[HM.out])⟩
   case measure=>simp [intOf];omega
end Pl
end Go.Proofs.Ytbpmfjjbfiiiaaa

/- Contract of batchOf. -/
set_option linter.unusedVariables false
set_option maxRecDepth 8000
set_option linter.unusedSimpArgs false
namespace Go.Proofs.Ytbpmfjjbfiiiaaa
open Lib (hid)
open Go.RowKit
namespace Pl
open Cm Ac

theorem infoReqP:(Try.prog.info? 71).map (fun i=>(i.zero,i.size,i.bytes))=some (some (.agg #[.int .i64 0,.int .i64 0,.int .i64 0,.int .i64 0,.string ⟨#[]⟩]),5,48):=by kernel_rfl
theorem info_partsP {e:TypeId} {z:Option Value} {s b:Nat} (h:(Try.prog.info? e).map (fun i=>(i.zero,i.size,i.bytes))=some (z,s,b)): ∃i,Try.prog.info? e=some i/\i.zero=z/\i.size=s/\i.bytes=b:=by
 cases hi:Try.prog.info? e with
 | none=>rw[hi] at h;cases h
 | some i=>
  rw[hi] at h
  simp only[Option.map_some,Option.some.injEq,Prod.mk.injEq] at h
  exact⟨i,rfl,h.1,h.2.1,h.2.2⟩
def voteObj (s b:Int) (f:Bool) (v t q m:Int) (u:Value):Obj:=.cells #[.int .i64 s,.int .i64 b,.bool f,.int .i64 v,.int .i64 t,.int .i64 q,.int .i64 m,u] 48
def batObj (f:Bool) (v t q m:Int) (u:Value):Obj:=.cells #[.bool f,.int .i64 v,.int .i64 t,.int .i64 q,.int .i64 m,u] 42
def OwnQ (base:Nat) (w:World) (x:BatC):Prop:=w.ownsRow base 71 5 x.u x.bat.reqs.length (flatX cellsR x.bat.reqs)
theorem OwnQ.later {base:Nat} {w w':World} {x:BatC} (h:OwnQ base w x) (hb:Below w.heap.size w w'):OwnQ base w' x:=Rw.own_below h hb
theorem OwnQ.lower {base base':Nat} {w:World} {x:BatC} (h:OwnQ base w x) (hb:base'<=base):OwnQ base' w x:=own_lowerX h hb
theorem OwnQ.rd {base:Nat} {w:World} {x:BatC} (h:OwnQ base w x):RdR w x.u x.bat.reqs:=RdX.own cellsR_length h
def GivesB (b:BatV) (w:World) (e:Ending) (w':World):Prop:= ∃y:BatC,e= .returned (batVal y.bat y.u)/\y.bat=b/\OwnQ w.heap.size w' y/\Below w.heap.size w w'
set_option maxHeartbeats 4000000 in
theorem batchOf_any (x:VoteC) (w:World) (h:RdR w x.u x.bat.reqs) (h3:x.bat.reqs.length<=1000):Calls Try.prog 76 #[voteVal x] w (GivesB (batOf x.val) w):=by
 obtain⟨s,b,⟨f,v,t,q,m,l⟩,ua,uc⟩:=x
 unfold voteVal batOf VoteC.val
 dsimp only at h3
 rw[show VoteC.u ⟨s,b,⟨f,v,t,q,m,l⟩,ua,uc⟩= .slice ua l.length uc from rfl] at h ⊢
 dsimp only at h ⊢
 have hb1:=newAlloc w (voteObj s b f v t q m (.slice ua l.length uc))
 have k1:=alloc_atB w (voteObj s b f v t q m (.slice ua l.length uc)) _ rfl
 obtain⟨W1,hW1⟩: ∃W1,W1=w.alloc (voteObj s b f v t q m (.slice ua l.length uc)):=⟨_,rfl⟩
 rw[<-hW1] at hb1 k1
 have hs1:W1.heap.size=w.heap.size+1:=by rw[hW1];simp
 have hb2:=newAlloc W1 (batObj false 0 0 0 0 (.slice none 0 0))
 have d2:=alloc_atB W1 (batObj false 0 0 0 0 (.slice none 0 0)) _ hs1
 have k2:=cells_later k1 hb2
 obtain⟨W2,hW2⟩: ∃W2,W2=W1.alloc (batObj false 0 0 0 0 (.slice none 0 0)):=⟨_,rfl⟩
 rw[<-hW2] at hb2 d2 k2
 have hs2:W2.heap.size=w.heap.size+2:=by rw[hW2];simp [hs1]
 have HB2:=hid (step hb1 hb2)
 have HR2:=hid (h.later (step hb1 hb2))
 have HK2:=hid k2
 have HD2:=hid d2
 have HS2:=hid hs2
 have HL:=hid h3
 have c0:=cell_at k2 0
 have c1:=cell_at k2 1
 have c2:=cell_at k2 2
 have c3:=cell_at k2 3
 have c4:=cell_at k2 4
 have c5:=cell_at k2 5
 have c6:=cell_at k2 6
 have c7:=cell_at k2 7
 have e0:=cell_at d2 0
 have e1:=cell_at d2 1
 have e2:=cell_at d2 2
 have e3:=cell_at d2 3
 have e4:=cell_at d2 4
 have e5:=cell_at d2 5
 have ef:=frozen_at d2
 simp at c0 c1 c2 c3 c4 c5 c6 c7 e0 e1 e2 e3 e4 e5
 obtain⟨i5,hi5,h50,h51,h52⟩:=info_partsP infoReqP
 clear h hb1 hb2 k1 k2 d2 h3
 unfold voteObj at hW1
 unfold batObj at hW2
 by_cases hz:s=0
 ·rw[if_pos hz]
  have d:(s==0)=true:=by simpa using hz
  clear hz
  go_enter Try.func76,Try.ntmps76
  go_upto_region 1 with fail
  rw[<-hW1,<-hW2]
  clear hW1 hW2 hs1 hs2
  go_wp2
  refine bodyPost_ret (by simp [results,Try.results76,go_sem,e0,e1,e2,e3,e4,e5]<;>rfl) rfl ⟨⟨fillB,none,0⟩,rfl,rfl,World.ownsRow_nil _ _ _ _,?_⟩
  have h1:w.heap.size<=w.heap.size+1:=by omega
  exact(((((HB2.out.setCell h1 _).setCell h1 _).setCell h1 _).setCell h1 _).setCell h1 _).setCell h1 _
 rw[if_neg hz]
 have d:(s==0)=false:=by simpa using hz
 clear hz
 have HE2:=hid (And.intro e0 (And.intro e1 (And.intro e2 (And.intro e3 (And.intro e4 e5)))))
 clear e0 e1 e2 e3 e4 e5 ef
 go_enter Try.func76,Try.ntmps76
 go_upto_region 1 with fail
 rw[<-hW1,<-hW2]
 clear hW1 hW2 hs1 hs2
 go_upto_region 4 with fail
 have hb3:=newAlloc W2 (batObj f v t q m (.slice ua l.length uc))
 have d3:=alloc_atB W2 (batObj f v t q m (.slice ua l.length uc)) _ HS2.out
 have k3:=cells_later HD2.out hb3
 have HB3:=hid (step HB2.out hb3)
 have HR3:=hid (HR2.out.later hb3)
 have HS3:Hid ((W2.alloc (batObj f v t q m (.slice ua l.length uc))).heap.size =w.heap.size+3):=hid (by simp [HS2.out])
 have hs2:=HS2.out
 rw[hs2]
 unfold batObj at HB3 HR3 HS3 d3 k3
 generalize W2.alloc (.cells #[.bool f,.int .i64 v,.int .i64 t,.int .i64 q,.int .i64 m,.slice ua l.length uc] 42)=W3 at HB3 HR3 HS3 d3 k3 ⊢
 clear hb3 hs2 c0 c1 c2 c3 c4 c5 c6 c7
 have b5:=cell_at d3 5
 simp at b5
 have HD3:=hid d3
 have HK3:=hid k3
 clear d3 k3
 go_wp2_with (at_builtin;refine wpList_append_rdx cellsR_length (by omega) cellsR_one rfl _ _ 38 rfl (w.heap.size+3) 71 i5 _ 48 Try.underlying38 hi5 h50 h51 h52 rfl (.slice none 0 0) 0 [] rfl (World.ownsRow_nil _ _ _ _) _ l rfl HR3.out (by have:=HL.out;unfold maxLen;omega) (by have:=HL.out;omega) (by have:=HS3.out;omega) ?_;intro v6 w6 hown6 hg6;rw[Nat.zero_add,List.nil_append] at hown6;obtain⟨va,vc,rfl⟩:=Rw.own_form hown6;have HO6:=hid hown6;have d6:w6.heap[w.heap.size+2]?= _:=(hg6.block _ (get_ltB HD3.out) (fun q=>by cases q)).trans HD3.out;have k6:w6.heap[w.heap.size+1]?= _:=(hg6.block _ (get_ltB HK3.out) (fun q=>by cases q)).trans HK3.out;have HB6:=hid (HB3.out.grown hg6 HB3.out.size (fun k hk=>by cases hk));clear hown6 b5;have g0:=cell_at d6 0;have g1:=cell_at d6 1;have g2:=cell_at d6 2;have g3:=cell_at d6 3;have g4:=cell_at d6 4;have g5:=cell_at d6 5;have gf:=frozen_at d6;have e0:=cell_at k6 0;have e1:=cell_at k6 1;have e2:=cell_at k6 2;have e3:=cell_at k6 3;have e4:=cell_at k6 4;have e5:=cell_at k6 5;have ef:=frozen_at k6;simp at g0 g1 g2 g3 g4 g5 e0 e1 e2 e3 e4 e5;clear d6 k6 hg6)
 refine bodyPost_ret (by simp [results,Try.results76,go_sem,g0,g1,g2,g3,g4,g5,e0,e1,e2,e3,e4,e5]<;>rfl) rfl ⟨⟨⟨f,v,t,q,m,l⟩,va,vc⟩,rfl,rfl,?_,?_⟩
 ·refine own_lowerX (base:=w.heap.size+3) (Rw.own_keep HO6.out fun k hk=>?_) (by omega)
  have hk1:=(Rw.own_lt HO6.out k hk).1
  have key: ∀(W:World) (g j:Nat) (u:Value),k≠g->(W.setCell ⟨g,j,none⟩ u).heap[k]?=W.heap[k]?:=fun W g j u hne=>Below.heap_setCell _ _ _ _ hne
  have n1:k≠w.heap.size+1:=by omega
  rw[key _ _ _ _ n1,key _ _ _ _ n1,key _ _ _ _ n1,key _ _ _ _ n1,key _ _ _ _ n1,key _ _ _ _ n1,key _ _ _ _ (by omega)]
 ·have h1:w.heap.size<=w.heap.size+1:=by omega
  exact((((((HB6.out.setCell (p:=⟨w.heap.size+2,5,none⟩) (show w.heap.size<=w.heap.size+2 by omega) _).setCell h1 _).setCell h1 _).setCell h1 _).setCell h1 _).setCell h1 _).setCell h1 _
end Pl
end Go.Proofs.Ytbpmfjjbfiiiaaa
