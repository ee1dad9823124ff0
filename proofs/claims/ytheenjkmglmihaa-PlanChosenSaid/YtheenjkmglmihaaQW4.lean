/- Texts laid together by program. -/
import Derived.Test.YtheenjkmglmihaaQW3
/- The statement PlanChosen as a contract. -/
set_option linter.unusedVariables false
set_option maxRecDepth 8000
set_option linter.unusedSimpArgs false
namespace Go.Proofs.Ytheenjkmglmihaa
open Lib (hid)
open List (getElem_toArray getElem_cons_succ getElem_cons_zero setIfInBounds_toArray set_cons_zero set_cons_succ)
open Go.RowKit
namespace Pl
open Cm Ac

def bitF (a:Nat) (j:Nat):Bool:=bits BinOp.and IntKind.u8 ((a:Int) / 2 ^ j) 1==1
set_option maxHeartbeats 16000000 in
theorem Chosen_any (v u:Value) (T:List ToldC) (n sl bl vt ask:Nat) (ns:List UInt8) (w:World) (h:RdD w v T) (hns:Rd w u ns) (few:ns.length<=140737488355328) (bn:n<256) (bs:sl<256) (bb:bl<256) (bv:vt<256) (ba:ask<256):
  Calls Try.prog 6 #[v,.int .u8 (n:Int),.int .u8 (sl:Int),.int .u8 (bl:Int),u,.int .u8 (vt:Int),.int .u8 (ask:Int)] w (SaysB true w):=by
 obtain⟨ta,tcap,rfl⟩:=h.row.form
 have AW:=hid (fun W=>awake16_ok W)
 have HTB:=hid (told_ok h)
 have CP:=hid (fun W (hb:Below w.heap.size w W)=>Promises_any _ T W ⟨h.row.later hb,fun x hx=>(h.ok x hx).later hb⟩)
 have CB:=hid (fun W (hb:Below w.heap.size w W)=>Batch_F u ns W (hns.later hb) (by omega))
 clear h hns few
 unfold GivesPs at CP
 unfold MadeBF at CB
 obtain⟨VT,hVT⟩: ∃VT,valsD T=VT:=⟨_,rfl⟩
 rw[hVT] at HTB CP
 clear hVT
 generalize T.length=TN at*
 obtain⟨i6,hi6,h60,h61,h62⟩:=info_partsP infoPr
 obtain⟨r,hr⟩: ∃r,n % 3=r:=⟨_,rfl⟩
 have q2:(n:Int).tmod 3=(r:Int):=by rw[Int.tmod_eq_emod_of_nonneg (by omega)];omega
 have r3:r<3:=by omega
 clear hr
 obtain⟨k,hk,hcell⟩: ∃k:Nat,(k=3\/k=5\/k=7)/\(w.alloc (.cells #[.int .i64 3,.int .i64 5,.int .i64 7] 3)).cell? ⟨w.heap.size,r,none⟩=some (.int .i64 (k:Int)):=by
  rcases (show r=0\/r=1\/r=2 by omega) with rfl | rfl | rfl
  ·exact⟨3,.inl rfl,by simp [go_sem]⟩
  ·exact⟨5,.inr (.inl rfl),by simp [go_sem]⟩
  ·exact⟨7,.inr (.inr rfl),by simp [go_sem]⟩
 have r0:(0:Int)<=(r:Int):=by omega
 have r1:(r:Int)<3:=by omega
 have HB0:=hid (newAlloc w (.cells #[.int .i64 3,.int .i64 5,.int .i64 7] 3))
 go_enter Try.func6,Try.ntmps6
 go_upto_region 2 with fail
 clear hcell r0 r1 r3 q2
 generalize w.alloc (.cells #[.int .i64 3,.int .i64 5,.int .i64 7] 3)=w0 at HB0 ⊢
 have CP1:=hid (CP.out _ HB0.out)
 clear CP
 go_upto_region 3 with (go_at_call 14;refine CP1.out.mono ?_;rintro e w1 ⟨a,cap,L,rfl,hpv,hl7,hop,hb1⟩;have HPV:=hid hpv;have HL7:=hid hl7;have HOP:=hid (hop.lower HB0.out.size);have HB:=hid (step HB0.out hb1);clear hop hb1 hl7 hpv)
 clear CP1
 obtain⟨N,hn⟩: ∃N,L.length=N:=⟨_,rfl⟩
 have HN:=hid hn
 have hk3:3<=k:=by omega
 have hk7:k<=7:=by omega
 have hl7:=HL7.out
 rw[hn] at HOP hl7 ⊢
 clear hn hk HL7
 by_cases hlt:N<k
 ·skip
  go_wp2_with (go_at_call 7;refine(AW.out _).mono ?_;rintro e w7 ⟨rfl,hb7⟩)
  go_ret
  exact⟨rfl,step HB.out hb7⟩
 obtain⟨ga,gc,hv⟩:=own_shape (by have q:=HOP.out.row;rw[HN.out] at q;exact q) (by omega)
 cases hv
 have hcap:N<=cap:=by
  rcases HOP.out.row.2 with ⟨q,_⟩ | ⟨g,cap',cur,hv,h1,h2,h3, -⟩
  ·cases q
  ·cases hv
   have:=HN.out
   omega
 have hkc:k<=cap:=by omega
 obtain⟨S,hS⟩: ∃S:Nat,S=1+sl % 9:=⟨_,rfl⟩
 obtain⟨s9,hs9⟩: ∃r:Nat,sl % 9=r:=⟨_,rfl⟩
 have e1:IntKind.i64.wrap (sl:Int)=(sl:Int):=by rw[IntKind.wrap_i64];omega
 have e2:(sl:Int).tmod 9=(s9:Int):=by rw[Int.tmod_eq_emod_of_nonneg (by omega)];omega
 have e3:(1:Int)+(sl:Int) % 9=(S:Int):=by omega
 have e33:(1:Int)+(s9:Int)=(S:Int):=by omega
 have e4:IntKind.i64.wrap (S:Int)=(S:Int):=by rw[IntKind.wrap_i64];omega
 have e5:IntKind.i64.wrap (bl:Int)=(bl:Int):=by rw[IntKind.wrap_i64];omega
 obtain⟨B,hB⟩: ∃B:Nat,B=9+bl:=⟨_,rfl⟩
 have e6:(9:Int)+(bl:Int)=(B:Int):=by omega
 have e7:IntKind.i64.wrap (B:Int)=(B:Int):=by rw[IntKind.wrap_i64];omega
 have HSB:=hid (show 1<=S/\S<=9/\9<=B/\B<300 by omega)
 clear hS hs9 hB
 have HORI:=hid (orig_of HTB.out (k:=k) (by rw[<-HPV.out,valsP_length,HN.out];omega) (B:=(B:Int)) (by have:=HSB.out;omega))
 have HOI:Hid (∀i (hi:i<(L.take k).length),(L.take k)[i].val =origN VT i):=hid (fun i hi=>by
  have hi2:i<L.length:=by rw[List.length_take] at hi;omega
  unfold origN
  rw[<-HPV.out,List.getD_eq_getElem?_getD,List.getElem?_eq_getElem (by rw[valsP_length];exact hi2),Option.getD_some,valsP_get L i hi2,List.getElem_take])
 have HG0:Hid ((L.take k).length =k):=hid (by rw[List.length_take,HN.out];omega)
 have HO1:=hid (HOP.out.take HN.out k (by omega))
 generalize L.take k=G0 at HOI HG0 HO1
 have HGA:Hid (w.heap.size<=ga/\ga<w1.heap.size):=hid (Rw.own_lt HO1.out.row ga rfl)
 have CB1:=hid (CB.out _ HB.out)
 clear CB HOP HPV HTB HN
 obtain⟨X,hX⟩: ∃X,batchF ns=X:=⟨_,rfl⟩
 rw[hX] at CB1
 clear hX
 go_upto_region 8 with (go_at_call 17;refine CB1.out.mono ?_;rintro e w2 ⟨X',xu,rfl,hmay,hox,hb2,hX'⟩;subst hX';obtain⟨xf,xv,xtv,xts,xt,xr⟩:=X';unfold batVal;dsimp only at hox ⊢;obtain⟨xa,xc,rfl⟩:=Rw.own_form hox;have HOX:=hid (own_lowerX hox (show w.heap.size<=w1.heap.size+1 by have:=HB.out.size;omega));have HO2:=hid (HO1.out.later hb2);have HB2:=hid (step HB.out hb2);have HS2:=hid hb2.size;clear hmay hox hb2)
 clear CB1 HO1
 have HNB:=hid (newAlloc w2 (.cells #[.bool xf,.int .i64 xv,.int .i64 xtv,.int .i64 xts,.int .i64 xt,.slice xa xr.length xc] 47))
 have HX3:Hid (HeapAt (w2.alloc (.cells #[.bool xf,.int .i64 xv,.int .i64 xtv,.int .i64 xts,.int .i64 xt,.slice xa xr.length xc] 47)) w2.heap.size (.cells #[.bool xf,.int .i64 xv,.int .i64 xtv,.int .i64 xts,.int .i64 xt,.slice xa xr.length xc] 47)):=hid (alloc_atB _ _ _ rfl)
 have HGX:Hid (w2.heap.size<(w2.alloc (.cells #[.bool xf,.int .i64 xv,.int .i64 xtv,.int .i64 xts,.int .i64 xt,.slice xa xr.length xc] 47)).heap.size /\ga<w2.heap.size):=hid ⟨by simp,by have:=HS2.out;have:=HGA.out;omega⟩
 have HOX3:=hid (Rw.own_below HOX.out HNB.out)
 have HO3:=hid (HO2.out.later HNB.out)
 have HB3:=hid (step HB2.out HNB.out)
 generalize w2.alloc (.cells #[.bool xf,.int .i64 xv,.int .i64 xtv,.int .i64 xts,.int .i64 xt,.slice xa xr.length xc] 47)=W at HNB HX3 HGX HOX3 HO3 HB3 ⊢
 generalize w2.heap.size=gx at HX3 HGX ⊢
 clear HNB HOX HO2 HB2 HS2
 obtain⟨f,hf⟩: ∃f,f=bitF vt:=⟨_,rfl⟩
 obtain⟨g,hg⟩: ∃g,g=bitF ask:=⟨_,rfl⟩
 have HF:=hid hf
 have HG:=hid hg
 clear hf hg
 obtain⟨O,hO⟩: ∃O,origN VT=O:=⟨_,rfl⟩
 rw[hO] at HORI HOI
 clear hO
 obtain⟨x0,hx0⟩: ∃x0:VoteC,x0=⟨(S:Int),(B:Int),⟨xf,xv,xtv,xts,xt,xr⟩,xa,xc⟩:=⟨_,rfl⟩
 have HX0:=hid hx0
 clear hx0
 obtain⟨P,hP⟩: ∃P,newPr f x0.val O=P:=⟨_,rfl⟩
 have HP:=hid hP
 clear hP
 go_wp2
 have HST0:Hid (StC w.heap.size W.heap.size w ga gx k cap #[.bool xf,.int .i64 xv,.int .i64 xtv,.int .i64 xts,.int .i64 xt,.slice xa xr.length xc] x0 W G0 (.slice none 0 0) []):=hid ⟨HB3.out,HB3.out.size,Nat.le_refl _,HO3.out,World.ownsRow_nil _ _ _ _,(fun x hx=>by cases hx),HX3.out,(by rw[HX0.out];exact HOX3.out),HGX.out.2,HGX.out.1⟩
 clear HB3 HO3 HX3 HOX3 HGX HGA
 go_loopw [20,21,22,50] (fun m q i _ wr=> ∃(j M:Nat) (G Q:List PromC) (qa:Option Addr) (qc:Nat),j<=k/\i= .int .i64 (j:Int)/\m= .int .i64 (M:Int)/\q= .slice qa Q.length qc/\M<=j/\Q.length<=j/\Hid (M=cntB f j)/\Hid (G.length=k)/\Hid (∀i (h:i<G.length),G[i].val =if i<j then P i else O i)/\Hid (valsP Q=qsF g P j)/\Hid (StC w.heap.size W.heap.size w ga gx k cap #[.bool xf,.int .i64 xv,.int .i64 xtv,.int .i64 xts,.int .i64 xt,.slice xa xr.length xc] x0 wr G (.slice qa Q.length qc) Q)) (fun _ _ i _ _=>k - (intOf i).toNat)
 case atStart=>exact⟨0,0,G0,[],none,0,by omega,rfl,rfl,rfl,by omega,by simp,hid rfl,HG0,hid (fun i hi=>by rw[if_neg (by omega)];exact HOI.out i hi),hid rfl,HST0⟩
 case round=>
  obtain⟨j,M,G,Q,qa,qc,hj,rfl,rfl,rfl,hMj,hQj,HM,HGK,HGV,HQV,HST⟩:=hrel
  by_cases hlt:j<k
  case pos=>
   have hjl:j<G.length:=by rw[HGK.out];exact hlt
   have hj0:(0:Int)<=(j:Int):=by omega
   have hj1:(j:Int)<(k:Int):=by omega
   have HNW:Hid (w.heap.size<=wr.heap.size):=hid (Nat.le_trans HST.out.lo HST.out.WW)
   have HCT:=hid (show cntB f (j+1)=cntB f j+(if f j=true then 1 else 0) from rfl)
   have HQS:=hid (show qsF g P (j+1)=if g j=true then qsF g P j++ [P j] else qsF g P j from rfl)
   have ewM:IntKind.i64.wrap ((M:Int)+1)=(M:Int)+1:=by rw[IntKind.wrap_i64];omega
   cases hf:f j
   case false=>
    have dA:(bits BinOp.and IntKind.u8 ((vt:Int) / 2 ^ j) 1==1)=false:=by rw[HF.out] at hf;exact hf
    have HM2:Hid (M=cntB f (j+1)):=hid (by rw[HCT.out,hf];exact HM.out)
    have HGV2:=hid (gv_same HGV.out (by rw[<-HP.out];unfold newPr;rw[hf];rfl))
    clear hf
    obtain⟨_,_,hbo,hc⟩:=rdp_at HST.out.Or.rd.row j hjl
    cases hbo
    obtain⟨z0,z1,z2,z3,z4,z5⟩:=hc _ (Below.refl _ _)
    simp only[Nat.zero_add] at z0 z1 z2 z3 z4 z5
    clear hc
    have HPV:Hid ((G[j]'hjl).val =P j):=hid (by have q:=HGV2.out j hjl;rw[if_pos (by omega)] at q;exact q)
    have HPO:=hid (HST.out.Or.votes (G[j]'hjl) (mem_get hjl))
    obtain⟨p,hp⟩: ∃p,(G[j]'hjl)=p:=⟨_,rfl⟩
    rw[hp] at HPV HPO z0 z1 z2 z3 z4 z5
    clear hp
    obtain⟨pw,pd,pv,pq,pt,pl,pa,pc⟩:=p
    unfold PromC.u at z5
    dsimp only at z0 z1 z2 z3 z4 z5
    cases hg:g j
    case false=>
     have dB:(bits BinOp.and IntKind.u8 ((ask:Int) / 2 ^ j) 1==1)=false:=by rw[HG.out] at hg;exact hg
     have HQV2:Hid (valsP Q=qsF g P (j+1)):=hid (by rw[HQS.out,hg];exact HQV.out)
     clear hg
     go_wp2
     go_roundw
     case rel=>exact⟨j+1,M,G,Q,qa,qc,by omega,by go_num,by first | rfl | go_num,rfl,by omega,by omega,HM2,HGK,HGV2,HQV2,HST⟩
     case measure=>simp [intOf];omega
    have dB:(bits BinOp.and IntKind.u8 ((ask:Int) / 2 ^ j) 1==1)=true:=by rw[HG.out] at hg;exact hg
    have HQV2:Hid (qsF g P (j+1)=valsP Q++ [P j]):=hid (by rw[HQS.out,hg,HQV.out];rfl)
    clear hg
    have hnw:=Nat.le_trans HST.out.lo HST.out.WW
    go_wp2_with (at_builtin;refine wpList_append_grD cellsP_length (by omega) rfl _ _ 22 rfl 29 i6 _ 64 Try.underlying22 hi6 h60 h61 h62 rfl #[.int .i64 pw,.int .i64 pd,.int .i64 pv,.int .i64 pq,.int .i64 pt,.slice pa pl.length pc] (⟨pw,pd,pv,pq,pt,pl,pa,pc⟩:PromC) rfl (cellsP_one _) Q W.heap.size (.slice qa Q.length qc) rfl rfl HST.out.Qr (by unfold maxLen;omega) (by omega) HST.out.WW ?_;intro v6 w6 ho6 hg6 _;have hst:=HST.out.push hnw (⟨pw,pd,pv,pq,pt,pl,pa,pc⟩:PromC) HPO.out hg6 ho6;obtain⟨Q',hQ'⟩: ∃Q',Q++ [(⟨pw,pd,pv,pq,pt,pl,pa,pc⟩:PromC)]=Q':=⟨_,rfl⟩;have hql:Q'.length<=j+1:=(by rw[<-hQ',List.length_append,List.length_singleton];omega);have HQ3:Hid (valsP Q'=qsF g P (j+1)):=hid (by rw[<-hQ',valsP_snoc,HPV.out,HQV2.out]);rw[hQ'] at hst ho6;obtain⟨qb,qd,rfl⟩:=Rw.own_form ho6;have HST6:=hid hst;clear hst ho6 hg6 hQ')
    go_roundw
    case rel=>exact⟨j+1,M,G,Q',qb,qd,by omega,by go_num,by first | rfl | go_num,rfl,by omega,hql,HM2,HGK,HGV2,HQ3,HST6⟩
    case measure=>simp [intOf];omega
   have dA:(bits BinOp.and IntKind.u8 ((vt:Int) / 2 ^ j) 1==1)=true:=by rw[HF.out] at hf;exact hf
   have HM2:Hid (M+1=cntB f (j+1)):=hid (by rw[HCT.out,hf,HM.out];rfl)
   have HFJ:=hid hf
   clear hf
   by_cases hds:(G[j]'hjl).done <(S:Int)
   case neg=>
    have e0:=HGV.out j hjl
    rw[if_neg (by omega)] at e0
    have e2:(O j).done =(G[j]'hjl).done :=by rw[<-e0];rfl
    have e3:x0.val.slot=(S:Int):=by rw[HX0.out];rfl
    have HGV2:=hid (gv_same HGV.out (by rw[<-HP.out];unfold newPr;rw[if_neg (fun q=>by have:=q.2;omega)]))
    clear e0 e2 e3
    have HDD:=hid (decide_eq_false hds)
    clear hds
    obtain⟨_,_,hbo,hc⟩:=rdp_at HST.out.Or.rd.row j hjl
    cases hbo
    obtain⟨z0,z1,z2,z3,z4,z5⟩:=hc _ (Below.refl _ _)
    simp only[Nat.zero_add] at z0 z1 z2 z3 z4 z5
    clear hc
    have HPV:Hid ((G[j]'hjl).val =P j):=hid (by have q:=HGV2.out j hjl;rw[if_pos (by omega)] at q;exact q)
    have HPO:=hid (HST.out.Or.votes (G[j]'hjl) (mem_get hjl))
    obtain⟨p,hp⟩: ∃p,(G[j]'hjl)=p:=⟨_,rfl⟩
    have HDD2:Hid (decide ((G[j]'hjl).done <(S:Int))=false):=HDD
    rw[hp] at HDD2 HPV HPO z0 z1 z2 z3 z4 z5
    clear hp
    obtain⟨pw,pd,pv,pq,pt,pl,pa,pc⟩:=p
    unfold PromC.u at z5
    dsimp only at HDD2 z0 z1 z2 z3 z4 z5
    have hpd:decide (pd<(S:Int))=false:=HDD2.out
    cases hg:g j
    case false=>
     have dB:(bits BinOp.and IntKind.u8 ((ask:Int) / 2 ^ j) 1==1)=false:=by rw[HG.out] at hg;exact hg
     have HQV2:Hid (valsP Q=qsF g P (j+1)):=hid (by rw[HQS.out,hg];exact HQV.out)
     clear hg
     go_wp2
     go_roundw
     case rel=>exact⟨j+1,M+1,G,Q,qa,qc,by omega,by go_num,by first | rfl | go_num,rfl,by omega,by omega,HM2,HGK,HGV2,HQV2,HST⟩
     case measure=>simp [intOf];omega
    have dB:(bits BinOp.and IntKind.u8 ((ask:Int) / 2 ^ j) 1==1)=true:=by rw[HG.out] at hg;exact hg
    have HQV2:Hid (qsF g P (j+1)=valsP Q++ [P j]):=hid (by rw[HQS.out,hg,HQV.out];rfl)
    clear hg
    have hnw:=Nat.le_trans HST.out.lo HST.out.WW
    go_wp2_with (at_builtin;refine wpList_append_grD cellsP_length (by omega) rfl _ _ 22 rfl 29 i6 _ 64 Try.underlying22 hi6 h60 h61 h62 rfl #[.int .i64 pw,.int .i64 pd,.int .i64 pv,.int .i64 pq,.int .i64 pt,.slice pa pl.length pc] (⟨pw,pd,pv,pq,pt,pl,pa,pc⟩:PromC) rfl (cellsP_one _) Q W.heap.size (.slice qa Q.length qc) rfl rfl HST.out.Qr (by unfold maxLen;omega) (by omega) HST.out.WW ?_;intro v6 w6 ho6 hg6 _;have hst:=HST.out.push hnw (⟨pw,pd,pv,pq,pt,pl,pa,pc⟩:PromC) HPO.out hg6 ho6;obtain⟨Q',hQ'⟩: ∃Q',Q++ [(⟨pw,pd,pv,pq,pt,pl,pa,pc⟩:PromC)]=Q':=⟨_,rfl⟩;have hql:Q'.length<=j+1:=(by rw[<-hQ',List.length_append,List.length_singleton];omega);have HQ3:Hid (valsP Q'=qsF g P (j+1)):=hid (by rw[<-hQ',valsP_snoc,HPV.out,HQV2.out]);rw[hQ'] at hst ho6;obtain⟨qb,qd,rfl⟩:=Rw.own_form ho6;have HST6:=hid hst;clear hst ho6 hg6 hQ')
    go_roundw
    case rel=>exact⟨j+1,M+1,G,Q',qb,qd,by omega,by go_num,by first | rfl | go_num,rfl,by omega,hql,HM2,HGK,HGV2,HQ3,HST6⟩
    case measure=>simp [intOf];omega
   have HDS:=hid hds
   have e0:=HGV.out j hjl
   rw[if_neg (by omega)] at e0
   have HE0:=hid e0
   have h9:(G[j]'hjl).votes.length <=9:=by have q:=HORI.out.n9 j hlt;rw[<-e0] at q;unfold PromC.val at q;dsimp only at q;rw[valsV_length] at q;exact q
   have HPJ:Hid (P j= { (O j) with votes:=withV (O j).votes x0.val }):=hid (by rw[<-HP.out];unfold newPr;rw[if_pos ⟨HFJ.out,by rw[<-e0];have q:=HDS.out;have e3:x0.val.slot=(S:Int):=(by rw[HX0.out];rfl);rw[e3];exact q⟩])
   have HVO:=hid (HST.out.Or.votes (G[j]'hjl) (mem_get hjl))
   have HCG:Hid (∀Wx,Below wr.heap.size wr Wx->Wx.cell? ⟨ga,j*6+5,none⟩=some (G[j]'hjl).u):=hid (by obtain⟨_,_,hbo,hc⟩:=rdp_at HST.out.Or.rd.row j hjl;cases hbo;intro Wx hb;obtain⟨-, -, -, -, -,q⟩:=hc Wx hb;simp only[Nat.zero_add] at q;exact q)
   obtain⟨_,_,hbo,hc⟩:=rdp_at HST.out.Or.rd.row j hjl
   cases hbo
   obtain⟨z0,z1,z2,z3,z4,z5⟩:=hc _ (Below.refl _ _)
   simp only[Nat.zero_add] at z0 z1 z2 z3 z4 z5
   clear hc
   have hpd:decide ((G[j]'hjl).done <(S:Int))=true:=decide_eq_true hds
   have HPUT:=hid (fun(Wx:World) (M2:List VoteC) (va:Option Addr) (vc:Nat) (hs:StC w.heap.size W.heap.size w ga gx k cap #[.bool xf,.int .i64 xv,.int .i64 xtv,.int .i64 xts,.int .i64 xt,.slice xa xr.length xc] x0 Wx G (.slice qa Q.length qc) Q) (hM:OwnV w.heap.size Wx (.slice va M2.length vc) M2)=>hs.put HGK.out j hjl hM)
   have HGVX:=hid (fun(M2:List VoteC) (va:Option Addr) (vc:Nat) (e:valsV M2=withV (valsV (G[j]'hjl).votes) x0.val)=>gv_set HGV.out (y:=(G[j]'hjl).give M2 va vc) (by rw[HPJ.out,<-HE0.out];unfold PromC.val PromC.give;dsimp only;rw[e]))
   have HGKX:=hid (fun(y:PromC)=>(show(G.set j y).length =k by rw[List.length_set];exact HGK.out))
   clear hds e0
   obtain⟨p,hp⟩: ∃p,(G[j]'hjl)=p:=⟨_,rfl⟩
   rw[hp] at h9 HVO HCG z0 z1 z2 z3 z4 z5 hpd
   have HPP:=hid hp
   rw[hp] at HPUT HGVX
   clear hp
   obtain⟨pw,pd,pv,pq,pt,pl,pa,pc⟩:=p
   unfold PromC.u at z5 HVO HCG
   dsimp only at h9 HVO HCG z0 z1 z2 z3 z4 z5 hpd HGVX
   go_upto_region 16 with fail
   clear z0 z1 z2 z3 z4 z5 hpd dA
   have HSS:Hid (∀Wx,HeapAt Wx gx (.cells #[.bool xf,.int .i64 xv,.int .i64 xtv,.int .i64 xts,.int .i64 xt,.slice xa xr.length xc] 47)->(fun Wx=>(Wx.cell? ⟨gx,0,none⟩=some (.bool xf)/\Wx.cell? ⟨gx,1,none⟩=some (.int .i64 xv)/\Wx.cell? ⟨gx,2,none⟩=some (.int .i64 xtv)/\Wx.cell? ⟨gx,3,none⟩=some (.int .i64 xts)/\Wx.cell? ⟨gx,4,none⟩=some (.int .i64 xt)/\Wx.cell? ⟨gx,5,none⟩=some (.slice xa xr.length xc))) Wx):=hid (fun Wx hx=>⟨cell_at hx 0,cell_at hx 1,cell_at hx 2,cell_at hx 3,cell_at hx 4,cell_at hx 5⟩)
   refine wp_region_held_drew (S:=(fun Wx=>(Wx.cell? ⟨gx,0,none⟩=some (.bool xf)/\Wx.cell? ⟨gx,1,none⟩=some (.int .i64 xv)/\Wx.cell? ⟨gx,2,none⟩=some (.int .i64 xtv)/\Wx.cell? ⟨gx,3,none⟩=some (.int .i64 xts)/\Wx.cell? ⟨gx,4,none⟩=some (.int .i64 xt)/\Wx.cell? ⟨gx,5,none⟩=some (.slice xa xr.length xc)))) (by kernel_rfl) (HSS.out _ (HST.out.X.later (Below.refl _ _).drew)) (fun hHeld=>?_)
   obtain⟨V,hV⟩: ∃V,V=wr.drew:=⟨_,rfl⟩
   have hb:Below wr.heap.size wr V:=(by rw[hV];exact(Below.refl _ _).drew)
   rw[<-hV] at hHeld ⊢
   have HSV:=hid (HST.out.later hb HNW.out (step HST.out.B hb))
   have HBV:=hid hb
   clear hV hb
   refine wpAnyH_take (i:=0) (v:=?_) rfl (by kernel_rfl) (by kernel_rfl) (by kernel_rfl) (fun _ _ _ h=>h) (Or.inl ⟨by rfl,?_⟩) (by assumption) ?_
   rotate_left
   ·intro w hSw;(try dsimp only at hSw);go_simp<;>with_reducible rfl
   try simp only[Act.put,getElem_toArray,getElem_cons_succ,getElem_cons_zero,setIfInBounds_toArray,set_cons_zero,set_cons_succ]
   refine wpAnyH_take (i:=1) (v:=?_) rfl (by kernel_rfl) (by kernel_rfl) (by kernel_rfl) (fun _ _ _ h=>h) (Or.inl ⟨by rfl,?_⟩) (by assumption) ?_
   rotate_left
   ·intro w hSw;(try dsimp only at hSw);go_simp<;>with_reducible rfl
   try simp only[Act.put,getElem_toArray,getElem_cons_succ,getElem_cons_zero,setIfInBounds_toArray,set_cons_zero,set_cons_succ]
   refine wpAnyH_take (i:=2) (v:=?_) rfl (by kernel_rfl) (by kernel_rfl) (by kernel_rfl) (fun _ _ _ h=>h) (Or.inl ⟨by rfl,?_⟩) (by assumption) ?_
   rotate_left
   ·intro w hSw;(try dsimp only at hSw);go_simp<;>with_reducible rfl
   try simp only[Act.put,getElem_toArray,getElem_cons_succ,getElem_cons_zero,setIfInBounds_toArray,set_cons_zero,set_cons_succ]
   refine wpAnyH_take (i:=3) (v:=?_) rfl (by kernel_rfl) (by kernel_rfl) (by kernel_rfl) (fun _ _ _ h=>h) (Or.inl ⟨by rfl,?_⟩) (by assumption) ?_
   rotate_left
   ·intro w hSw;(try dsimp only at hSw);go_simp<;>with_reducible rfl
   try simp only[Act.put,getElem_toArray,getElem_cons_succ,getElem_cons_zero,setIfInBounds_toArray,set_cons_zero,set_cons_succ]
   refine wpAnyH_take (i:=4) (v:=?_) rfl (by kernel_rfl) (by kernel_rfl) (by kernel_rfl) (fun _ _ _ h=>h) (Or.inl ⟨by rfl,?_⟩) (by assumption) ?_
   rotate_left
   ·intro w hSw;(try dsimp only at hSw);go_simp<;>with_reducible rfl
   try simp only[Act.put,getElem_toArray,getElem_cons_succ,getElem_cons_zero,setIfInBounds_toArray,set_cons_zero,set_cons_succ]
   refine wpAnyH_take (i:=5) (v:=?_) rfl (by kernel_rfl) (by kernel_rfl) (by kernel_rfl) (fun _ _ _ h=>h) (Or.inl ⟨by rfl,?_⟩) (by assumption) ?_
   rotate_left
   ·intro w hSw;(try dsimp only at hSw);go_simp<;>with_reducible rfl
   try simp only[Act.put,getElem_toArray,getElem_cons_succ,getElem_cons_zero,setIfInBounds_toArray,set_cons_zero,set_cons_succ]
   refine wpAnyH_take (i:=7) (v:=?_) rfl (by kernel_rfl) (by kernel_rfl) (by kernel_rfl) (fun _ _ _ h=>h) (Or.inl ⟨by rfl,?_⟩) (by assumption) ?_
   rotate_left
   ·intro w hSw;(try dsimp only at hSw);go_simp<;>with_reducible rfl
   try simp only[Act.put,getElem_toArray,getElem_cons_succ,getElem_cons_zero,setIfInBounds_toArray,set_cons_zero,set_cons_succ]
   refine wpAnyH_take (i:=8) (v:=?_) rfl (by kernel_rfl) (by kernel_rfl) (by kernel_rfl) (fun _ _ _ h=>h) (Or.inl ⟨by rfl,?_⟩) (by assumption) ?_
   rotate_left
   ·intro w hSw;(try dsimp only at hSw);go_simp<;>with_reducible rfl
   try simp only[Act.put,getElem_toArray,getElem_cons_succ,getElem_cons_zero,setIfInBounds_toArray,set_cons_zero,set_cons_succ]
   refine wpAnyH_take (i:=9) (v:=?_) rfl (by kernel_rfl) (by kernel_rfl) (by kernel_rfl) (fun _ _ _ h=>h) (Or.inl ⟨by rfl,?_⟩) (by assumption) ?_
   rotate_left
   ·intro w hSw;(try dsimp only at hSw);go_simp<;>with_reducible rfl
   try simp only[Act.put,getElem_toArray,getElem_cons_succ,getElem_cons_zero,setIfInBounds_toArray,set_cons_zero,set_cons_succ]
   refine wpAnyH_take (i:=10) (v:=?_) rfl (by kernel_rfl) (by kernel_rfl) (by kernel_rfl) (fun _ _ _ h=>h) (Or.inl ⟨by rfl,?_⟩) (by assumption) ?_
   rotate_left
   ·intro w hSw;(try dsimp only at hSw);go_simp<;>with_reducible rfl
   try simp only[Act.put,getElem_toArray,getElem_cons_succ,getElem_cons_zero,setIfInBounds_toArray,set_cons_zero,set_cons_succ]
   refine wpAnyH_ready (rs:= [6]) (by kernel_rfl) (by simp) ?_
   refine AllReadyH.cons rfl (fun K hK=>?_) AllReadyH.nil
   have kc:=HCG.out _ HBV.out
   go_simp
   clear kc
   refine hK.out _ _ (HSS.out _ HSV.out.X) (fun hHeld=>?_)
   clear hK K
   try simp only[Act.put,getElem_toArray,getElem_cons_succ,getElem_cons_zero,setIfInBounds_toArray,set_cons_zero,set_cons_succ]
   refine wpAnyH_ready (rs:= [11]) (by kernel_rfl) (by simp) ?_
   refine AllReadyH.cons rfl (fun K hK=>?_) AllReadyH.nil
   go_simp
   have CW:=with_any _ pl x0 w.heap.size V (HVO.out.later HBV.out) HSV.out.XO h9
   rw[show voteVal x0= .agg #[.int .i64 (S:Int),.int .i64 (B:Int),.bool xf,.int .i64 xv,.int .i64 xtv,.int .i64 xts,.int .i64 xt,.slice xa xr.length xc] by rw[HX0.out];rfl] at CW
   have CW2:=hid CW
   clear CW
   go_at_call 18
   refine CW2.out.mono ?_
   rintro e V' ⟨va,vc,M2,rfl,hv2,hl2,ho2,hq2,hb2⟩
   have hnv:=HSV.out.WW
   have hn0:=HSV.out.lo
   have HMV:=hid (show OwnV w.heap.size V' (.slice va M2.length vc) M2 from⟨own_lowerX ho2 (Nat.le_trans hn0 hnv),hq2⟩)
   have HGV2:=hid (HGVX.out M2 va vc hv2)
   have HSV:=hid (HSV.out.later hb2 (Nat.le_trans hn0 hnv) (step HSV.out.B hb2))
   have HBV:=hid (step HBV.out hb2)
   clear hv2 hl2 ho2 hq2 hb2 CW2 hnv hn0
   obtain⟨V,rfl⟩: ∃V,V=V':=⟨_,rfl⟩
   refine hK.out _ _ (HSS.out _ HSV.out.X) (fun hHeld=>?_)
   clear hK K
   try simp only[Act.put,getElem_toArray,getElem_cons_succ,getElem_cons_zero,setIfInBounds_toArray,set_cons_zero,set_cons_succ]
   refine wpAnyH_take (i:=12) (v:=?_) rfl (by kernel_rfl) (by kernel_rfl) (by kernel_rfl) (fun _ _ _ h=>h) (Or.inl ⟨by rfl,?_⟩) (by assumption) ?_
   rotate_left
   ·intro w hSw;(try dsimp only at hSw);go_simp<;>with_reducible rfl
   try simp only[Act.put,getElem_toArray,getElem_cons_succ,getElem_cons_zero,setIfInBounds_toArray,set_cons_zero,set_cons_succ]
   refine wpAnyH_take (i:=13) (v:=?_) rfl (by kernel_rfl) (by kernel_rfl) (by kernel_rfl) (fun _ _ _ h=>h) (Or.inl ⟨by rfl,?_⟩) (by assumption) ?_
   rotate_left
   ·intro w hSw;(try dsimp only at hSw);go_simp<;>with_reducible rfl
   try simp only[Act.put,getElem_toArray,getElem_cons_succ,getElem_cons_zero,setIfInBounds_toArray,set_cons_zero,set_cons_succ]
   refine wpAnyH_ready (rs:= [14]) (by kernel_rfl) (by simp) ?_
   refine AllReadyH.cons rfl (fun K hK=>?_) AllReadyH.nil
   have kc:=HCG.out _ HBV.out
   have kf:V.frozen? ⟨ga,j*6+5,none⟩=false:=by obtain⟨cur,hc0, -⟩:=HSV.out.Or.heap;exact frozen_at hc0 _
   go_simp
   clear kc kf
   have HSV:=hid (HPUT.out V M2 va vc HSV.out HMV.out)
   have HGK2:=hid (HGKX.out ((⟨pw,pd,pv,pq,pt,pl,pa,pc⟩:PromC).give M2 va vc))
   refine hK.out _ _ (HSS.out _ HSV.out.X) (fun hHeld=>?_)
   clear hK K
   try simp only[Act.put,getElem_toArray,getElem_cons_succ,getElem_cons_zero,setIfInBounds_toArray,set_cons_zero,set_cons_succ]
   refine wpAnyH_done (by kernel_rfl) ?_ _
   generalize V.setCell ⟨ga,j*6+5,none⟩ (.slice va M2.length vc)=V' at HSV ⊢
   generalize G.set j ((⟨pw,pd,pv,pq,pt,pl,pa,pc⟩:PromC).give M2 va vc)=G' at HSV HGV2 HGK2
   clear HVO HCG HPUT HGVX HGKX HPP HMV HPJ HE0
   have hjl2:j<G'.length:=by rw[HGK2.out];exact hlt
   clear h9
   obtain⟨_,_,hbo,hc⟩:=rdp_at HSV.out.Or.rd.row j hjl2
   cases hbo
   obtain⟨z0,z1,z2,z3,z4,z5⟩:=hc _ (Below.refl _ _)
   simp only[Nat.zero_add] at z0 z1 z2 z3 z4 z5
   clear hc
   have HPV:Hid ((G'[j]'hjl2).val =P j):=hid (by have q:=HGV2.out j hjl2;rw[if_pos (by omega)] at q;exact q)
   have HPO:=hid (HSV.out.Or.votes (G'[j]'hjl2) (mem_get hjl2))
   obtain⟨p,hp⟩: ∃p,(G'[j]'hjl2)=p:=⟨_,rfl⟩
   rw[hp] at HPV HPO z0 z1 z2 z3 z4 z5
   clear hp
   obtain⟨pw,pd,pv,pq,pt,pl,pa,pc⟩:=p
   unfold PromC.u at z5
   dsimp only at z0 z1 z2 z3 z4 z5
   cases hg:g j
   case false=>
    have dB:(bits BinOp.and IntKind.u8 ((ask:Int) / 2 ^ j) 1==1)=false:=by rw[HG.out] at hg;exact hg
    have HQV2:Hid (valsP Q=qsF g P (j+1)):=hid (by rw[HQS.out,hg];exact HQV.out)
    clear hg
    go_wp2
    go_roundw
    case rel=>exact⟨j+1,M+1,G',Q,qa,qc,by omega,by go_num,by first | rfl | go_num,rfl,by omega,by omega,HM2,HGK2,HGV2,HQV2,HSV⟩
    case measure=>simp [intOf];omega
   have dB:(bits BinOp.and IntKind.u8 ((ask:Int) / 2 ^ j) 1==1)=true:=by rw[HG.out] at hg;exact hg
   have HQV2:Hid (qsF g P (j+1)=valsP Q++ [P j]):=hid (by rw[HQS.out,hg,HQV.out];rfl)
   clear hg
   have hnw:=Nat.le_trans HSV.out.lo HSV.out.WW
   go_wp2_with (at_builtin;refine wpList_append_grD cellsP_length (by omega) rfl _ _ 22 rfl 29 i6 _ 64 Try.underlying22 hi6 h60 h61 h62 rfl #[.int .i64 pw,.int .i64 pd,.int .i64 pv,.int .i64 pq,.int .i64 pt,.slice pa pl.length pc] (⟨pw,pd,pv,pq,pt,pl,pa,pc⟩:PromC) rfl (cellsP_one _) Q W.heap.size (.slice qa Q.length qc) rfl rfl HSV.out.Qr (by unfold maxLen;omega) (by omega) HSV.out.WW ?_;intro v6 w6 ho6 hg6 _;have hst:=HSV.out.push hnw (⟨pw,pd,pv,pq,pt,pl,pa,pc⟩:PromC) HPO.out hg6 ho6;obtain⟨Q',hQ'⟩: ∃Q',Q++ [(⟨pw,pd,pv,pq,pt,pl,pa,pc⟩:PromC)]=Q':=⟨_,rfl⟩;have hql:Q'.length<=j+1:=(by rw[<-hQ',List.length_append,List.length_singleton];omega);have HQ3:Hid (valsP Q'=qsF g P (j+1)):=hid (by rw[<-hQ',valsP_snoc,HPV.out,HQV2.out]);rw[hQ'] at hst ho6;obtain⟨qb,qd,rfl⟩:=Rw.own_form ho6;have HST6:=hid hst;clear hst ho6 hg6 hQ')
   go_roundw
   case rel=>exact⟨j+1,M+1,G',Q',qb,qd,by omega,by go_num,by first | rfl | go_num,rfl,by omega,hql,HM2,HGK2,HGV2,HQ3,HST6⟩
   case measure=>simp [intOf];omega
  case neg=>
   have hjk:j=k:=by omega
   subst hjk
   clear hlt
   have HQL:Hid (Q.length=cntB g j):=hid (by rw[<-qsF_len g P j,<-HQV.out,valsP_length])
   have CMP:=hid (fun q (hq:q<G.length) Wx (hb:Below wr.heap.size wr Wx)=>MayPromise_any G[q] Wx ((HST.out.Or.votes G[q] (mem_get hq)).rd.later hb))
   have HGP:Hid (∀q (hq:q<G.length),q<j->G[q].val =P q):=hid (fun q hq h=>by rw[HGV.out q hq,if_pos h])
   have HRD:=hid (fun q hq=>rdp_at HST.out.Or.rd.row q hq)
   have HQRD:Hid (RdP wr (.slice qa Q.length qc) Q):=hid ⟨RdX.own cellsP_length HST.out.Qr,fun x hx=>(HST.out.QO x hx).rd⟩
   have HBW:=hid HST.out.B
   have HXW:=hid HST.out.X
   have HXR:=hid HST.out.XO.rd
   clear HGV HST
   have ew1:IntKind.i64.wrap (2*(M:Int))=2*(M:Int):=by rw[IntKind.wrap_i64];omega
   have ew2:IntKind.i64.wrap (2*(Q.length:Int))=2*(Q.length:Int):=by rw[IntKind.wrap_i64];omega
   obtain⟨ql,hql⟩: ∃ql,Q.length=ql:=⟨_,rfl⟩
   have HQN:=hid hql
   rw[hql] at ew2 hQj HQL HQRD ⊢
   clear hql
   by_cases c1:2*M<=j
   ·have d1:decide (2*(M:Int)<=(j:Int))=true:=decide_eq_true (by omega)
    clear c1 hMj hQj hj
    go_wp2_with (go_at_call 7;refine(AW.out _).mono ?_;rintro e w7 ⟨rfl,hb7⟩)
    go_ret
    exact⟨rfl,step HBW.out hb7⟩
   have d1:decide (2*(M:Int)<=(j:Int))=false:=decide_eq_false (by omega)
   by_cases c2:2*ql<=j
   ·have d2:decide (2*(ql:Int)<=(j:Int))=true:=decide_eq_true (by omega)
    clear c1 c2 hMj hQj hj
    go_wp2_with (go_at_call 7;refine(AW.out _).mono ?_;rintro e w7 ⟨rfl,hb7⟩)
    go_ret
    exact⟨rfl,step HBW.out hb7⟩
   have d2:decide (2*(ql:Int)<=(j:Int))=false:=decide_eq_false (by omega)
   have HC1:Hid (j<2*cntB f j):=hid (by rw[<-HM.out];omega)
   have HC2:Hid (j<2*cntB g j):=hid (by rw[<-HQL.out];omega)
   clear c1 c2 hMj
   obtain⟨W1,rfl⟩: ∃W1,W1=wr:=⟨_,rfl⟩
   go_upto_region 21 with fail
   clear d1 d2 ew1 ew2
   go_wp2
   go_loopw [14,23,109] (fun _ i _ wr=> ∃q:Nat,q<=j/\i= .int .i64 (q:Int)/\Hid (Below W1.heap.size W1 wr)/\Hid (∀z,z<q->mayP (P z)=true)) (fun _ i _ _=>j - (intOf i).toNat)
   case atStart=>exact⟨0,by omega,rfl,hid (Below.refl _ _),hid (fun z hz=>by omega)⟩
   case round=>
    obtain⟨q,hq,rfl,HB2,HMQ⟩:=hrel
    by_cases hlq:q<j
    case pos=>
     have hql:q<G.length:=by rw[HGK.out];exact hlq
     obtain⟨_,_,hbo,hc⟩:=HRD.out q hql
     cases hbo
     obtain⟨z0,z1,z2,z3,z4,z5⟩:=hc _ HB2.out
     simp only[Nat.zero_add] at z0 z1 z2 z3 z4 z5
     have cmp:=CMP.out q hql _ HB2.out
     have e0:=HGP.out q hql hlq
     obtain⟨p,hp⟩: ∃p,G[q]=p:=⟨_,rfl⟩
     rw[hp] at cmp e0 z0 z1 z2 z3 z4 z5
     rw[e0] at cmp
     clear hp hc e0
     obtain⟨pw,pd,pv,pq,pt,pl,pa,pc⟩:=p
     unfold promVal PromC.u at cmp
     unfold PromC.u at z5
     dsimp only at cmp z0 z1 z2 z3 z4 z5
     have hq0:(0:Int)<=(q:Int):=by omega
     have hq1:(q:Int)<(j:Int):=by omega
     have CMX:=hid cmp
     clear cmp
     cases hm:mayP (P q)
     case false=>
      rw[hm] at CMX
      clear hm
      go_wp2_with (first
       | (go_at_call 10;refine CMX.out.mono ?_;rintro e w6 ⟨rfl,hb6⟩)
       | (go_at_call 7;refine(AW.out _).mono ?_;rintro e w7 ⟨rfl,hb7⟩))
      go_ret
      exact⟨rfl,step HBW.out (step HB2.out (step hb6 hb7))⟩
     case true=>
      have HMQ2:Hid (∀z,z<q+1->mayP (P z)=true):=hid (fun z hz=>by rcases Nat.lt_succ_iff_lt_or_eq.1 hz with y | y;exact HMQ.out z y;rw[y];exact hm)
      rw[hm] at CMX
      clear hm
      go_wp2_with (go_at_call 10;refine CMX.out.mono ?_;rintro e w6 ⟨rfl,hb6⟩)
      go_roundw
      case rel=>exact⟨q+1,by omega,by go_num,hid (step HB2.out hb6),HMQ2⟩
      case measure=>simp [intOf];omega
    case neg=>
     have hqj:q=j:=by omega
     subst hqj
     clear hlq hq CMP HGP HRD HGK
     have hmall: ∀z,z<q->mayP (newPr f x0.val O z)=true:=fun z hz=>by rw[HP.out];exact HMQ.out z hz
     have hok:=chosen_ok (g:=g) HORI.out.dis hmall
     have hql0:ql≠0:=by have:=HC2.out;have:=HQL.out;omega
     obtain⟨R,hR⟩: ∃R,planF (sortP (qsF g P q))=R:=⟨_,rfl⟩
     have hch:=fun hs=>chosen_at (g:=g) (v:=x0.val) (R:=R) HORI.out.dis hmall (fun i hi y hy=>by rw[HX0.out];exact HORI.out.low i hi y hy) HC1.out HC2.out (by rw[HP.out];exact hR) hs
     have hpl:=plan_at hok (by rw[qsF_len];have:=HC2.out;omega)
     rw[HP.out] at hok hpl
     rw[hR] at hpl
     obtain⟨pz,hpz,hpd⟩:=hpl.has
     have hrd0:0<=R.done:=by rw[<-hpd];exact(mayP_ok (((okS_iff _ []).1 hok).1 pz hpz)).d0
     have CMK:Hid (Calls Try.prog 11 #[.slice qa ql qc] wr (GivesP (R,0) wr)):=hid (by
      have z:=Make_any _ Q wr (HQRD.out.later HB2.out) (by rw[HQN.out];omega)
      have e:makeF (valsP Q)=(R,0):=by unfold makeF;rw[valsP_length,HQN.out,if_neg hql0,HQV.out,hok,hR];rfl
      rw[e] at z
      exact z)
     have HCH:Hid (R.done<(S:Int)->(S:Int) - R.done<=(R.bats.length:Int)/\ ∀n:Nat,(S:Int) - R.done - 1=(n:Int)->R.bats[n]?=some ⟨xf,xv,xtv,xts,xt,xr⟩):=hid (by rw[HX0.out] at hch;exact hch)
     clear hch hpl hpz hpd hok hmall hR hql0
     have HSX:=hid (RdX.later (by have z:=HXR.out;rw[HX0.out] at z;exact z) HB2.out)
     obtain⟨Rd,Rt,Rs,Rm,Rb,Re,Rf,Rl⟩:=R
     unfold GivesP planVal at CMK
     dsimp only at CMK HCH hrd0
     go_upto_region 27 with (go_at_call 11;refine CMK.out.mono ?_;rintro e w2 ⟨va,vc,La,rfl,hva,hoa,hb2⟩;have HVA:=hid hva;have HOA:=hid hoa.rd;have HBA:=hid hb2;clear hva hoa hb2)
     obtain⟨na,hna⟩: ∃na,La.length=na:=⟨_,rfl⟩
     rw[hna]
     have HNR:Hid (na=Rb.length):=hid (by rw[<-hna,<-valsB_length,HVA.out])
     have HNA:=hid hna
     have hbp:=newAlloc w2 (.cells #[.int .i64 Rd,.int .i64 Rt,.int .i64 Rs,.int .i64 Rm,.slice va na vc,.int .i64 Re,.int .i64 Rf,.int .i64 Rl] 32)
     have HX3:=hid (BoxL.new w2 Rd Rt Rs Rm (.slice va na vc) Re Rf Rl _ rfl)
     have HOA3:=hid (HOA.out.later hbp)
     have HBA3:=hid (step HBA.out hbp)
     generalize w2.alloc (.cells #[.int .i64 Rd,.int .i64 Rt,.int .i64 Rs,.int .i64 Rm,.slice va na vc,.int .i64 Re,.int .i64 Rf,.int .i64 Rl] 32)=W3 at HX3 HOA3 HBA3 ⊢
     generalize w2.heap.size=g3 at HX3 ⊢
     clear hbp hna CMK HOA HBA
     have HB3:=hid (step HBW.out (step HB2.out HBA3.out))
     have HX6:=hid (HXW.out.later (step HB2.out HBA3.out))
     have HSX3:=hid (RdX.later HSX.out HBA3.out)
     obtain⟨c0,c1,c2,c3,c4,c5,c6,c7⟩:=HX3.out.c
     by_cases hds:(S:Int)<=Rd
     ·have dd:decide ((S:Int)<=Rd)=true:=decide_eq_true hds
      clear hds
      go_wp2_with (go_at_call 7;refine(AW.out _).mono ?_;rintro e w7 ⟨rfl,hb7⟩)
      go_ret
      exact⟨rfl,step HB3.out hb7⟩
     have dd:decide ((S:Int)<=Rd)=false:=decide_eq_false hds
     obtain⟨hln,hat⟩:=HCH.out (by omega)
     have hsb:=HSB.out
     obtain⟨n1,hn1⟩: ∃n1:Nat,(S:Int) - Rd - 1=(n1:Int):=⟨((S:Int) - Rd - 1).toNat,by omega⟩
     have hbn:=hat n1 hn1
     have hnn:=HNR.out
     have ewa:IntKind.i64.wrap ((S:Int) - Rd)=(S:Int) - Rd:=by rw[IntKind.wrap_i64];omega
     have ewb:IntKind.i64.wrap ((S:Int) - Rd - 1)=(n1:Int):=by rw[IntKind.wrap_i64];omega
     have dl:decide ((S:Int) - Rd<=(na:Int))=true:=decide_eq_true (by omega)
     have hz0:(0:Int)<=(n1:Int):=by omega
     have hz1:(n1:Int)<(na:Int):=by omega
     have hnl:n1<La.length:=by rw[HNA.out];omega
     obtain⟨b3,o3,rfl,hc3⟩:=rdb_at HOA3.out.row n1 hnl
     obtain⟨y0,y1,y2,y3,y4,y5⟩:=hc3 _ (Below.refl _ _)
     have hye:La[n1].bat =⟨xf,xv,xtv,xts,xt,xr⟩:=by
      have z:=hbn
      rw[<-HVA.out,List.getElem?_eq_getElem (by rw[valsB_length];exact hnl),valsB_get La n1 hnl] at z
      exact Option.some.inj z
     have hyr:=HOA3.out.reqs La[n1] (mem_get hnl)
     obtain⟨y,hy⟩: ∃y,La[n1]=y:=⟨_,rfl⟩
     rw[hy] at hye hyr y0 y1 y2 y3 y4 y5
     clear hc3 hy hnl hbn hat hnn hln hn1 hsb hds
     obtain⟨yb,ya,yc⟩:=y
     dsimp only at hye
     subst hye
     unfold BatC.u at hyr y5
     dsimp only at hyr y0 y1 y2 y3 y4 y5
     have CS:Hid (∀Wx,Below W3.heap.size W3 Wx->Calls Try.prog 19 #[.agg #[.bool xf,.int .i64 xv,.int .i64 xtv,.int .i64 xts,.int .i64 xt,.slice ya xr.length yc],.agg #[.bool xf,.int .i64 xv,.int .i64 xtv,.int .i64 xts,.int .i64 xt,.slice xa xr.length xc]] Wx (SaysB true Wx)):=hid (fun Wx hb=>by
      have z:=RefSameB_any ⟨xf,xv,xtv,xts,xt,xr⟩ ⟨xf,xv,xtv,xts,xt,xr⟩ _ _ Wx (RdX.later hyr hb) (RdX.later HSX3.out hb)
      rw[(sameB_iff _ _).2 rfl] at z
      exact z)
     clear hyr
     have x60:=cell_at HX6.out 0
     have x61:=cell_at HX6.out 1
     have x62:=cell_at HX6.out 2
     have x63:=cell_at HX6.out 3
     have x64:=cell_at HX6.out 4
     have x65:=cell_at HX6.out 5
     simp only[List.getElem?_toArray,List.getElem?_cons_zero,List.getElem?_cons_succ] at x60 x61 x62 x63 x64 x65
     go_upto_region 31 with fail
     have k0:=cell_regrown c0
     have k4:=cell_regrown c4
     have l0:=cell_regrown y0
     have l1:=cell_regrown y1
     have l2:=cell_regrown y2
     have l3:=cell_regrown y3
     have l4:=cell_regrown y4
     have l5:=cell_regrown y5
     have m0:=cell_regrown x60
     have m1:=cell_regrown x61
     have m2:=cell_regrown x62
     have m3:=cell_regrown x63
     have m4:=cell_regrown x64
     have m5:=cell_regrown x65
     have D1:=hid (fun d os=>Calls.regrown_of (w:=W3) (d:=d) (os:=os) (CS.out _ (below_regrown W3 d os)))
     have D2:=hid (fun d os=>Calls.regrown_of (w:=W3) (d:=d) (os:=os) (AW.out _))
     refine wp_region_quiet_below (by kernel_rfl) (by kernel_rfl) ?_
     repeat (go_big_quiet_step (fail))
     go_big_quiet_step (exact D1.out _ _)
     repeat (go_big_quiet_step (fail))
     go_big_quiet_step (exact D2.out _ _)
     repeat (go_big_quiet_step (fail))
     refine wpQuiet_nil ?_
     intro wz hw'
     have HBZ:Hid (Below W3.heap.size W3 wz):=hid (by obtain⟨⟨dq,osq⟩,hw2⟩:=hw';rw[hw2];exact below_regrown W3 dq osq)
     clear hw' k0 k4 l0 l1 l2 l3 l4 l5 m0 m1 m2 m3 m4 m5 D1 D2
     go_wp2
     go_ret
     exact⟨by simp,step HB3.out HBZ.out⟩
end Pl
end Go.Proofs.Ytheenjkmglmihaa
