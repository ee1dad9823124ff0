/- Texts laid together by program. -/
import Derived.Test.YtheenjkmglmihaaQU1
import Derived.Test.YtheenjkmglmihaaQT6
/- The statement PlanOrder as a contract. -/
set_option linter.unusedVariables false
set_option maxRecDepth 8000
set_option linter.unusedSimpArgs false
namespace Go.Proofs.Ytheenjkmglmihaa
open Lib (hid)
open List (getElem_toArray getElem_cons_succ getElem_cons_zero setIfInBounds_toArray set_cons_zero set_cons_succ)
open Go.RowKit
namespace Pl
open Cm Ac

structure OrdF (L:List PromC) (R:PlanV):Prop where
 d:0<=R.done/\R.done<=2305843009213693952
 most: ∀p∈L,decide (R.done<p.done)=false
 v: ∀p∈L,∀x∈p.votes,0<=x.slot/\x.slot<=2305843009213693952/\x.slot - R.done<=(R.bats.length:Int)
 al: ∀p∈L,∀x∈p.votes,∀n:Nat,x.slot - R.done - 1=(n:Int)-> ∀b,R.bats[n]?=some b->b.fill=true->x.bat.fill=false->decide (cntP x.slot 0 (valsP L)=1)=false
 n9: ∀p∈L,p.votes.length<=9
 len:R.bats.length<=9
 last:decide (R.time<=R.last)=true
theorem ord_of {L:List PromC} (hok:okS [] (valsP L)=true) (h0:L.length≠0):OrdF L (planF (sortP (valsP L))):=by
 have H:=plan_at hok (by rw[valsP_length];exact h0)
 generalize planF (sortP (valsP L))=R at H
 have hall:=((okS_iff _ []).1 hok).1
 have hm: ∀p∈L,p.val∈valsP L:=fun p hp=>List.mem_map.2 ⟨p,hp,rfl⟩
 have hc: ∀p∈L,∀x∈p.votes,(p.who,x.val)∈cand (valsP L):=fun p hp x hx=>mem_cand.2 ⟨p.val,hm p hp,rfl,List.mem_map.2 ⟨x,hx,rfl⟩⟩
 obtain⟨q,hq,hqd⟩:=H.has
 have hqo:=mayP_ok (hall q hq)
 refine⟨⟨by rw[<-hqd];exact hqo.d0,by rw[<-hqd];exact hqo.d1⟩,fun p hp=>?_,fun p hp x hx=>?_,fun p hp x hx n hn b hb hf hv=>?_,fun p hp=>?_,H.len,decide_eq_true H.time⟩
 ·have h1:p.done<=R.done:=H.most _ (hm p hp)
  exact decide_eq_false (by omega)
 ·have ho:=mayP_ok (hall _ (hm p hp))
  have hv:=ho.votes x.val (List.mem_map.2 ⟨x,hx,rfl⟩)
  have h1:=ho.d0
  have h2:p.val.done<x.slot:=hv.low
  have h3:x.slot<=2305843009213693952:=hv.high
  have h4:x.slot - R.done<=(R.bats.length:Int):=H.reach _ (hc p hp x hx)
  exact⟨by omega,h3,h4⟩
 ·refine decide_eq_false (fun hone=>?_)
  obtain⟨w,hw,e1,e2, -⟩:=H.win _ (hc p hp x hx) n hn
  have e:=alone_one hone hw (hc p hp x hx) e1 rfl
  rw[e,hb] at e2
  have e3:b=x.bat:=by cases e2;rfl
  rw[e3,hv] at hf
  cases hf
 ·have:=(mayP_ok (hall _ (hm p hp))).n9
  show p.votes.length<=9
  rw[<-valsV_length]
  exact this
theorem told_b {w:World} {v:Value} {T:List ToldC} (h:RdD w v T): ∀t∈valsD T,ToldB t:=by
 intro t ht
 obtain⟨x,hx,rfl⟩:=List.mem_map.1 ht
 have ho:=h.ok x hx
 refine⟨ho.d.1,ho.v.1,ho.s.1,ho.t.1,ho.t.2,fun v hv=>?_⟩
 obtain⟨y,hy,rfl⟩:=List.mem_map.1 hv
 exact⟨(ho.rd.ok y hy).b0,(ho.rd.ok y hy).b1⟩
set_option maxHeartbeats 16000000 in
theorem Order_any (v:Value) (T:List ToldC) (tw:Int) (w:World) (h:RdD w v T) (ht:0<=tw/\tw<256):Calls Try.prog 5 #[v,.int .u8 tw] w (SaysB true w):=by
 obtain⟨ta,tcap,rfl⟩:=h.row.form
 have AW:=hid (fun W=>awake16_ok W)
 have HOK:=hid (promsN_ok (told_b h))
 have CP:=hid (Promises_any _ T w h)
 clear h
 unfold GivesPs at CP
 generalize promsN (valsD T)=PV at*
 generalize T.length=TN at*
 obtain⟨i6,hi6,h60,h61,h62⟩:=info_partsP infoPr
 go_enter Try.func5,Try.ntmps5
 go_upto_region 2 with (go_at_call 14;refine CP.out.mono ?_;rintro e w1 ⟨a,cap,L,rfl,hpv,hl7,hop,hb1⟩;have HPV:=hid hpv;have HL7:=hid hl7;have HOP:=hid hop;have HRD:=hid hop.rd;have HB:=hid hb1;clear hop hb1 hl7 hpv)
 by_cases h0:L.length=0
 ·have d0:((L.length:Int)==0)=true:=by rw[h0];rfl
  clear CP HOP HRD HPV
  generalize L.length=N at*
  clear h0
  go_wp2_with (go_at_call 7;refine(AW.out _).mono ?_;rintro e w7 ⟨rfl,hb7⟩)
  go_ret
  exact⟨rfl,step HB.out hb7⟩
 have HORD:=hid (ord_of (by rw[HPV.out];exact HOK.out) h0)
 have HMK:Hid (makeF (valsP L)=(planF (sortP (valsP L)),0)):=hid (by unfold makeF;rw[valsP_length,if_neg h0,HPV.out,HOK.out];rfl)
 generalize planF (sortP (valsP L))=R at HORD HMK
 obtain⟨ga,gc,hv⟩:=own_shape HOP.out.row (by omega)
 cases hv
 obtain⟨N,hn⟩: ∃N,L.length=N:=⟨_,rfl⟩
 have HN:=hid hn
 obtain⟨_,_,hv,hlc,hcm, -⟩:=HRD.out.row.ex
 cases hv
 have hl7:=HL7.out
 have d0:((N:Int)==0)=false:=by simp;omega
 rw[hn] at HRD hlc hl7 h0 ⊢
 clear hn CP HPV HOK HOP HL7
 obtain⟨k,hk⟩: ∃k:Nat,k=tw.toNat % N:=⟨_,rfl⟩
 have hkN:k<N:=by rw[hk];exact Nat.mod_lt _ (by omega)
 have ew:IntKind.i64.wrap tw=tw:=by rw[IntKind.wrap_i64];omega
 have ek:tw.tmod (N:Int)=(k:Int):=by
  rw[Int.tmod_eq_emod_of_nonneg ht.1,hk,Int.natCast_emod,Int.toNat_of_nonneg ht.1]
 clear hk
 have HDL:Hid ((L.drop k).length =N - k):=hid (by rw[List.length_drop,HN.out])
 have HTL:Hid ((L.take k).length =k):=hid (by rw[List.length_take,HN.out];omega)
 have hkle:k<=N:=by omega
 have hkc:k<=cap:=by omega
 have hck: ¬cap=k:=by omega
 go_upto_region 5 with fail
 refine wp_region_held_drew (S:=fun _=>True) (by kernel_rfl) trivial (fun hHeld=>?_)
 obtain⟨V0,hV⟩: ∃V,V=w1.drew:=⟨_,rfl⟩
 have hb:Below w1.heap.size w1 V0:=(by rw[hV];exact(Below.refl _ _).drew)
 rw[<-hV]
 have HB:=hid (step HB.out hb)
 have HRD:=hid (HRD.out.later hb)
 clear hV hb
 have HDR:Hid (RdX 6 cellsP V0 (.slice (some ⟨ga,k*6,none⟩) (N - k) (cap - k)) (L.drop k)):=hid (by have q:=HRD.out.row.drop (by omega) k hkle;rw[if_neg hck] at q;have e:(some (⟨ga,0,none⟩:Addr)).map (·.add (k*6))=some ⟨ga,k*6,none⟩:=(by simp [Addr.add];omega);rw[e] at q;exact q)
 have HTR:=hid (HRD.out.row.take k hkle)
 refine wpAnyH_take (i:=1) (v:=?_) rfl (by kernel_rfl) (by kernel_rfl) (by kernel_rfl) (fun _ _ _ h=>h) (Or.inl ⟨by rfl,?_⟩) (by assumption) ?_
 rotate_left
 ·intro w hSw;(try dsimp only at hSw);go_simp<;>with_reducible rfl
 try simp only[Act.put,getElem_toArray,getElem_cons_succ,getElem_cons_zero,setIfInBounds_toArray,set_cons_zero,set_cons_succ]
 refine wpAnyH_take (i:=2) (v:=?_) rfl (by kernel_rfl) (by kernel_rfl) (by kernel_rfl) (fun _ _ _ h=>h) (Or.inl ⟨by rfl,?_⟩) (by assumption) ?_
 rotate_left
 ·intro w hSw;(try dsimp only at hSw);go_simp<;>with_reducible rfl
 try simp only[Act.put,getElem_toArray,getElem_cons_succ,getElem_cons_zero,setIfInBounds_toArray,set_cons_zero,set_cons_succ]
 refine wpAnyH_take (i:=3) (v:=?_) rfl (by kernel_rfl) (by kernel_rfl) (by kernel_rfl) (fun _ _ _ h=>h) (Or.inl ⟨by rfl,?_⟩) (by assumption) ?_
 rotate_left
 ·intro w hSw;(try dsimp only at hSw);go_simp<;>with_reducible rfl
 try simp only[Act.put,getElem_toArray,getElem_cons_succ,getElem_cons_zero,setIfInBounds_toArray,set_cons_zero,set_cons_succ]
 refine wpAnyH_take (i:=5) (v:=?_) rfl (by kernel_rfl) (by kernel_rfl) (by kernel_rfl) (fun _ _ _ h=>h) (Or.inl ⟨by rfl,?_⟩) (by assumption) ?_
 rotate_left
 ·intro w hSw;(try dsimp only at hSw);go_simp<;>with_reducible rfl
 try simp only[Act.put,getElem_toArray,getElem_cons_succ,getElem_cons_zero,setIfInBounds_toArray,set_cons_zero,set_cons_succ]
 refine wpAnyH_take (i:=6) (v:=?_) rfl (by kernel_rfl) (by kernel_rfl) (by kernel_rfl) (fun _ _ _ h=>h) (Or.inl ⟨by rfl,?_⟩) (by assumption) ?_
 rotate_left
 ·intro w hSw;(try dsimp only at hSw);go_simp<;>with_reducible rfl
 try simp only[Act.put,getElem_toArray,getElem_cons_succ,getElem_cons_zero,setIfInBounds_toArray,set_cons_zero,set_cons_succ]
 refine wpAnyH_take (i:=7) (v:=?_) rfl (by kernel_rfl) (by kernel_rfl) (by kernel_rfl) (fun _ _ _ h=>h) (Or.inl ⟨by rfl,?_⟩) (by assumption) ?_
 rotate_left
 ·intro w hSw;(try dsimp only at hSw);go_simp<;>with_reducible rfl
 try simp only[Act.put,getElem_toArray,getElem_cons_succ,getElem_cons_zero,setIfInBounds_toArray,set_cons_zero,set_cons_succ]
 refine wpAnyH_ready (rs:= [0]) (by kernel_rfl) (by simp) ?_
 refine AllReadyH.cons rfl (fun K hK=>?_) AllReadyH.nil
 go_simp
 obtain⟨V,hV⟩: ∃V',V'=V0.alloc (.cells #[] 29):=⟨_,rfl⟩
 have hb:Below V0.heap.size V0 V:=(by rw[hV];exact newAlloc _ _)
 have HO:Hid (V.ownsRow V0.heap.size 29 6 (.slice (some ⟨V0.heap.size,0,none⟩) 0 0) 0 []):=hid (by rw[hV];exact own_new V0 _ 6 _ _ rfl (Nat.le_refl _))
 rw[<-hV]
 have HV:=hid hb
 clear hV hb
 obtain⟨n5,hn5⟩: ∃n,V0.heap.size=n:=⟨_,rfl⟩
 have HN5:=hid hn5
 rw[hn5] at HO HV ⊢
 clear hn5
 refine hK.out _ _ trivial (fun hHeld=>?_)
 clear hK K
 try simp only[Act.put,getElem_toArray,getElem_cons_succ,getElem_cons_zero,setIfInBounds_toArray,set_cons_zero,set_cons_succ]
 refine wpAnyH_ready (rs:= [4]) (by kernel_rfl) (by simp) ?_
 refine AllReadyH.cons rfl (fun K hK=>?_) AllReadyH.nil
 refine step_append_own (by rfl) _ _ _ (by rfl) n5 29 i6 _ 6 64 Try.underlying22 hi6 h60 h61 h62 rfl (by omega) (.slice (some ⟨n5,0,none⟩) 0 0) 0 _ (by rfl) HO.out ⟨ga,k*6,none⟩ (N - k) _ (flatX cellsP (L.drop k)) (by rfl) (by rw[flatX_length cellsP_length];exact congrArg (· *6) HDL.out) (RdX.news cellsP_length (by omega) (HDR.out.later (by rw[HN5.out];exact HV.out))) (flatX_one cellsP_one _) (by unfold maxLen;omega) (by omega) (by have:=HV.out.size;rw[HN5.out] at this;exact this) ?_
 intro v' V' hown hgrow _
 have HV:=hid (HV.out.grown hgrow (by have:=HV.out.size;rw[HN5.out] at this;exact this) (fun g hg=>(Rw.own_lt HO.out g hg).1))
 have HO:=hid hown
 obtain⟨vb,vd,rfl⟩:=Rw.own_form HO.out
 clear hown hgrow
 obtain⟨V,rfl⟩: ∃V,V=V':=⟨_,rfl⟩
 refine hK.out _ _ trivial (fun hHeld=>?_)
 clear hK K
 try simp only[Act.put,getElem_toArray,getElem_cons_succ,getElem_cons_zero,setIfInBounds_toArray,set_cons_zero,set_cons_succ]
 obtain⟨d,hd⟩: ∃d,0+(N - k)=d:=⟨_,rfl⟩
 rw[hd] at HO ⊢
 have hdk:d+k=N:=by omega
 clear hd
 refine wpAnyH_ready (rs:= [8]) (by kernel_rfl) (by simp) ?_
 refine AllReadyH.cons rfl (fun K hK=>?_) AllReadyH.nil
 refine step_append_own (by rfl) _ _ _ (by rfl) n5 29 i6 _ 6 64 Try.underlying22 hi6 h60 h61 h62 rfl (by omega) (.slice vb d vd) d _ (by rfl) HO.out ⟨ga,0,none⟩ k _ (flatX cellsP (L.take k)) (by rfl) (by rw[flatX_length cellsP_length];exact congrArg (· *6) HTL.out) (RdX.news cellsP_length (by omega) (HTR.out.later (by rw[HN5.out];exact HV.out))) (flatX_one cellsP_one _) (by unfold maxLen;omega) (by omega) (by have:=HV.out.size;rw[HN5.out] at this;exact this) ?_
 intro v' V' hown hgrow _
 have HV:=hid (HV.out.grown hgrow (by have:=HV.out.size;rw[HN5.out] at this;exact this) (fun g hg=>(Rw.own_lt HO.out g hg).1))
 have HO:=hid hown
 obtain⟨vb,vd,rfl⟩:=Rw.own_form HO.out
 clear hown hgrow
 obtain⟨V,rfl⟩: ∃V,V=V':=⟨_,rfl⟩
 refine hK.out _ _ trivial (fun hHeld=>?_)
 clear hK K
 try simp only[Act.put,getElem_toArray,getElem_cons_succ,getElem_cons_zero,setIfInBounds_toArray,set_cons_zero,set_cons_succ]
 rw[hdk] at HO ⊢
 refine wpAnyH_take (i:=9) (v:=?_) rfl (by kernel_rfl) (by kernel_rfl) (by kernel_rfl) (fun _ _ _ h=>h) (Or.inl ⟨by rfl,?_⟩) (by assumption) ?_
 rotate_left
 ·intro w hSw;(try dsimp only at hSw);go_simp<;>with_reducible rfl
 try simp only[Act.put,getElem_toArray,getElem_cons_succ,getElem_cons_zero,setIfInBounds_toArray,set_cons_zero,set_cons_succ]
 refine wpAnyH_done (by kernel_rfl) ?_ _
 have HRT:Hid (RdP V (.slice vb N vd) (L.drop k++L.take k)):=hid (by
  have hl:(L.drop k++L.take k).length =N:=by rw[List.length_append,HDL.out,HTL.out];omega
  have q:=HO.out
  rw[List.nil_append,<-flatX_append] at q
  have q2:=RdX.own (l:=L.drop k++L.take k) cellsP_length (by rw[hl];exact q)
  exact⟨q2,fun x hx=>(HRD.out.votes x (by rcases List.mem_append.1 hx with z | z;exact List.mem_of_mem_drop z;exact List.mem_of_mem_take z)).later (by rw[HN5.out];exact HV.out)⟩)
 have HRP:Hid (RdP V (.slice (some ⟨ga,0,none⟩) N cap) L):=hid (HRD.out.later (by rw[HN5.out];exact HV.out))
 have HBV:Hid (Below w.heap.size w V):=hid (step HB.out (by rw[HN5.out];exact HV.out))
 have hperm:(valsP (L.drop k++L.take k)).Perm (valsP L):=by
  have e:L.drop k++L.take k=L.drop k++L.take k:=rfl
  have p:(L.drop k++L.take k).Perm L:=by
   have:=List.perm_append_comm (l₁:=L.drop k) (l₂:=L.take k)
   rw[List.take_append_drop] at this
   exact this
  exact p.map PromC.val
 have hl2:(L.drop k++L.take k).length <=12:=by rw[List.length_append,HDL.out,HTL.out];omega
 have CMA:Hid (∀W,Below V.heap.size V W->Calls Try.prog 11 #[.slice (some ⟨ga,0,none⟩) N cap] W (GivesP (R,0) W)):=hid (fun W hb=>by have q:=Make_any _ L W (HRP.out.later hb) (by rw[HN.out];omega);rw[HMK.out] at q;exact q)
 have CMB:Hid (∀W,Below V.heap.size V W->Calls Try.prog 11 #[.slice vb N vd] W (GivesP (R,0) W)):=hid (fun W hb=>by have q:=Make_any _ (L.drop k++L.take k) W (HRT.out.later hb) hl2;rw[makeF_perm hperm,HMK.out] at q;exact q)
 have HF:=HORD
 clear HORD HMK ew ek hdk d0 HRT hperm hl2 HO HV HN5 HDR HTR HDL HTL HRD HB hck hkc hkle
 obtain⟨Rd,Rt,Rs,Rm,Rb,Re,Rf,Rl⟩:=R
 unfold GivesP planVal at CMA CMB
 dsimp only at CMA CMB
 go_upto_region 7 with (go_at_call 11;refine(CMA.out _ (Below.refl _ _)).mono ?_;rintro e w2 ⟨va,vc,La,rfl,hva,hoa,hb2⟩;have HVA:=hid hva;have HOA:=hid hoa.rd;have HBA:=hid hb2;clear hva hoa hb2)
 obtain⟨na,hna⟩: ∃na,La.length=na:=⟨_,rfl⟩
 rw[hna]
 have HNR:Hid (na=Rb.length):=hid (by rw[<-hna,<-valsB_length,HVA.out])
 have HNA:=hid hna
 have hbp:=newAlloc w2 (.cells #[.int .i64 Rd,.int .i64 Rt,.int .i64 Rs,.int .i64 Rm,.slice va na vc,.int .i64 Re,.int .i64 Rf,.int .i64 Rl] 32)
 have HX3:=hid (BoxL.new w2 Rd Rt Rs Rm (.slice va na vc) Re Rf Rl _ rfl)
 have HOA3:=hid (HOA.out.later hbp)
 have HBA3:=hid (step HBA.out hbp)
 generalize w2.alloc (.cells #[.int .i64 Rd,.int .i64 Rt,.int .i64 Rs,.int .i64 Rm,.slice va na vc,.int .i64 Re,.int .i64 Rf,.int .i64 Rl] 32)=W3 at HX3 HOA3 HBA3 ⊢
 generalize w2.heap.size=g3 at HX3 ⊢
 clear hbp hna CMA HOA HBA
 go_upto_region 8 with (go_at_call 11;refine(CMB.out _ HBA3.out).mono ?_;rintro e w4 ⟨vd,ve,Lb,rfl,hvb,hob,hb4⟩;have HVB:=hid hvb;have HOB:=hid hob.rd;have HB4:=hid (step HBA3.out hb4);have HX4:=hid (HX3.out.later hb4);have HOA4:=hid (HOA3.out.later hb4);clear hvb hob hb4)
 obtain⟨nb,hnb⟩: ∃nb,Lb.length=nb:=⟨_,rfl⟩
 rw[hnb]
 have hbp:=newAlloc w4 (.cells #[.int .i64 Rd,.int .i64 Rt,.int .i64 Rs,.int .i64 Rm,.slice vd nb ve,.int .i64 Re,.int .i64 Rf,.int .i64 Rl] 32)
 have HX5:=hid (HX4.out.later hbp)
 have HY5:=hid (BoxL.new w4 Rd Rt Rs Rm (.slice vd nb ve) Re Rf Rl _ rfl)
 have HB5:=hid (step HB4.out hbp)
 have HOA5:=hid (HOA4.out.later hbp)
 have HOB5:=hid (HOB.out.later hbp)
 generalize w4.alloc (.cells #[.int .i64 Rd,.int .i64 Rt,.int .i64 Rs,.int .i64 Rm,.slice vd nb ve,.int .i64 Re,.int .i64 Rf,.int .i64 Rl] 32)=W5 at HX5 HY5 HB5 HOA5 HOB5 ⊢
 generalize w4.heap.size=g5 at HY5 ⊢
 have CSB:Hid (Calls Try.prog 15 #[.slice va na vc,.slice vd nb ve] W5 (SaysB true W5)):=hid (by
  have q:=SameBatches_any _ _ La Lb W5 HOA5.out HOB5.out
  rw[(sameBs_iff _ _).2 (HVA.out.trans HVB.out.symm),HNA.out,hnb] at q
  exact q)
 clear hbp hnb CMB HX3 HX4 HOA3 HOA4 HOB HB4 HBA3 HOB5 HVB
 obtain⟨c0,c1,c2,c3,c4,c5,c6,c7⟩:=HX5.out.c
 obtain⟨d0',d1,d2,d3,d4,d5,d6,d7⟩:=HY5.out.c
 go_upto_region 10 with (go_at_call 15;refine CSB.out.mono ?_;rintro e w6 ⟨rfl,hb6⟩;clear c0 c1 c2 c3 c4 c5 c6 c7 d0' d1 d2 d3 d4 d5 d6 d7;obtain⟨c0,c1,c2,c3,c4,c5,c6,c7⟩:=(HX5.out.later hb6).c;obtain⟨d0',d1,d2,d3,d4,d5,d6,d7⟩:=(HY5.out.later hb6).c;have HX:=hid (HX5.out.later hb6);have HLA:=hid (HOA5.out.later hb6);have HRW:=hid (HRP.out.later (step HB5.out hb6));have HBW:=hid (step HBV.out (step HB5.out hb6));clear hb6)
 clear c0 c1 c2 c3 c4 c5 c6 c7 d0' d1 d2 d3 d4 d5 d6 d7 HX5 HY5 HOA5 HRP HB5 HBV CSB
 obtain⟨W,hW⟩: ∃W,W=w6:=⟨_,rfl⟩
 rw[<-hW] at HX HLA HRW HBW ⊢
 clear hW
 have HA:=hid (fun i hi=>rdp_at HRW.out.row i hi)
 have HR:=hid HRW.out.votes
 have HAL:=hid (fun(x:VoteC) (p:PromC) (hp:p∈L) (hx:x∈p.votes) Wx (hb:Below W.heap.size W Wx)=>alone_any _ L x Wx (HRW.out.later hb) (by rw[HN.out];omega) HF.out.n9)
 obtain⟨hd0,hd1⟩:=HF.out.d
 have hn9:=HF.out.len
 have HLAST:=hid HF.out.last
 dsimp only at hd0 hd1 hn9 HLAST
 go_wp2
 go_loopw [4,12,13,14,15,95] (fun _ i _ _ _ _ wr=> ∃j:Nat,j<=N/\i= .int .i64 (j:Int)/\Hid (Below W.heap.size W wr)) (fun _ i _ _ _ _ _=>N - (intOf i).toNat)
 case atStart=>exact⟨0,by omega,rfl,hid (Below.refl _ _)⟩
 case round=>
  obtain⟨j,hj,rfl,HB⟩:=hrel
  obtain⟨c0,c1,c2,c3,c4,c5,c6,c7⟩:=(HX.out.later HB.out).c
  by_cases hlt:j<N
  case neg=>
   obtain rfl:j=N:=by omega
   have hlast:=HLAST.out
   have hna9:decide ((na:Int)<=9)=true:=decide_eq_true (by rw[HNR.out];omega)
   clear hn9
   go_wp2_with (go_at_call 7;refine(AW.out _).mono ?_;rintro e w7 ⟨rfl,hb7⟩)
   go_ret
   exact⟨by simp,step HBW.out (step HB.out hb7)⟩
  have hjl:j<L.length:=by rw[HN.out];exact hlt
  obtain⟨_,_,hbo,hc⟩:=HA.out j hjl
  cases hbo
  have HCC:=hid (fun wx hb=>hc wx hb)
  have hmem:=mem_get hjl
  obtain⟨p,hp⟩: ∃p,L[j]=p:=⟨_,rfl⟩
  rw[hp] at HCC hmem
  have hmost:=HF.out.most p hmem
  have h9:=HF.out.n9 p hmem
  have hr:=HR.out p hmem
  have HAP:=hid (fun x hx=>HAL.out x p hmem hx)
  have HVF:=hid (fun x hx=>HF.out.v p hmem x hx)
  have HFA:=hid (fun x hx=>HF.out.al p hmem x hx)
  clear hc hp hjl hmem
  obtain⟨pw,pd,pv,pq,pt,l,pa,pc⟩:=p
  unfold PromC.u at HCC hr
  dsimp only at HCC hr hmost HAP HVF HFA h9
  have HRV:=hid (fun i hi=>rdv_at hr.row i hi)
  obtain⟨_,_,hv,hlc2,hcm2, -⟩:=hr.row.ex
  cases hv
  clear hr
  obtain⟨K,hk⟩: ∃K,l.length=K:=⟨_,rfl⟩
  have HK:=hid hk
  rw[hk] at hlc2 HCC h9
  clear hk
  obtain⟨q0,q1,q2,q3,q4,q5⟩:=HCC.out _ HB.out
  simp only[Nat.zero_add] at q0 q1 q2 q3 q4 q5
  have hj0:(0:Int)<=(j:Int):=by omega
  have hj1:(j:Int)<(N:Int):=by omega
  obtain⟨wo,rfl⟩: ∃wo,wo=wr:=⟨_,rfl⟩
  go_upto_region 13 with fail
  go_quiet (fail)
  clear c0 c1 c2 c3 c4 c5 c6 c7 q0 q1 q2 q3 q4 q5
  go_wp2
  go_loopw [4,13,14,15,109] (fun _ i _ _ _ wr=> ∃q:Nat,q<=K/\i= .int .i64 (q:Int)/\Hid (Below W.heap.size W wr)) (fun _ i _ _ _ _=>K - (intOf i).toNat)
  case atStart=>exact⟨0,by omega,rfl,hid (below_drewB HB.out nq)⟩
  case round=>
   obtain⟨q,hq,rfl,HBI⟩:=hrel
   obtain⟨c0,c1,c2,c3,c4,c5,c6,c7⟩:=(HX.out.later HBI.out).c
   obtain⟨q0,q1,q2,q3,q4,q5⟩:=HCC.out _ HBI.out
   simp only[Nat.zero_add] at q0 q1 q2 q3 q4 q5
   by_cases hlq:q<K
   case neg=>
    obtain rfl:q=K:=by omega
    go_wp2
    go_roundw
    case rel=>exact⟨j+1,by omega,by go_num,HBI⟩
    case measure=>simp [intOf];omega
   have hql:q<l.length:=by rw[HK.out];exact hlq
   obtain⟨b2,o2,rfl,hc2⟩:=HRV.out q hql
   have hmem:=mem_get hql
   obtain⟨x,hx⟩: ∃x,l[q]=x:=⟨_,rfl⟩
   have hc3:=hc2 _ HBI.out
   rw[hx] at hmem hc3
   obtain⟨v0,v1,v2,v3,v4,v5,v6,v7⟩:=hc3
   have HAX:=hid (HAP.out x hmem)
   obtain⟨x0,x1,x2⟩:=HVF.out x hmem
   have HFX:=hid (HFA.out x hmem)
   clear hx hc2 hmem hql
   obtain⟨xs,xb,⟨xf,xv,xtv,xts,xt,xr⟩,xa,xc⟩:=x
   unfold voteVal VoteC.u at HAX
   unfold VoteC.u at v7
   dsimp only at HAX HFX x0 x1 x2 v0 v1 v2 v3 v4 v5 v6 v7
   generalize xr.length=xn at*
   have hq0:(0:Int)<=(q:Int):=by omega
   have hq1:(q:Int)<(K:Int):=by omega
   obtain⟨wo,rfl⟩: ∃wo,wo=wr:=⟨_,rfl⟩
   go_upto_region 19 with fail
   have hbx:=newAlloc wo (.cells #[.int .i64 xs,.int .i64 xb,.bool xf,.int .i64 xv,.int .i64 xtv,.int .i64 xts,.int .i64 xt,.slice xa xn xc] 49)
   have HVX:=hid (fun w' (hb:Below (wo.alloc (.cells #[.int .i64 xs,.int .i64 xb,.bool xf,.int .i64 xv,.int .i64 xtv,.int .i64 xts,.int .i64 xt,.slice xa xn xc] 49)).heap.size (wo.alloc (.cells #[.int .i64 xs,.int .i64 xb,.bool xf,.int .i64 xv,.int .i64 xtv,.int .i64 xts,.int .i64 xt,.slice xa xn xc] 49)) w')=>box8p hb)
   have HB2:=hid (step HBI.out hbx)
   clear v0 v1 v2 v3 v4 v5 v6 v7 c0 c1 c2 c3 c4 c5 c6 c7 q0 q1 q2 q3 q4 q5 hbx
   generalize wo.alloc (.cells #[.int .i64 xs,.int .i64 xb,.bool xf,.int .i64 xv,.int .i64 xtv,.int .i64 xts,.int .i64 xt,.slice xa xn xc] 49)=wv at HVX HB2 ⊢
   generalize wo.heap.size=gv at HVX ⊢
   obtain⟨v0,v1,v2,v3,v4,v5,v6,v7⟩:=HVX.out _ (Below.refl _ _)
   obtain⟨c0,c1,c2,c3,c4,c5,c6,c7⟩:=(HX.out.later HB2.out).c
   obtain⟨z,hz⟩: ∃z,xs - Rd - 1=z:=⟨_,rfl⟩
   have ew1:IntKind.i64.wrap (xs - Rd)=xs - Rd:=by rw[IntKind.wrap_i64];omega
   have ew2:IntKind.i64.wrap (xs - Rd - 1)=z:=by rw[IntKind.wrap_i64];omega
   have HNR2:=HNR.out
   have dz:decide ((na:Int)<=z)=false:=decide_eq_false (by omega)
   have HZ:=hid hz
   have HZN:=hid (show z<(na:Int) by omega)
   clear hz HNR2
   go_upto_region 20 with fail
   by_cases hz0:0<=z
   case neg=>
    have dz0:decide (0<=z)=false:=decide_eq_false hz0
    clear hz0
    go_wp2
    go_roundw
    case rel=>exact⟨q+1,by omega,by go_num,HB2⟩
    case measure=>simp [intOf];omega
   obtain⟨n,rfl⟩: ∃n:Nat,z=(n:Int):=⟨z.toNat,by omega⟩
   have hn1:(n:Int)<(na:Int):=HZN.out
   have hn0:(0:Int)<=(n:Int):=hz0
   have dz0:decide ((0:Int)<=(n:Int))=true:=decide_eq_true hz0
   have hnl:n<La.length:=by rw[HNA.out];omega
   obtain⟨b3,o3,rfl,hc3⟩:=rdb_at (HLA.out.row) n hnl
   obtain⟨e0, -⟩:=hc3 _ HB2.out
   have HBN:Hid (Rb[n]?=some La[n].bat):=hid (by rw[<-HVA.out,List.getElem?_eq_getElem (by rw[valsB_length];exact hnl),valsB_get])
   obtain⟨y,hy⟩: ∃y,La[n].bat =y:=⟨_,rfl⟩
   rw[hy] at e0 HBN
   clear hc3 hnl hy hz0
   obtain⟨yf,yv,ytv,yts,yt,yr⟩:=y
   dsimp only at e0
   cases yf
   case false=>
    go_wp2
    go_roundw
    case rel=>exact⟨q+1,by omega,by go_num,HB2⟩
    case measure=>simp [intOf];omega
   cases xf
   case true=>
    go_wp2
    go_roundw
    case rel=>exact⟨q+1,by omega,by go_num,HB2⟩
    case measure=>simp [intOf];omega
   have HCA:=hid (HAX.out _ HB2.out)
   have hfd:=HFX.out n HZ.out _ HBN.out rfl rfl
   rw[hfd] at HCA
   clear hfd
   go_wp2_with (go_at_call 16;refine HCA.out.mono ?_;rintro e w8 ⟨rfl,hb8⟩)
   go_roundw
   case rel=>exact⟨q+1,by omega,by go_num,hid (step HB2.out hb8)⟩
   case measure=>simp [intOf];omega
end Pl
end Go.Proofs.Ytheenjkmglmihaa
