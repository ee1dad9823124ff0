/- Texts laid together by program. -/
import Derived.Test.YtbcnednhfmchpaaQT4
/- Contracts: the document's learner's Hear where something was heard for the slot. -/
set_option linter.unusedVariables false
set_option maxRecDepth 8000
set_option linter.unusedSimpArgs false
namespace Go.Proofs.Ytbcnednhfmchpaa
open Lib (hid)
open List (getElem_toArray getElem_cons_succ getElem_cons_zero setIfInBounds_toArray set_cons_zero set_cons_succ)
open Go.RowKit
namespace Ln
open Cm

theorem quorum_of {s:LrnV} (h:GoodN s):Vw.quorumF s.n=quoF s.n:=by
 unfold Vw.quorumF
 rw[if_pos (Vw.someF_iff.2 ⟨h.n1,h.n7⟩)]
 rfl
theorem first_at {l:List SlotV} {t:Int} {k:Nat} (hk:k<l.length) (h:idxS l t=(k:Int)): ∀j (hj:j<k) (hl:j<l.length),l[j].slot ≠t:=by
 unfold idxS at h
 split at h
 ·rename_i i hi
  have e:i=k:=by omega
  subst e
  obtain⟨_,_,h3⟩:=List.findIdx?_eq_some_iff_getElem.1 hi
  intro j hj hl
  simpa using h3 j hj
 ·omega
set_option maxHeartbeats 20000000 in
theorem RefHear_less (g m:Nat) (s:LrnV) (f b t:Int) (x:BatV) (u:Value) (w:World) (h:HasL w g m s) (hs:GoodN s) (hn9:s.l.length<=1000) (hr:RdR w u x.reqs) (hgood:badF s f b t x=false)
  (h1:s.done<t) (h9:t<=s.done+9) (y:SlotV) (hy:at_ s.l t=some y) (hch:y.chosen=false) (hlt:b<y.ballot):
  Calls Try.prog 15 #[.pointer (some ⟨g,0,none⟩),.int .i64 f,.int .i64 b,.int .i64 t,batVal x u] w (SaysNo 11 g m s w):=by
 obtain⟨ua,uc,rfl⟩:=hr.form
 unfold badF at hgood
 simp only[Bool.not_eq_false',Bool.and_eq_true,decide_eq_true_eq] at hgood
 obtain⟨⟨⟨⟨f0,f1⟩,hb⟩,ht⟩,hm⟩:=hgood
 have d1:decide (f<0)=false:=decide_eq_false (by omega)
 have d2:decide (s.n<=f)=false:=decide_eq_false (by omega)
 have CB:=hid (fun w=>high12_any b 0 w)
 have CS:=hid (fun w=>high12_any t 1 w)
 rw[hb] at CB
 have htop:t<=2305843009213693952:=by simp [highF] at ht;omega
 have hlow:1<=t:=by simp [highF] at ht;omega
 rw[ht] at CS
 have hb1:=newAlloc w (.cells #[.bool x.fill,.int .i64 x.view,.int .i64 x.tv,.int .i64 x.ts,.int .i64 x.time,.slice ua x.reqs.length uc] 38)
 have k1:=alloc_atB w (.cells #[.bool x.fill,.int .i64 x.view,.int .i64 x.tv,.int .i64 x.ts,.int .i64 x.time,.slice ua x.reqs.length uc] 38) _ rfl
 obtain⟨W1,hW1⟩: ∃W1,W1=w.alloc (.cells #[.bool x.fill,.int .i64 x.view,.int .i64 x.tv,.int .i64 x.ts,.int .i64 x.time,.slice ua x.reqs.length uc] 38):=⟨_,rfl⟩
 rw[<-hW1] at hb1 k1
 have CM:=hid (RefMayB_any x (.slice ua x.reqs.length uc) W1 (hr.later hb1))
 rw[hm] at CM
 have HB1:=hid hb1
 have HL1:=hid (h.later hb1)
 have HN9:=hid hn9
 have hd0:=hs.d0
 have hd1:=hs.d1
 have e9:IntKind.i64.wrap (t - s.done)=t - s.done:=by rw[IntKind.wrap_i64];omega
 have c0:=cell_at k1 0
 have c1:=cell_at k1 1
 have c2:=cell_at k1 2
 have c3:=cell_at k1 3
 have c4:=cell_at k1 4
 have c5:=cell_at k1 5
 simp at c0 c1 c2 c3 c4 c5
 have n0:=HL1.out.c0
 have HK1:=hid k1
 have HT1:=hid ((Turns.refl g m w).below hb1)
 clear hb1 k1 h hb hm
 unfold batVal at CM ⊢
 have d5:decide (t<=s.done)=false:=decide_eq_false (by omega)
 have d6:decide (9<t - s.done)=false:=decide_eq_false (by omega)
 have HGN:=hid hs
 rcases idx_at s.l t with ⟨i1,i2⟩ | ⟨k,hk,i1,i2⟩
 ·rw[i2] at hy
  cases hy
 have hyk:s.l[k]=y:=by rw[i2] at hy;injection hy
 have HYK:=hid hyk
 have HYM:Hid (y∈s.l/\y.slot=t):=hid (at_mem hy)
 have HFST:Hid (∀j (hj:j<k) (hl:j<s.l.length),s.l[j].slot ≠t):=hid (first_at hk i1)
 clear i2 hy hr ht f0 f1 hd0 hd1 hlow htop hs  hyk
 go_enter Try.func15,Try.ntmps15
 go_upto_region 1 with fail
 rw[<-hW1]
 clear hW1
 go_wp2_with fail
 refine(CB.out _).mono ?_
 rintro e w1 ⟨rfl,rfl⟩
 go_wp2_with fail
 refine(CS.out _).mono ?_
 rintro e w1 ⟨rfl,rfl⟩
 go_wp2_with fail
 refine CM.out.mono ?_
 rintro e W2 ⟨rfl,hb2⟩
 have HB2:=hid hb2
 have HL2:=hid (HL1.out.later hb2)
 clear hb2
 have CA:=hid (At_any g m s t W2 HL2.out HN9.out)
 have a1:=HL2.out.c1
 have af:=HL2.out.open_ 0
 rw[i1] at CA
 go_wp2_with fail
 refine CA.out.mono ?_
 rintro e wz ⟨rfl,hwz⟩
 rw[hwz]
 clear hwz wz
 have HT2:=hid (HT1.out.below HB2.out)
 obtain⟨lv,M,l1,l2,l3,l4⟩:=HL2.out.ex
 have hkM:k<M.length:=by rw[<-valsL_length,l2];exact hk
 obtain⟨lb,lc,rfl,hlm,hll,hls⟩:=own_blk l3 (by omega)
 have HLM:=hid hlm
 have HLL:=hid hll
 have HLS:=hid hls
 have HV3:=hid l2
 have HO3:=hid l3
 have HX3:=hid l4
 have HG3:=hid l1
 have HK3:=hid (cells_later HK1.out HB2.out)
 have HGM:=hid HL2.out.gm
 have HMW:=hid HL2.out.mw
 have HGL:=hid HL2.out.lt
 have HT3:=HT2
 obtain⟨bb,oo,hab,hcc⟩:=rds_at (RdX.own cellsS_length l3) k hkM
 cases hab
 obtain⟨q0,q1,q2,q3,q4,q5,q6,q7,q8,q9⟩:=hcc _ (Below.refl _ _)
 simp only[Nat.zero_add] at q0 q1 q2 q3 q4 q5 q6 q7 q8 q9
 have g2:=cell_at l1 2
 simp at g2
 have hzv:(M[k]'hkM).val =y:=by
  rw[<-HYK.out,<-valsL_get M k hkM (by rw[valsL_length];exact hkM)]
  congr 1
 have HZX:=hid (l4 _ (List.getElem_mem hkM))
 clear hcc l1 l2 l3 l4 hlm hll hls
 generalize (M[k]'hkM)=z at q0 q1 q2 q3 q4 q5 q6 q7 q8 q9 hzv HZX
 obtain⟨z1,z2,zw,zwa,zwc,⟨z3,z4,z5,z6,z7,z8⟩,za,zc,zh⟩:=z
 unfold SlotC.wv at q2
 unfold SlotC.uv at q8
 unfold OwnX SlotC.wv SlotC.uv at HZX
 dsimp only at q0 q1 q2 q3 q4 q5 q6 q7 q8 q9 HZX
 have hz2:z2=y.ballot:=congrArg SlotV.ballot hzv
 have hzh:zh=y.chosen:=congrArg SlotV.chosen hzv
 have HZV:=hid hzv
 rw[hch] at hzh
 subst hzh
 clear hzv
 obtain⟨N,hN⟩: ∃N,M.length=N:=⟨_,rfl⟩
 have HN:=hid hN
 have hkN:k<N:=by rw[<-hN];exact hkM
 rw[hN] at g2 HO3 HG3
 have HO3':Hid (W2.ownsRow m 66 10 (.slice (some ⟨lb,0,none⟩) N lc) N (flatX cellsS M)):=hid HO3.out
 have n1:(k:Int)<(N:Int):=by omega
 have n2:(0:Int)<=(k:Int):=by omega
 clear hN hkM
 have hl:decide (b<z2)=true:=by rw[hz2];exact decide_eq_true hlt
 clear hz2 hlt
 generalize W2=W3 at*
 go_upto_region 11 with fail
 go_wp2
 go_ret
 exact⟨rfl,HL2.out.later (newAlloc _ _),stepAlloc (step HB1.out HB2.out) _⟩
set_option maxHeartbeats 20000000 in
theorem RefHear_more (g m:Nat) (s:LrnV) (f b t:Int) (x:BatV) (u:Value) (w:World) (h:HasL w g m s) (hs:GoodN s) (hn9:s.l.length<=1000) (hr:RdR w u x.reqs) (ho:w.ownsRow m 73 5 u x.reqs.length (flatX cellsR x.reqs)) (hgood:badF s f b t x=false)
  (h1:s.done<t) (h9:t<=s.done+9) (y0:SlotV) (hy:at_ s.l t=some y0) (hch:y0.chosen=false) (heq:y0.ballot=b):
  Calls Try.prog 15 #[.pointer (some ⟨g,0,none⟩),.int .i64 f,.int .i64 b,.int .i64 t,batVal x u] w (fun e w'=>e= .returned (.int .i64 0)/\HasL w' g m ⟨s.n,s.done,putS (nextS s.n y0 f b x) s.l⟩/\Turns g m w w'):=by
 obtain⟨ua,uc,rfl⟩:=hr.form
 unfold badF at hgood
 simp only[Bool.not_eq_false',Bool.and_eq_true,decide_eq_true_eq] at hgood
 obtain⟨⟨⟨⟨f0,f1⟩,hb⟩,ht⟩,hm⟩:=hgood
 have d1:decide (f<0)=false:=decide_eq_false (by omega)
 have d2:decide (s.n<=f)=false:=decide_eq_false (by omega)
 have CB:=hid (fun w=>high12_any b 0 w)
 have CS:=hid (fun w=>high12_any t 1 w)
 rw[hb] at CB
 have htop:t<=2305843009213693952:=by simp [highF] at ht;omega
 have hlow:1<=t:=by simp [highF] at ht;omega
 rw[ht] at CS
 have hb1:=newAlloc w (.cells #[.bool x.fill,.int .i64 x.view,.int .i64 x.tv,.int .i64 x.ts,.int .i64 x.time,.slice ua x.reqs.length uc] 38)
 have k1:=alloc_atB w (.cells #[.bool x.fill,.int .i64 x.view,.int .i64 x.tv,.int .i64 x.ts,.int .i64 x.time,.slice ua x.reqs.length uc] 38) _ rfl
 obtain⟨W1,hW1⟩: ∃W1,W1=w.alloc (.cells #[.bool x.fill,.int .i64 x.view,.int .i64 x.tv,.int .i64 x.ts,.int .i64 x.time,.slice ua x.reqs.length uc] 38):=⟨_,rfl⟩
 rw[<-hW1] at hb1 k1
 have CM:=hid (RefMayB_any x (.slice ua x.reqs.length uc) W1 (hr.later hb1))
 rw[hm] at CM
 have HB1:=hid hb1
 have HL1:=hid (h.later hb1)
 have HN9:=hid hn9
 have hd0:=hs.d0
 have hd1:=hs.d1
 have e9:IntKind.i64.wrap (t - s.done)=t - s.done:=by rw[IntKind.wrap_i64];omega
 have c0:=cell_at k1 0
 have c1:=cell_at k1 1
 have c2:=cell_at k1 2
 have c3:=cell_at k1 3
 have c4:=cell_at k1 4
 have c5:=cell_at k1 5
 simp at c0 c1 c2 c3 c4 c5
 have n0:=HL1.out.c0
 have HK1:=hid k1
 have HT1:=hid ((Turns.refl g m w).below hb1)
 clear hb1 k1 h hb hm
 unfold batVal at CM ⊢
 have d5:decide (t<=s.done)=false:=decide_eq_false (by omega)
 have d6:decide (9<t - s.done)=false:=decide_eq_false (by omega)
 have HGN:=hid hs
 have HOU:=hid ho
 rcases idx_at s.l t with ⟨i1,i2⟩ | ⟨k,hk,i1,i2⟩
 ·rw[i2] at hy
  cases hy
 have hyk:s.l[k]=y0:=by rw[i2] at hy;injection hy
 have HYK:=hid hyk
 have HYM:Hid (y0∈s.l/\y0.slot=t):=hid (at_mem hy)
 have HFST:Hid (∀j (hj:j<k) (hl:j<s.l.length),s.l[j].slot ≠t):=hid (first_at hk i1)
 clear i2 hy hr ht f0 f1 hd0 hd1 hlow htop hs ho hyk
 go_enter Try.func15,Try.ntmps15
 go_upto_region 1 with fail
 rw[<-hW1]
 clear hW1
 go_wp2_with fail
 refine(CB.out _).mono ?_
 rintro e w1 ⟨rfl,rfl⟩
 go_wp2_with fail
 refine(CS.out _).mono ?_
 rintro e w1 ⟨rfl,rfl⟩
 go_wp2_with fail
 refine CM.out.mono ?_
 rintro e W2 ⟨rfl,hb2⟩
 have HB2:=hid hb2
 have HL2:=hid (HL1.out.later hb2)
 clear hb2
 have CA:=hid (At_any g m s t W2 HL2.out HN9.out)
 have a1:=HL2.out.c1
 have af:=HL2.out.open_ 0
 rw[i1] at CA
 go_wp2_with fail
 refine CA.out.mono ?_
 rintro e wz ⟨rfl,hwz⟩
 rw[hwz]
 clear hwz wz
 have HT2:=hid (HT1.out.below HB2.out)
 obtain⟨lv,M,l1,l2,l3,l4⟩:=HL2.out.ex
 have hkM:k<M.length:=by rw[<-valsL_length,l2];exact hk
 obtain⟨lb,lc,rfl,hlm,hll,hls⟩:=own_blk l3 (by omega)
 have HLM:=hid hlm
 have HLL:=hid hll
 have HLS:=hid hls
 have HV3:=hid l2
 have HO3:=hid l3
 have HX3:=hid l4
 have HG3:=hid l1
 have HK3:=hid (cells_later HK1.out HB2.out)
 have HGM:=hid HL2.out.gm
 have HMW:=hid HL2.out.mw
 have HGL:=hid HL2.out.lt
 have HT3:=HT2
 obtain⟨bb,oo,hab,hcc⟩:=rds_at (RdX.own cellsS_length l3) k hkM
 cases hab
 obtain⟨q0,q1,q2,q3,q4,q5,q6,q7,q8,q9⟩:=hcc _ (Below.refl _ _)
 simp only[Nat.zero_add] at q0 q1 q2 q3 q4 q5 q6 q7 q8 q9
 have g2:=cell_at l1 2
 simp at g2
 have hzv:(M[k]'hkM).val =y0:=by
  rw[<-HYK.out,<-valsL_get M k hkM (by rw[valsL_length];exact hkM)]
  congr 1
 have HZX:=hid (l4 _ (List.getElem_mem hkM))
 clear hcc l1 l2 l3 l4 hlm hll hls
 generalize (M[k]'hkM)=z at q0 q1 q2 q3 q4 q5 q6 q7 q8 q9 hzv HZX
 obtain⟨z1,z2,zw,zwa,zwc,⟨z3,z4,z5,z6,z7,z8⟩,za,zc,zh⟩:=z
 unfold SlotC.wv at q2
 unfold SlotC.uv at q8
 unfold OwnX SlotC.wv SlotC.uv at HZX
 dsimp only at q0 q1 q2 q3 q4 q5 q6 q7 q8 q9 HZX
 have hz2:z2=y0.ballot:=congrArg SlotV.ballot hzv
 have hzh:zh=y0.chosen:=congrArg SlotV.chosen hzv
 have HZV:=hid hzv
 rw[hch] at hzh
 subst hzh
 clear hzv
 obtain⟨N,hN⟩: ∃N,M.length=N:=⟨_,rfl⟩
 have HN:=hid hN
 have hkN:k<N:=by rw[<-hN];exact hkM
 rw[hN] at g2 HO3 HG3
 have HO3':Hid (W2.ownsRow m 66 10 (.slice (some ⟨lb,0,none⟩) N lc) N (flatX cellsS M)):=hid HO3.out
 have n1:(k:Int)<(N:Int):=by omega
 have n2:(0:Int)<=(k:Int):=by omega
 clear hN hkM
 have HUV:Hid (W2.ownsRow m 73 5 (.slice za z8.length zc) z8.length (flatX cellsR z8)):=hid (HZX.out.2)
 have HWHO:Hid (zw.Pairwise (· < ·)/\zw.length<=7):=hid (by
  have hw:=(HGN.out.all y0 HYM.out.1).who
  rw[show zw=y0.who from congrArg SlotV.who HZV.out]
  exact⟨hw.rise,goodN_who HGN.out y0 HYM.out.1⟩)
 obtain⟨ij,hij,hj0,hj1,hj2⟩:=info_partsS infoJ
 have HPUT:Hid (∀v:SlotV,v=⟨z1,z2,addW f zw,⟨z3,z4,z5,z6,z7,z8⟩,decide (quoF s.n<=((addW f zw).length :Int))⟩->putS (nextS s.n y0 f b x) s.l=s.l.set k v):=hid fun v hv=>by
  have e:nextS s.n y0 f b x=v:=by
   rw[hv,<-HZV.out]
   unfold nextS SlotC.val
   dsimp only
   rw[if_neg (by omega)]
  rw[e,putS_hit v s.l k hk]
  ·rw[HYK.out,hv,<-HZV.out];rfl
  ·intro j hj
   rw[hv,show z1=t from(congrArg SlotV.slot HZV.out).trans HYM.out.2]
   exact HFST.out j hj _
 have dl:decide (b<z2)=false:=decide_eq_false (by omega)
 have dg:decide (z2<b)=false:=decide_eq_false (by omega)
 clear hz2 heq hch
 go_upto_region 11 with fail
 clear d1 d2 d5 d6 i1 CB CS CM CA a1 af c0 c1 c2 c3 c4 c5 n0
 have HB3Z:=hid (newAlloc W2 (.cells #[.int .i64 z1,.int .i64 z2,.slice zwa zw.length zwc,.bool z3,.int .i64 z4,.int .i64 z5,.int .i64 z6,.int .i64 z7,.slice za z8.length zc,.bool false] 66))
 have hbz:=alloc_atB W2 (.cells #[.int .i64 z1,.int .i64 z2,.slice zwa zw.length zwc,.bool z3,.int .i64 z4,.int .i64 z5,.int .i64 z6,.int .i64 z7,.slice za z8.length zc,.bool false] 66) _ rfl
 obtain⟨W4,hW4⟩: ∃W,W=W2.alloc (.cells #[.int .i64 z1,.int .i64 z2,.slice zwa zw.length zwc,.bool z3,.int .i64 z4,.int .i64 z5,.int .i64 z6,.int .i64 z7,.slice za z8.length zc,.bool false] 66):=⟨_,rfl⟩
 obtain⟨bz,hbz2⟩: ∃x,W2.heap.size=x:=⟨_,rfl⟩
 rw[<-hW4,hbz2] at hbz
 rw[<-hW4] at HB3Z
 have HZ4:=hid hbz
 go_upto_region 12 with fail
 rw[<-hW4]
 try rw[hbz2]
 have HBZ:=hid hbz2
 clear hW4 hbz hbz2 q0 q1 q2 q3 q4 q5 q6 q7 q8 q9 g2
 have y1:=cell_at HZ4.out 1
 simp at y1
 go_upto_region 16 with fail
 clear y1
 have HZ5:=HZ4
 have HB5:=HB3Z
 clear HZ4 HB3Z
 generalize W4=W5 at HZ5 HB5 ⊢
 have HRY:Hid (RdX 1 cellsI W5 (.slice zwa zw.length zwc) zw):=hid ((RdX.own cellsI_length HZX.out.1).later HB5.out)
 have HYW:Hid (zw.Pairwise (· < ·)/\zw.length<=7):=hid HWHO.out
 obtain⟨R,hR⟩: ∃R,refW f false [] zw=R:=⟨_,rfl⟩
 have HRA:Hid (R=addW f zw):=hid (by rw[<-hR,refW_go f _ _ HYW.out.1];rfl)
 have HR0:=hid hR
 clear hR
 have hyl:=HYW.out.2
 have HAT:=hid (fun i hi=>rdi_at HRY.out i hi)
 obtain⟨NW,hNW⟩: ∃NW,zw.length=NW:=⟨_,rfl⟩
 have HNW:=hid hNW
 rw[hNW] at hyl HZ5
 clear hNW
 have HC2:Hid (∀W,Below W5.heap.size W5 W->W.cell? ⟨bz,2,none⟩=some (.slice zwa NW zwc)):=hid fun W hb=>cell_at (cells_later HZ5.out hb) 2
 go_upto_region 19 with fail
 go_loopw [13,14,15] (fun v pt i wr=> ∃(K:Nat) (acc:List Int) (pb:Bool),K<=NW/\i= .int .i64 (K:Int)/\pt= .bool pb/\acc.length<=2*K/\Hid (refW f pb acc (zw.drop K)=R)/\Hid (wr.ownsRow W5.heap.size 3 1 v acc.length (flatX cellsI acc))/\Hid (Below W5.heap.size W5 wr)) (fun _ _ i _=>NW - (intOf i).toNat)
 case atStart=>exact⟨0,[],false,by omega,rfl,rfl,by simp,HR0,hid (World.ownsRow_nil _ _ _ _),hid (Below.refl _ _)⟩
 case round=>
  obtain⟨K,acc,pb,hK,rfl,rfl,hacc,HRW,HOA,HBR⟩:=hrel
  have c2:=HC2.out _ HBR.out
  obtain⟨aa,ac,hav⟩:=Rw.own_form HOA.out
  subst hav
  by_cases hlt:K<NW
  ·have hkl:K<zw.length:=by rw[HNW.out];exact hlt
   obtain⟨wb,wo,rfl,hc⟩:=HAT.out K hkl
   have hdr:=List.drop_eq_getElem_cons hkl
   generalize zw[K]=v at hc hdr
   have e0:=hc _ HBR.out
   have HDR:=hid hdr
   have i0:(0:Int)<=(K:Int):=by omega
   have i1:(K:Int)<(NW:Int):=by omega
   clear hdr
   by_cases hne:v=f
   ·have dn:(v != f)=false:=by simp [hne]
    cases pb
    ·have hq:f<=v:=by omega
     have dq:decide (f<=v)=true:=decide_eq_true hq
     go_upto_region 24 with (at_builtin;refine wpList_append_one cellsI_length (by omega) rfl _ _ 45 rfl 3 ij _ 8 Try.underlying45 hij hj0 hj1 hj2 rfl #[.int .i64 f] (f:Int) rfl (cellsI_one _) acc W5.heap.size W5.heap.size W5 (.slice aa acc.length ac) rfl rfl HOA.out (by unfold maxLen;omega) (by omega) HBR.out.size HBR.out (Nat.le_refl _) ?_;intro v6 w6 ho6 hb6 _;have HO6:=hid ho6;have HB6:=hid hb6;clear ho6 hb6)
     obtain⟨A1,hA1⟩: ∃A,A=acc++ [f]:=⟨_,rfl⟩
     rw[<-hA1] at HO6
     have hl6:A1.length=acc.length+1:=by rw[hA1];simp
     have HA1:=hid hA1
     clear hA1
     obtain⟨na,nc,hnv⟩:=Rw.own_form HO6.out
     subst hnv
     have c26:=HC2.out _ HB6.out
     have e06:=hc _ HB6.out
     go_wp2
     go_roundw
     case rel=>exact⟨K+1,A1,true,by omega,by go_num,rfl,by (try simp only[List.length_append,List.length_cons,List.length_nil]);omega,hid (by rw[<-HRW.out,HDR.out,refW,HA1.out];simp [hq,hne]),HO6,HB6⟩
     case measure=>simp [intOf];omega
    ·skip
     go_wp2
     go_roundw
     case rel=>exact⟨K+1,acc,true,by omega,by go_num,rfl,by (try simp only[List.length_append,List.length_cons,List.length_nil]);omega,hid (by rw[<-HRW.out,HDR.out,refW];simp [hne]),HOA,HBR⟩
     case measure=>simp [intOf];omega
   ·have dn:(v != f)=true:=by simpa using hne
    cases pb
    ·by_cases hq:f<=v
     ·have dq:decide (f<=v)=true:=decide_eq_true hq
      go_upto_region 24 with (at_builtin;refine wpList_append_one cellsI_length (by omega) rfl _ _ 45 rfl 3 ij _ 8 Try.underlying45 hij hj0 hj1 hj2 rfl #[.int .i64 f] (f:Int) rfl (cellsI_one _) acc W5.heap.size W5.heap.size W5 (.slice aa acc.length ac) rfl rfl HOA.out (by unfold maxLen;omega) (by omega) HBR.out.size HBR.out (Nat.le_refl _) ?_;intro v6 w6 ho6 hb6 _;have HO6:=hid ho6;have HB6:=hid hb6;clear ho6 hb6)
      obtain⟨A1,hA1⟩: ∃A,A=acc++ [f]:=⟨_,rfl⟩
      rw[<-hA1] at HO6
      have hl6:A1.length=acc.length+1:=by rw[hA1];simp
      have HA1:=hid hA1
      clear hA1
      obtain⟨na,nc,hnv⟩:=Rw.own_form HO6.out
      subst hnv
      have c26:=HC2.out _ HB6.out
      have e06:=hc _ HB6.out
      go_wp2_with (at_builtin;refine wpList_append_one cellsI_length (by omega) rfl _ _ 45 rfl 3 ij _ 8 Try.underlying45 hij hj0 hj1 hj2 rfl #[.int .i64 v] (v:Int) rfl (cellsI_one _) A1 W5.heap.size W5.heap.size W5 (.slice na A1.length nc) rfl rfl HO6.out (by unfold maxLen;omega) (by omega) HB6.out.size HB6.out (Nat.le_refl _) ?_;intro v7 w7 ho7 hb7 _;have HO7:=hid ho7;have HB7:=hid hb7;clear ho7 hb7)
      go_roundw
      case rel=>exact⟨K+1,(A1++ [v]),true,by omega,by go_num,rfl,by (try simp only[List.length_append,List.length_cons,List.length_nil]);omega,hid (by rw[<-HRW.out,HDR.out,refW,HA1.out];simp [hq,hne]),HO7,HB7⟩
      case measure=>simp [intOf];omega
     ·have dq:decide (f<=v)=false:=decide_eq_false hq
      go_wp2_with (at_builtin;refine wpList_append_one cellsI_length (by omega) rfl _ _ 45 rfl 3 ij _ 8 Try.underlying45 hij hj0 hj1 hj2 rfl #[.int .i64 v] (v:Int) rfl (cellsI_one _) acc W5.heap.size W5.heap.size W5 (.slice aa acc.length ac) rfl rfl HOA.out (by unfold maxLen;omega) (by omega) HBR.out.size HBR.out (Nat.le_refl _) ?_;intro v7 w7 ho7 hb7 _;have HO7:=hid ho7;have HB7:=hid hb7;clear ho7 hb7)
      go_roundw
      case rel=>exact⟨K+1,(acc++ [v]),false,by omega,by go_num,rfl,by (try simp only[List.length_append,List.length_cons,List.length_nil]);omega,hid (by rw[<-HRW.out,HDR.out,refW];simp [hq,hne]),HO7,HB7⟩
      case measure=>simp [intOf];omega
    ·skip
     go_wp2_with (at_builtin;refine wpList_append_one cellsI_length (by omega) rfl _ _ 45 rfl 3 ij _ 8 Try.underlying45 hij hj0 hj1 hj2 rfl #[.int .i64 v] (v:Int) rfl (cellsI_one _) acc W5.heap.size W5.heap.size W5 (.slice aa acc.length ac) rfl rfl HOA.out (by unfold maxLen;omega) (by omega) HBR.out.size HBR.out (Nat.le_refl _) ?_;intro v7 w7 ho7 hb7 _;have HO7:=hid ho7;have HB7:=hid hb7;clear ho7 hb7)
     go_roundw
     case rel=>exact⟨K+1,(acc++ [v]),true,by omega,by go_num,rfl,by (try simp only[List.length_append,List.length_cons,List.length_nil]);omega,hid (by rw[<-HRW.out,HDR.out,refW];simp [hne]),HO7,HB7⟩
     case measure=>simp [intOf];omega
  ·obtain rfl:K=NW:=by omega
   have hd0:zw.drop K= []:=List.drop_eq_nil_of_le (by rw[HNW.out];exact Nat.le_refl _)
   have hrw:=HRW.out
   rw[hd0,refW] at hrw
   clear hd0
   cases pb
   ·rw[if_neg Bool.false_ne_true] at hrw
    go_upto_region 28 with (at_builtin;refine wpList_append_one cellsI_length (by omega) rfl _ _ 45 rfl 3 ij _ 8 Try.underlying45 hij hj0 hj1 hj2 rfl #[.int .i64 f] (f:Int) rfl (cellsI_one _) acc W5.heap.size W5.heap.size W5 (.slice aa acc.length ac) rfl rfl HOA.out (by unfold maxLen;omega) (by omega) HBR.out.size HBR.out (Nat.le_refl _) ?_;intro v6 w6 ho6 hb6 _;have HO6:=hid ho6;have HB6:=hid hb6;clear ho6 hb6)
    obtain⟨na,nc,hnv⟩:=Rw.own_form HO6.out
    subst hnv
    rw[hrw] at HO6 ⊢
    have hz5:=cells_later HZ5.out HB6.out
    have zf:=frozen_at hz5
    have u2:=cell_at hz5 2
    have u9:=cell_at hz5 9
    simp at u2 u9
    have HGA:=hid (cells_later (cells_later HG3.out HB5.out) HB6.out)
    have n0:=cell_at HGA.out 0
    simp at n0
    have CQ:=hid (fun W=>Vw.RefQuorum_any s.n W)
    rw[quorum_of HGN.out] at CQ
    go_upto_region 29 with fail
    clear u2 u9
    obtain⟨cq,hcq⟩: ∃cq,decide (quoF s.n<=(R.length:Int))=cq:=⟨_,rfl⟩
    have HCQ:=hid hcq
    have hz6:(w6.setCell ⟨bz,2,none⟩ (.slice na R.length nc)).heap[bz]?=some (.cells #[.int .i64 z1,.int .i64 z2,.slice na R.length nc,.bool z3,.int .i64 z4,.int .i64 z5,.int .i64 z6,.int .i64 z7,.slice za z8.length zc,.bool false] 66):=by rw[set_atB hz5];rfl
    have hbg:bz≠g:=by rw[<-HBZ.out];have:=HGL.out;omega
    have hg6:=grown_setL w6 bz 2 (.slice na R.length nc)
    have HGB:Hid ((w6.setCell ⟨bz,2,none⟩ (.slice na R.length nc)).heap[g]?= _):=hid ((hg6.block _ (get_ltB HGA.out) (fun q=>hbg (by injection q with q;exact q.symm))).trans HGA.out)
    have n1:=cell_at HGB.out 0
    have u9:=cell_at hz6 9
    have zf6:=frozen_at hz6
    simp at n1 u9
    go_upto_region 30 with (go_at_call 35;refine(CQ.out _).mono ?_;rintro e wz ⟨rfl,hwz⟩;rw[<-hwz];clear hwz wz)
    try rw[hcq]
    clear hcq n0 n1 u9 zf zf6
    have HZW:Hid (((w6.setCell ⟨bz,2,none⟩ (.slice na R.length nc)).setCell ⟨bz,9,none⟩ (.bool cq)).heap[bz]?=some (.cells #[.int .i64 z1,.int .i64 z2,.slice na R.length nc,.bool z3,.int .i64 z4,.int .i64 z5,.int .i64 z6,.int .i64 z7,.slice za z8.length zc,.bool cq] 66)):=hid (by rw[set_atB hz6];rfl)
    have hg7:=hg6.trans (grown_setL (w6.setCell ⟨bz,2,none⟩ (.slice na R.length nc)) bz 9 (.bool cq))
    have HGW:Hid (((w6.setCell ⟨bz,2,none⟩ (.slice na R.length nc)).setCell ⟨bz,9,none⟩ (.bool cq)).heap[g]?= _):=hid ((hg7.block _ (get_ltB HGA.out) (fun q=>hbg (by injection q with q;exact q.symm))).trans HGA.out)
    have hbz3:W2.heap.size<=bz:=by rw[HBZ.out];exact Nat.le_refl _
    have hs3W:W2.heap.size<=w6.heap.size:=Nat.le_trans HB5.out.size HB6.out.size
    have hb3W:Below W2.heap.size W2 w6:=step HB5.out HB6.out
    have HB7:Hid (Below W2.heap.size W2 ((w6.setCell ⟨bz,2,none⟩ (.slice na R.length nc)).setCell ⟨bz,9,none⟩ (.bool cq))):=hid (hb3W.grown hg7 hs3W (fun k hk=>by cases hk;exact hbz3))
    have HOR:Hid (((w6.setCell ⟨bz,2,none⟩ (.slice na R.length nc)).setCell ⟨bz,9,none⟩ (.bool cq)).ownsRow W5.heap.size 3 1 (.slice na R.length nc) R.length (flatX cellsI R)):=hid (rowset_own HO6.out hg7 (fun q=>by have:=(Rw.own_lt HO6.out _ q).1;have:=get_ltB HZ5.out;omega))
    have HS7:Hid (W2.heap.size<=W5.heap.size):=hid HB5.out.size
    clear hz5 hz6 hg6 hg7 hbz3 hs3W hb3W HGA HGB HO6 HB6
    generalize ((w6.setCell ⟨bz,2,none⟩ (.slice na R.length nc)).setCell ⟨bz,9,none⟩ (.bool cq))=W7 at HZW HGW HB7 HOR ⊢
    have HKS:Hid (∀W:World,W.heap[g]?=some (.cells #[.int .i64 s.n,.int .i64 s.done,.slice (some ⟨lb,0,none⟩) N lc] 42)->W.heap[bz]?=some (.cells #[.int .i64 z1,.int .i64 z2,.slice na R.length nc,.bool z3,.int .i64 z4,.int .i64 z5,.int .i64 z6,.int .i64 z7,.slice za z8.length zc,.bool cq] 66)->W.cell? ⟨g,2,none⟩=some (.slice (some ⟨lb,0,none⟩) N lc)/\W.cell? ⟨bz,0,none⟩=some (.int .i64 z1)/\W.cell? ⟨bz,1,none⟩=some (.int .i64 z2)/\W.cell? ⟨bz,2,none⟩=some (.slice na R.length nc)/\W.cell? ⟨bz,3,none⟩=some (.bool z3)/\W.cell? ⟨bz,4,none⟩=some (.int .i64 z4)/\W.cell? ⟨bz,5,none⟩=some (.int .i64 z5)/\W.cell? ⟨bz,6,none⟩=some (.int .i64 z6)/\W.cell? ⟨bz,7,none⟩=some (.int .i64 z7)/\W.cell? ⟨bz,8,none⟩=some (.slice za z8.length zc)/\W.cell? ⟨bz,9,none⟩=some (.bool cq)):=hid fun W h1 h2=>⟨cell_at h1 2,cell_at h2 0,cell_at h2 1,cell_at h2 2,cell_at h2 3,cell_at h2 4,cell_at h2 5,cell_at h2 6,cell_at h2 7,cell_at h2 8,cell_at h2 9⟩
    have HOL:=hid (Rw.own_below HO3.out HB7.out)
    have HLB:Hid (∃lcs,W7.heap[lb]?=some (.cells lcs 66)):=hid (by obtain⟨lcs,h⟩:=HLS.out;exact⟨lcs,cells_later h HB7.out⟩)
    have hlbz:lb<bz:=by rw[<-HBZ.out];exact HLL.out
    have hglb:g<lb:=by have:=HLM.out;have:=HGM.out;omega
    have HFIN:Hid (∀V,Below W7.heap.size W7 V->HasL (set10 V lb (k*10) (⟨z1,z2,R,na,nc,⟨z3,z4,z5,z6,z7,z8⟩,za,zc,cq⟩:SlotC)) g m ⟨s.n,s.done,valsL (M.set k (⟨z1,z2,R,na,nc,⟨z3,z4,z5,z6,z7,z8⟩,za,zc,cq⟩:SlotC))⟩):=hid fun V hb=>by
     have hgr:=set10_grown V lb (k*10) (⟨z1,z2,R,na,nc,⟨z3,z4,z5,z6,z7,z8⟩,za,zc,cq⟩:SlotC)
     have hVB:=step HB7.out hb
     have hlbV:V.heap[lb]?.map (fun o=>match o with | .cells _ t=>decide (t=66) | _=>false)=some true:=by
      obtain⟨lcs,h⟩:=HLB.out
      rw[cells_later h hb]
      simp
     refine⟨⟨.slice (some ⟨lb,0,none⟩) N lc,M.set k (⟨z1,z2,R,na,nc,⟨z3,z4,z5,z6,z7,z8⟩,za,zc,cq⟩:SlotC),(hgr.block _ (get_ltB (cells_later HGW.out hb)) (fun q=>by injection q with q;omega)).trans (cells_later HGW.out hb),rfl,?_,fun y hy=>?_⟩,HGM.out,Nat.le_trans HMW.out (Nat.le_trans hVB.size hgr.size)⟩
     ·have h1:=Rw.own_below HO3.out hVB
      rw[<-HN.out] at h1 ⊢
      rw[List.length_set]
      exact set10_own h1 k (by rw[HN.out];exact hkN) _
     ·rcases List.mem_or_eq_of_mem_set hy with q | q
      ·exact((HX3.out y q).later hVB).far hgr hlbV
      ·rw[q]
       refine OwnX.far (show OwnX m V _ from⟨Rw.own_below (own_lowerX HOR.out (Nat.le_trans HMW.out HS7.out)) hb,Rw.own_below HUV.out hVB⟩) hgr hlbV
    have HTFIN:Hid (∀V,Below W7.heap.size W7 V->Turns g m w (set10 V lb (k*10) (⟨z1,z2,R,na,nc,⟨z3,z4,z5,z6,z7,z8⟩,za,zc,cq⟩:SlotC))):=hid fun V hb=>((HT3.out.below (step HB7.out hb)).grow (set10_grown V lb (k*10) (⟨z1,z2,R,na,nc,⟨z3,z4,z5,z6,z7,z8⟩,za,zc,cq⟩:SlotC)) (.inr (.inr ⟨HLM.out,by obtain⟨lcs,h⟩:=HLB.out;exact⟨lcs,cells_later h hb⟩⟩)))
    go_upto_region 30 with fail
    refine wp_region_held_drew (S:=(fun W=>W.cell? ⟨g,2,none⟩=some (.slice (some ⟨lb,0,none⟩) N lc)/\W.cell? ⟨bz,0,none⟩=some (.int .i64 z1)/\W.cell? ⟨bz,1,none⟩=some (.int .i64 z2)/\W.cell? ⟨bz,2,none⟩=some (.slice na R.length nc)/\W.cell? ⟨bz,3,none⟩=some (.bool z3)/\W.cell? ⟨bz,4,none⟩=some (.int .i64 z4)/\W.cell? ⟨bz,5,none⟩=some (.int .i64 z5)/\W.cell? ⟨bz,6,none⟩=some (.int .i64 z6)/\W.cell? ⟨bz,7,none⟩=some (.int .i64 z7)/\W.cell? ⟨bz,8,none⟩=some (.slice za z8.length zc)/\W.cell? ⟨bz,9,none⟩=some (.bool cq))) (by kernel_rfl) (HKS.out _ (cells_later HGW.out (Below.refl _ _).drew) (cells_later HZW.out (Below.refl _ _).drew)) (fun hHeld=>?_)
    obtain⟨V,hV⟩: ∃V,V=W7.drew:=⟨_,rfl⟩
    have HBV:Hid (Below W7.heap.size W7 V):=hid (by rw[hV];exact(Below.refl _ _).drew)
    rw[<-hV] at hHeld ⊢
    clear hV
    refine wpAnyH_take (i:=0) (v:=?_) rfl (by kernel_rfl) (by kernel_rfl) (by kernel_rfl) (fun _ _ _ h=>h) (Or.inl ⟨by rfl,?_⟩) (by assumption) ?_
    rotate_left
    ·intro w hSw;(try dsimp only at hSw);go_simp<;>with_reducible rfl
    try simp only[Act.put,getElem_toArray,getElem_cons_zero,setIfInBounds_toArray,set_cons_zero,set_cons_succ]
    refine wpAnyH_take (i:=1) (v:=?_) rfl (by kernel_rfl) (by kernel_rfl) (by kernel_rfl) (fun _ _ _ h=>h) (Or.inl ⟨by rfl,?_⟩) (by assumption) ?_
    rotate_left
    ·intro w hSw;(try dsimp only at hSw);go_simp<;>with_reducible rfl
    try simp only[Act.put,getElem_toArray,getElem_cons_succ,getElem_cons_zero,setIfInBounds_toArray,set_cons_zero,set_cons_succ]
    refine wpAnyH_take (i:=2) (v:=?_) rfl (by kernel_rfl) (by kernel_rfl) (by kernel_rfl) (fun _ _ _ h=>h) (Or.inl ⟨by rfl,?_⟩) (by assumption) ?_
    rotate_left
    ·intro w hSw;(try dsimp only at hSw);go_simp<;>with_reducible rfl
    try simp only[Act.put,getElem_toArray,getElem_cons_succ,getElem_cons_zero,setIfInBounds_toArray,set_cons_zero,set_cons_succ]
    refine wpAnyH_take (i:=3) (v:=?_) rfl (by kernel_rfl) (by kernel_rfl) (by kernel_rfl) (fun _ _ _ h=>h) (Or.inl ⟨by rfl,?_⟩) (by assumption) ?_
    rotate_left
    ·intro w hSw;(try dsimp only at hSw);go_simp<;>with_reducible rfl
    try simp only[Act.put,getElem_toArray,getElem_cons_succ,getElem_cons_zero,setIfInBounds_toArray,set_cons_zero,set_cons_succ]
    refine wpAnyH_take (i:=4) (v:=?_) rfl (by kernel_rfl) (by kernel_rfl) (by kernel_rfl) (fun _ _ _ h=>h) (Or.inl ⟨by rfl,?_⟩) (by assumption) ?_
    rotate_left
    ·intro w hSw;(try dsimp only at hSw);go_simp<;>with_reducible rfl
    try simp only[Act.put,getElem_toArray,getElem_cons_succ,getElem_cons_zero,setIfInBounds_toArray,set_cons_zero,set_cons_succ]
    refine wpAnyH_take (i:=5) (v:=?_) rfl (by kernel_rfl) (by kernel_rfl) (by kernel_rfl) (fun _ _ _ h=>h) (Or.inl ⟨by rfl,?_⟩) (by assumption) ?_
    rotate_left
    ·intro w hSw;(try dsimp only at hSw);go_simp<;>with_reducible rfl
    try simp only[Act.put,getElem_toArray,getElem_cons_succ,getElem_cons_zero,setIfInBounds_toArray,set_cons_zero,set_cons_succ]
    refine wpAnyH_take (i:=6) (v:=?_) rfl (by kernel_rfl) (by kernel_rfl) (by kernel_rfl) (fun _ _ _ h=>h) (Or.inl ⟨by rfl,?_⟩) (by assumption) ?_
    rotate_left
    ·intro w hSw;(try dsimp only at hSw);go_simp<;>with_reducible rfl
    try simp only[Act.put,getElem_toArray,getElem_cons_succ,getElem_cons_zero,setIfInBounds_toArray,set_cons_zero,set_cons_succ]
    have hor:=Rw.own_below HOL.out HBV.out
    have hx:=fun j (hj:j<10)=>(show ∃u,V.cell? ⟨lb,k*10+j,none⟩=some u from⟨_,(hor.cellAt (k*10+j) (by omega)).trans (List.getElem?_eq_getElem (by rw[flatX_length cellsS_length,HN.out];omega))⟩)
    have lf: ∀j,V.frozen? ⟨lb,j,none⟩=false:=fun j=>by obtain⟨lcs,hlc⟩:=HLB.out;exact frozen_at (cells_later hlc HBV.out) j
    obtain⟨o0,m0⟩: ∃u,V.cell? ⟨lb,k*10,none⟩=some u:=hx 0 (by omega)
    obtain⟨o1,m1⟩:=hx 1 (by omega)
    obtain⟨o2,m2⟩:=hx 2 (by omega)
    obtain⟨o3,m3⟩:=hx 3 (by omega)
    obtain⟨o4,m4⟩:=hx 4 (by omega)
    obtain⟨o5,m5⟩:=hx 5 (by omega)
    obtain⟨o6,m6⟩:=hx 6 (by omega)
    obtain⟨o7,m7⟩:=hx 7 (by omega)
    obtain⟨o8,m8⟩:=hx 8 (by omega)
    obtain⟨o9,m9⟩:=hx 9 (by omega)
    clear hx hor
    have HF:Hid (HasL (set10 V lb (k*10) (⟨z1,z2,R,na,nc,⟨z3,z4,z5,z6,z7,z8⟩,za,zc,cq⟩:SlotC)) g m ⟨s.n,s.done,valsL (M.set k (⟨z1,z2,R,na,nc,⟨z3,z4,z5,z6,z7,z8⟩,za,zc,cq⟩:SlotC))⟩):=hid (HFIN.out V HBV.out)
    have HT:Hid (Turns g m w (set10 V lb (k*10) (⟨z1,z2,R,na,nc,⟨z3,z4,z5,z6,z7,z8⟩,za,zc,cq⟩:SlotC))):=hid (HTFIN.out V HBV.out)
    have hgw:(set10 V lb (k*10) (⟨z1,z2,R,na,nc,⟨z3,z4,z5,z6,z7,z8⟩,za,zc,cq⟩:SlotC)).heap[g]?= _:=((set10_grown V lb (k*10) (⟨z1,z2,R,na,nc,⟨z3,z4,z5,z6,z7,z8⟩,za,zc,cq⟩:SlotC)).block _ (get_ltB (cells_later HGW.out HBV.out)) (fun q=>by injection q with q;omega)).trans (cells_later HGW.out HBV.out)
    have hzw:(set10 V lb (k*10) (⟨z1,z2,R,na,nc,⟨z3,z4,z5,z6,z7,z8⟩,za,zc,cq⟩:SlotC)).heap[bz]?= _:=((set10_grown V lb (k*10) (⟨z1,z2,R,na,nc,⟨z3,z4,z5,z6,z7,z8⟩,za,zc,cq⟩:SlotC)).block _ (get_ltB (cells_later HZW.out HBV.out)) (fun q=>by injection q with q;omega)).trans (cells_later HZW.out HBV.out)
    have HSF:=hid (HKS.out _ hgw hzw)
    clear hgw hzw
    unfold set10 SlotC.wv SlotC.uv at HF HT HSF
    dsimp only at HF HT HSF
    refine wpAnyH_ready (rs:= [7]) (by kernel_rfl) (by simp) ?_
    refine AllReadyH.cons rfl (fun K hK=>?_) AllReadyH.nil
    go_simp
    refine hK.out _ _ HSF.out (fun hHeld=>?_)
    clear hK K
    try simp only[Act.put,getElem_toArray,getElem_cons_succ,getElem_cons_zero,setIfInBounds_toArray,set_cons_zero,set_cons_succ]
    refine wpAnyH_done (by kernel_rfl) ?_ _
    clear hHeld m0 m1 m2 m3 m4 m5 m6 m7 m8 m9
    go_wp2_with fail
    go_ret
    refine⟨rfl,?_,HT.out⟩
    have hfin:=HF.out
    rw[show putS (nextS s.n y0 f b x) s.l=valsL (M.set k (⟨z1,z2,R,na,nc,⟨z3,z4,z5,z6,z7,z8⟩,za,zc,cq⟩:SlotC)) from by
     rw[valsL_set,HV3.out]
     exact(HPUT.out _ (by rw[HRA.out,<-HCQ.out,HRA.out];rfl)).trans rfl]
    exact hfin
   ·rw[if_pos rfl] at hrw
    go_upto_region 28 with fail
    rw[hrw] at HOA ⊢
    have hz5:=cells_later HZ5.out HBR.out
    have zf:=frozen_at hz5
    have u2:=cell_at hz5 2
    have u9:=cell_at hz5 9
    simp at u2 u9
    have HGA:=hid (cells_later (cells_later HG3.out HB5.out) HBR.out)
    have n0:=cell_at HGA.out 0
    simp at n0
    have CQ:=hid (fun W=>Vw.RefQuorum_any s.n W)
    rw[quorum_of HGN.out] at CQ
    go_upto_region 29 with fail
    clear u2 u9
    obtain⟨cq,hcq⟩: ∃cq,decide (quoF s.n<=(R.length:Int))=cq:=⟨_,rfl⟩
    have HCQ:=hid hcq
    have hz6:(wr.setCell ⟨bz,2,none⟩ (.slice aa R.length ac)).heap[bz]?=some (.cells #[.int .i64 z1,.int .i64 z2,.slice aa R.length ac,.bool z3,.int .i64 z4,.int .i64 z5,.int .i64 z6,.int .i64 z7,.slice za z8.length zc,.bool false] 66):=by rw[set_atB hz5];rfl
    have hbg:bz≠g:=by rw[<-HBZ.out];have:=HGL.out;omega
    have hg6:=grown_setL wr bz 2 (.slice aa R.length ac)
    have HGB:Hid ((wr.setCell ⟨bz,2,none⟩ (.slice aa R.length ac)).heap[g]?= _):=hid ((hg6.block _ (get_ltB HGA.out) (fun q=>hbg (by injection q with q;exact q.symm))).trans HGA.out)
    have n1:=cell_at HGB.out 0
    have u9:=cell_at hz6 9
    have zf6:=frozen_at hz6
    simp at n1 u9
    go_upto_region 30 with (go_at_call 35;refine(CQ.out _).mono ?_;rintro e wz ⟨rfl,hwz⟩;rw[<-hwz];clear hwz wz)
    try rw[hcq]
    clear hcq n0 n1 u9 zf zf6
    have HZW:Hid (((wr.setCell ⟨bz,2,none⟩ (.slice aa R.length ac)).setCell ⟨bz,9,none⟩ (.bool cq)).heap[bz]?=some (.cells #[.int .i64 z1,.int .i64 z2,.slice aa R.length ac,.bool z3,.int .i64 z4,.int .i64 z5,.int .i64 z6,.int .i64 z7,.slice za z8.length zc,.bool cq] 66)):=hid (by rw[set_atB hz6];rfl)
    have hg7:=hg6.trans (grown_setL (wr.setCell ⟨bz,2,none⟩ (.slice aa R.length ac)) bz 9 (.bool cq))
    have HGW:Hid (((wr.setCell ⟨bz,2,none⟩ (.slice aa R.length ac)).setCell ⟨bz,9,none⟩ (.bool cq)).heap[g]?= _):=hid ((hg7.block _ (get_ltB HGA.out) (fun q=>hbg (by injection q with q;exact q.symm))).trans HGA.out)
    have hbz3:W2.heap.size<=bz:=by rw[HBZ.out];exact Nat.le_refl _
    have hs3W:W2.heap.size<=wr.heap.size:=Nat.le_trans HB5.out.size HBR.out.size
    have hb3W:Below W2.heap.size W2 wr:=step HB5.out HBR.out
    have HB7:Hid (Below W2.heap.size W2 ((wr.setCell ⟨bz,2,none⟩ (.slice aa R.length ac)).setCell ⟨bz,9,none⟩ (.bool cq))):=hid (hb3W.grown hg7 hs3W (fun k hk=>by cases hk;exact hbz3))
    have HOR:Hid (((wr.setCell ⟨bz,2,none⟩ (.slice aa R.length ac)).setCell ⟨bz,9,none⟩ (.bool cq)).ownsRow W5.heap.size 3 1 (.slice aa R.length ac) R.length (flatX cellsI R)):=hid (rowset_own HOA.out hg7 (fun q=>by have:=(Rw.own_lt HOA.out _ q).1;have:=get_ltB HZ5.out;omega))
    have HS7:Hid (W2.heap.size<=W5.heap.size):=hid HB5.out.size
    clear hz5 hz6 hg6 hg7 hbz3 hs3W hb3W HGA HGB HOA HBR
    generalize ((wr.setCell ⟨bz,2,none⟩ (.slice aa R.length ac)).setCell ⟨bz,9,none⟩ (.bool cq))=W7 at HZW HGW HB7 HOR ⊢
    have HKS:Hid (∀W:World,W.heap[g]?=some (.cells #[.int .i64 s.n,.int .i64 s.done,.slice (some ⟨lb,0,none⟩) N lc] 42)->W.heap[bz]?=some (.cells #[.int .i64 z1,.int .i64 z2,.slice aa R.length ac,.bool z3,.int .i64 z4,.int .i64 z5,.int .i64 z6,.int .i64 z7,.slice za z8.length zc,.bool cq] 66)->W.cell? ⟨g,2,none⟩=some (.slice (some ⟨lb,0,none⟩) N lc)/\W.cell? ⟨bz,0,none⟩=some (.int .i64 z1)/\W.cell? ⟨bz,1,none⟩=some (.int .i64 z2)/\W.cell? ⟨bz,2,none⟩=some (.slice aa R.length ac)/\W.cell? ⟨bz,3,none⟩=some (.bool z3)/\W.cell? ⟨bz,4,none⟩=some (.int .i64 z4)/\W.cell? ⟨bz,5,none⟩=some (.int .i64 z5)/\W.cell? ⟨bz,6,none⟩=some (.int .i64 z6)/\W.cell? ⟨bz,7,none⟩=some (.int .i64 z7)/\W.cell? ⟨bz,8,none⟩=some (.slice za z8.length zc)/\W.cell? ⟨bz,9,none⟩=some (.bool cq)):=hid fun W h1 h2=>⟨cell_at h1 2,cell_at h2 0,cell_at h2 1,cell_at h2 2,cell_at h2 3,cell_at h2 4,cell_at h2 5,cell_at h2 6,cell_at h2 7,cell_at h2 8,cell_at h2 9⟩
    have HOL:=hid (Rw.own_below HO3.out HB7.out)
    have HLB:Hid (∃lcs,W7.heap[lb]?=some (.cells lcs 66)):=hid (by obtain⟨lcs,h⟩:=HLS.out;exact⟨lcs,cells_later h HB7.out⟩)
    have hlbz:lb<bz:=by rw[<-HBZ.out];exact HLL.out
    have hglb:g<lb:=by have:=HLM.out;have:=HGM.out;omega
    have HFIN:Hid (∀V,Below W7.heap.size W7 V->HasL (set10 V lb (k*10) (⟨z1,z2,R,aa,ac,⟨z3,z4,z5,z6,z7,z8⟩,za,zc,cq⟩:SlotC)) g m ⟨s.n,s.done,valsL (M.set k (⟨z1,z2,R,aa,ac,⟨z3,z4,z5,z6,z7,z8⟩,za,zc,cq⟩:SlotC))⟩):=hid fun V hb=>by
     have hgr:=set10_grown V lb (k*10) (⟨z1,z2,R,aa,ac,⟨z3,z4,z5,z6,z7,z8⟩,za,zc,cq⟩:SlotC)
     have hVB:=step HB7.out hb
     have hlbV:V.heap[lb]?.map (fun o=>match o with | .cells _ t=>decide (t=66) | _=>false)=some true:=by
      obtain⟨lcs,h⟩:=HLB.out
      rw[cells_later h hb]
      simp
     refine⟨⟨.slice (some ⟨lb,0,none⟩) N lc,M.set k (⟨z1,z2,R,aa,ac,⟨z3,z4,z5,z6,z7,z8⟩,za,zc,cq⟩:SlotC),(hgr.block _ (get_ltB (cells_later HGW.out hb)) (fun q=>by injection q with q;omega)).trans (cells_later HGW.out hb),rfl,?_,fun y hy=>?_⟩,HGM.out,Nat.le_trans HMW.out (Nat.le_trans hVB.size hgr.size)⟩
     ·have h1:=Rw.own_below HO3.out hVB
      rw[<-HN.out] at h1 ⊢
      rw[List.length_set]
      exact set10_own h1 k (by rw[HN.out];exact hkN) _
     ·rcases List.mem_or_eq_of_mem_set hy with q | q
      ·exact((HX3.out y q).later hVB).far hgr hlbV
      ·rw[q]
       refine OwnX.far (show OwnX m V _ from⟨Rw.own_below (own_lowerX HOR.out (Nat.le_trans HMW.out HS7.out)) hb,Rw.own_below HUV.out hVB⟩) hgr hlbV
    have HTFIN:Hid (∀V,Below W7.heap.size W7 V->Turns g m w (set10 V lb (k*10) (⟨z1,z2,R,aa,ac,⟨z3,z4,z5,z6,z7,z8⟩,za,zc,cq⟩:SlotC))):=hid fun V hb=>((HT3.out.below (step HB7.out hb)).grow (set10_grown V lb (k*10) (⟨z1,z2,R,aa,ac,⟨z3,z4,z5,z6,z7,z8⟩,za,zc,cq⟩:SlotC)) (.inr (.inr ⟨HLM.out,by obtain⟨lcs,h⟩:=HLB.out;exact⟨lcs,cells_later h hb⟩⟩)))
    go_upto_region 30 with fail
    refine wp_region_held_drew (S:=(fun W=>W.cell? ⟨g,2,none⟩=some (.slice (some ⟨lb,0,none⟩) N lc)/\W.cell? ⟨bz,0,none⟩=some (.int .i64 z1)/\W.cell? ⟨bz,1,none⟩=some (.int .i64 z2)/\W.cell? ⟨bz,2,none⟩=some (.slice aa R.length ac)/\W.cell? ⟨bz,3,none⟩=some (.bool z3)/\W.cell? ⟨bz,4,none⟩=some (.int .i64 z4)/\W.cell? ⟨bz,5,none⟩=some (.int .i64 z5)/\W.cell? ⟨bz,6,none⟩=some (.int .i64 z6)/\W.cell? ⟨bz,7,none⟩=some (.int .i64 z7)/\W.cell? ⟨bz,8,none⟩=some (.slice za z8.length zc)/\W.cell? ⟨bz,9,none⟩=some (.bool cq))) (by kernel_rfl) (HKS.out _ (cells_later HGW.out (Below.refl _ _).drew) (cells_later HZW.out (Below.refl _ _).drew)) (fun hHeld=>?_)
    obtain⟨V,hV⟩: ∃V,V=W7.drew:=⟨_,rfl⟩
    have HBV:Hid (Below W7.heap.size W7 V):=hid (by rw[hV];exact(Below.refl _ _).drew)
    rw[<-hV] at hHeld ⊢
    clear hV
    refine wpAnyH_take (i:=0) (v:=?_) rfl (by kernel_rfl) (by kernel_rfl) (by kernel_rfl) (fun _ _ _ h=>h) (Or.inl ⟨by rfl,?_⟩) (by assumption) ?_
    rotate_left
    ·intro w hSw;(try dsimp only at hSw);go_simp<;>with_reducible rfl
    try simp only[Act.put,getElem_toArray,getElem_cons_zero,setIfInBounds_toArray,set_cons_zero,set_cons_succ]
    refine wpAnyH_take (i:=1) (v:=?_) rfl (by kernel_rfl) (by kernel_rfl) (by kernel_rfl) (fun _ _ _ h=>h) (Or.inl ⟨by rfl,?_⟩) (by assumption) ?_
    rotate_left
    ·intro w hSw;(try dsimp only at hSw);go_simp<;>with_reducible rfl
    try simp only[Act.put,getElem_toArray,getElem_cons_succ,getElem_cons_zero,setIfInBounds_toArray,set_cons_zero,set_cons_succ]
    refine wpAnyH_take (i:=2) (v:=?_) rfl (by kernel_rfl) (by kernel_rfl) (by kernel_rfl) (fun _ _ _ h=>h) (Or.inl ⟨by rfl,?_⟩) (by assumption) ?_
    rotate_left
    ·intro w hSw;(try dsimp only at hSw);go_simp<;>with_reducible rfl
    try simp only[Act.put,getElem_toArray,getElem_cons_succ,getElem_cons_zero,setIfInBounds_toArray,set_cons_zero,set_cons_succ]
    refine wpAnyH_take (i:=3) (v:=?_) rfl (by kernel_rfl) (by kernel_rfl) (by kernel_rfl) (fun _ _ _ h=>h) (Or.inl ⟨by rfl,?_⟩) (by assumption) ?_
    rotate_left
    ·intro w hSw;(try dsimp only at hSw);go_simp<;>with_reducible rfl
    try simp only[Act.put,getElem_toArray,getElem_cons_succ,getElem_cons_zero,setIfInBounds_toArray,set_cons_zero,set_cons_succ]
    refine wpAnyH_take (i:=4) (v:=?_) rfl (by kernel_rfl) (by kernel_rfl) (by kernel_rfl) (fun _ _ _ h=>h) (Or.inl ⟨by rfl,?_⟩) (by assumption) ?_
    rotate_left
    ·intro w hSw;(try dsimp only at hSw);go_simp<;>with_reducible rfl
    try simp only[Act.put,getElem_toArray,getElem_cons_succ,getElem_cons_zero,setIfInBounds_toArray,set_cons_zero,set_cons_succ]
    refine wpAnyH_take (i:=5) (v:=?_) rfl (by kernel_rfl) (by kernel_rfl) (by kernel_rfl) (fun _ _ _ h=>h) (Or.inl ⟨by rfl,?_⟩) (by assumption) ?_
    rotate_left
    ·intro w hSw;(try dsimp only at hSw);go_simp<;>with_reducible rfl
    try simp only[Act.put,getElem_toArray,getElem_cons_succ,getElem_cons_zero,setIfInBounds_toArray,set_cons_zero,set_cons_succ]
    refine wpAnyH_take (i:=6) (v:=?_) rfl (by kernel_rfl) (by kernel_rfl) (by kernel_rfl) (fun _ _ _ h=>h) (Or.inl ⟨by rfl,?_⟩) (by assumption) ?_
    rotate_left
    ·intro w hSw;(try dsimp only at hSw);go_simp<;>with_reducible rfl
    try simp only[Act.put,getElem_toArray,getElem_cons_succ,getElem_cons_zero,setIfInBounds_toArray,set_cons_zero,set_cons_succ]
    have hor:=Rw.own_below HOL.out HBV.out
    have hx:=fun j (hj:j<10)=>(show ∃u,V.cell? ⟨lb,k*10+j,none⟩=some u from⟨_,(hor.cellAt (k*10+j) (by omega)).trans (List.getElem?_eq_getElem (by rw[flatX_length cellsS_length,HN.out];omega))⟩)
    have lf: ∀j,V.frozen? ⟨lb,j,none⟩=false:=fun j=>by obtain⟨lcs,hlc⟩:=HLB.out;exact frozen_at (cells_later hlc HBV.out) j
    obtain⟨o0,m0⟩: ∃u,V.cell? ⟨lb,k*10,none⟩=some u:=hx 0 (by omega)
    obtain⟨o1,m1⟩:=hx 1 (by omega)
    obtain⟨o2,m2⟩:=hx 2 (by omega)
    obtain⟨o3,m3⟩:=hx 3 (by omega)
    obtain⟨o4,m4⟩:=hx 4 (by omega)
    obtain⟨o5,m5⟩:=hx 5 (by omega)
    obtain⟨o6,m6⟩:=hx 6 (by omega)
    obtain⟨o7,m7⟩:=hx 7 (by omega)
    obtain⟨o8,m8⟩:=hx 8 (by omega)
    obtain⟨o9,m9⟩:=hx 9 (by omega)
    clear hx hor
    have HF:Hid (HasL (set10 V lb (k*10) (⟨z1,z2,R,aa,ac,⟨z3,z4,z5,z6,z7,z8⟩,za,zc,cq⟩:SlotC)) g m ⟨s.n,s.done,valsL (M.set k (⟨z1,z2,R,aa,ac,⟨z3,z4,z5,z6,z7,z8⟩,za,zc,cq⟩:SlotC))⟩):=hid (HFIN.out V HBV.out)
    have HT:Hid (Turns g m w (set10 V lb (k*10) (⟨z1,z2,R,aa,ac,⟨z3,z4,z5,z6,z7,z8⟩,za,zc,cq⟩:SlotC))):=hid (HTFIN.out V HBV.out)
    have hgw:(set10 V lb (k*10) (⟨z1,z2,R,aa,ac,⟨z3,z4,z5,z6,z7,z8⟩,za,zc,cq⟩:SlotC)).heap[g]?= _:=((set10_grown V lb (k*10) (⟨z1,z2,R,aa,ac,⟨z3,z4,z5,z6,z7,z8⟩,za,zc,cq⟩:SlotC)).block _ (get_ltB (cells_later HGW.out HBV.out)) (fun q=>by injection q with q;omega)).trans (cells_later HGW.out HBV.out)
    have hzw:(set10 V lb (k*10) (⟨z1,z2,R,aa,ac,⟨z3,z4,z5,z6,z7,z8⟩,za,zc,cq⟩:SlotC)).heap[bz]?= _:=((set10_grown V lb (k*10) (⟨z1,z2,R,aa,ac,⟨z3,z4,z5,z6,z7,z8⟩,za,zc,cq⟩:SlotC)).block _ (get_ltB (cells_later HZW.out HBV.out)) (fun q=>by injection q with q;omega)).trans (cells_later HZW.out HBV.out)
    have HSF:=hid (HKS.out _ hgw hzw)
    clear hgw hzw
    unfold set10 SlotC.wv SlotC.uv at HF HT HSF
    dsimp only at HF HT HSF
    refine wpAnyH_ready (rs:= [7]) (by kernel_rfl) (by simp) ?_
    refine AllReadyH.cons rfl (fun K hK=>?_) AllReadyH.nil
    go_simp
    refine hK.out _ _ HSF.out (fun hHeld=>?_)
    clear hK K
    try simp only[Act.put,getElem_toArray,getElem_cons_succ,getElem_cons_zero,setIfInBounds_toArray,set_cons_zero,set_cons_succ]
    refine wpAnyH_done (by kernel_rfl) ?_ _
    clear hHeld m0 m1 m2 m3 m4 m5 m6 m7 m8 m9
    go_wp2_with fail
    go_ret
    refine⟨rfl,?_,HT.out⟩
    have hfin:=HF.out
    rw[show putS (nextS s.n y0 f b x) s.l=valsL (M.set k (⟨z1,z2,R,aa,ac,⟨z3,z4,z5,z6,z7,z8⟩,za,zc,cq⟩:SlotC)) from by
     rw[valsL_set,HV3.out]
     exact(HPUT.out _ (by rw[HRA.out,<-HCQ.out,HRA.out];rfl)).trans rfl]
    exact hfin
set_option maxHeartbeats 20000000 in
theorem RefHear_over (g m:Nat) (s:LrnV) (f b t:Int) (x:BatV) (u:Value) (w:World) (h:HasL w g m s) (hs:GoodN s) (hn9:s.l.length<=1000) (hr:RdR w u x.reqs) (ho:w.ownsRow m 73 5 u x.reqs.length (flatX cellsR x.reqs)) (hgood:badF s f b t x=false)
  (h1:s.done<t) (h9:t<=s.done+9) (y0:SlotV) (hy:at_ s.l t=some y0) (hch:y0.chosen=false) (hgr:y0.ballot<b):
  Calls Try.prog 15 #[.pointer (some ⟨g,0,none⟩),.int .i64 f,.int .i64 b,.int .i64 t,batVal x u] w (fun e w'=>e= .returned (.int .i64 0)/\HasL w' g m ⟨s.n,s.done,putS (nextS s.n y0 f b x) s.l⟩/\Turns g m w w'):=by
 obtain⟨ua,uc,rfl⟩:=hr.form
 unfold badF at hgood
 simp only[Bool.not_eq_false',Bool.and_eq_true,decide_eq_true_eq] at hgood
 obtain⟨⟨⟨⟨f0,f1⟩,hb⟩,ht⟩,hm⟩:=hgood
 have d1:decide (f<0)=false:=decide_eq_false (by omega)
 have d2:decide (s.n<=f)=false:=decide_eq_false (by omega)
 have CB:=hid (fun w=>high12_any b 0 w)
 have CS:=hid (fun w=>high12_any t 1 w)
 rw[hb] at CB
 have htop:t<=2305843009213693952:=by simp [highF] at ht;omega
 have hlow:1<=t:=by simp [highF] at ht;omega
 rw[ht] at CS
 have hb1:=newAlloc w (.cells #[.bool x.fill,.int .i64 x.view,.int .i64 x.tv,.int .i64 x.ts,.int .i64 x.time,.slice ua x.reqs.length uc] 38)
 have k1:=alloc_atB w (.cells #[.bool x.fill,.int .i64 x.view,.int .i64 x.tv,.int .i64 x.ts,.int .i64 x.time,.slice ua x.reqs.length uc] 38) _ rfl
 obtain⟨W1,hW1⟩: ∃W1,W1=w.alloc (.cells #[.bool x.fill,.int .i64 x.view,.int .i64 x.tv,.int .i64 x.ts,.int .i64 x.time,.slice ua x.reqs.length uc] 38):=⟨_,rfl⟩
 rw[<-hW1] at hb1 k1
 have CM:=hid (RefMayB_any x (.slice ua x.reqs.length uc) W1 (hr.later hb1))
 rw[hm] at CM
 have HB1:=hid hb1
 have HL1:=hid (h.later hb1)
 have HN9:=hid hn9
 have hd0:=hs.d0
 have hd1:=hs.d1
 have e9:IntKind.i64.wrap (t - s.done)=t - s.done:=by rw[IntKind.wrap_i64];omega
 have c0:=cell_at k1 0
 have c1:=cell_at k1 1
 have c2:=cell_at k1 2
 have c3:=cell_at k1 3
 have c4:=cell_at k1 4
 have c5:=cell_at k1 5
 simp at c0 c1 c2 c3 c4 c5
 have n0:=HL1.out.c0
 have HK1:=hid k1
 have HT1:=hid ((Turns.refl g m w).below hb1)
 clear hb1 k1 h hb hm
 unfold batVal at CM ⊢
 have d5:decide (t<=s.done)=false:=decide_eq_false (by omega)
 have d6:decide (9<t - s.done)=false:=decide_eq_false (by omega)
 have HGN:=hid hs
 have HOU:=hid ho
 rcases idx_at s.l t with ⟨i1,i2⟩ | ⟨k,hk,i1,i2⟩
 ·rw[i2] at hy
  cases hy
 have hyk:s.l[k]=y0:=by rw[i2] at hy;injection hy
 have HYK:=hid hyk
 have HYM:Hid (y0∈s.l/\y0.slot=t):=hid (at_mem hy)
 have HFST:Hid (∀j (hj:j<k) (hl:j<s.l.length),s.l[j].slot ≠t):=hid (first_at hk i1)
 clear i2 hy hr ht f0 f1 hd0 hd1 hlow htop hs ho hyk
 go_enter Try.func15,Try.ntmps15
 go_upto_region 1 with fail
 rw[<-hW1]
 clear hW1
 go_wp2_with fail
 refine(CB.out _).mono ?_
 rintro e w1 ⟨rfl,rfl⟩
 go_wp2_with fail
 refine(CS.out _).mono ?_
 rintro e w1 ⟨rfl,rfl⟩
 go_wp2_with fail
 refine CM.out.mono ?_
 rintro e W2 ⟨rfl,hb2⟩
 have HB2:=hid hb2
 have HL2:=hid (HL1.out.later hb2)
 clear hb2
 have CA:=hid (At_any g m s t W2 HL2.out HN9.out)
 have a1:=HL2.out.c1
 have af:=HL2.out.open_ 0
 rw[i1] at CA
 go_wp2_with fail
 refine CA.out.mono ?_
 rintro e wz ⟨rfl,hwz⟩
 rw[hwz]
 clear hwz wz
 have HT2:=hid (HT1.out.below HB2.out)
 obtain⟨lv,M,l1,l2,l3,l4⟩:=HL2.out.ex
 have hkM:k<M.length:=by rw[<-valsL_length,l2];exact hk
 obtain⟨lb,lc,rfl,hlm,hll,hls⟩:=own_blk l3 (by omega)
 have HLM:=hid hlm
 have HLL:=hid hll
 have HLS:=hid hls
 have HV3:=hid l2
 have HO3:=hid l3
 have HX3:=hid l4
 have HG3:=hid l1
 have HK3:=hid (cells_later HK1.out HB2.out)
 have HGM:=hid HL2.out.gm
 have HMW:=hid HL2.out.mw
 have HGL:=hid HL2.out.lt
 have HT3:=HT2
 obtain⟨bb,oo,hab,hcc⟩:=rds_at (RdX.own cellsS_length l3) k hkM
 cases hab
 obtain⟨q0,q1,q2,q3,q4,q5,q6,q7,q8,q9⟩:=hcc _ (Below.refl _ _)
 simp only[Nat.zero_add] at q0 q1 q2 q3 q4 q5 q6 q7 q8 q9
 have g2:=cell_at l1 2
 simp at g2
 have hzv:(M[k]'hkM).val =y0:=by
  rw[<-HYK.out,<-valsL_get M k hkM (by rw[valsL_length];exact hkM)]
  congr 1
 have HZX:=hid (l4 _ (List.getElem_mem hkM))
 clear hcc l1 l2 l3 l4 hlm hll hls
 generalize (M[k]'hkM)=z at q0 q1 q2 q3 q4 q5 q6 q7 q8 q9 hzv HZX
 obtain⟨z1,z2,zw,zwa,zwc,⟨z3,z4,z5,z6,z7,z8⟩,za,zc,zh⟩:=z
 unfold SlotC.wv at q2
 unfold SlotC.uv at q8
 unfold OwnX SlotC.wv SlotC.uv at HZX
 dsimp only at q0 q1 q2 q3 q4 q5 q6 q7 q8 q9 HZX
 have hz2:z2=y0.ballot:=congrArg SlotV.ballot hzv
 have hzh:zh=y0.chosen:=congrArg SlotV.chosen hzv
 have HZV:=hid hzv
 rw[hch] at hzh
 subst hzh
 clear hzv
 obtain⟨N,hN⟩: ∃N,M.length=N:=⟨_,rfl⟩
 have HN:=hid hN
 have hkN:k<N:=by rw[<-hN];exact hkM
 rw[hN] at g2 HO3 HG3
 have HO3':Hid (W2.ownsRow m 66 10 (.slice (some ⟨lb,0,none⟩) N lc) N (flatX cellsS M)):=hid HO3.out
 have n1:(k:Int)<(N:Int):=by omega
 have n2:(0:Int)<=(k:Int):=by omega
 clear hN hkM
 have HUV:Hid (W2.ownsRow m 73 5 (.slice ua x.reqs.length uc) x.reqs.length (flatX cellsR x.reqs)):=hid (Rw.own_below (Rw.own_below HOU.out HB1.out) HB2.out)
 have HWHO:Hid (zw.Pairwise (· < ·)/\zw.length<=7):=hid (by
  have hw:=(HGN.out.all y0 HYM.out.1).who
  rw[show zw=y0.who from congrArg SlotV.who HZV.out]
  exact⟨hw.rise,goodN_who HGN.out y0 HYM.out.1⟩)
 obtain⟨ij,hij,hj0,hj1,hj2⟩:=info_partsS infoJ
 have HPUT:Hid (∀v:SlotV,v=⟨t,b,addW f [],x,decide (quoF s.n<=((addW f []).length :Int))⟩->putS (nextS s.n y0 f b x) s.l=s.l.set k v):=hid fun v hv=>by
  have e:nextS s.n y0 f b x=v:=by
   rw[hv]
   unfold nextS
   dsimp only
   rw[if_pos hgr,HYM.out.2]
  rw[e,putS_hit v s.l k hk]
  ·rw[HYK.out,hv];exact HYM.out.2
  ·intro j hj
   rw[hv]
   exact HFST.out j hj _
 have dl:decide (b<z2)=false:=decide_eq_false (by omega)
 have dg:decide (z2<b)=true:=decide_eq_true (by omega)
 clear hz2 hgr hch
 go_upto_region 11 with fail
 clear d1 d2 d5 d6 i1 CB CS CM CA a1 af c0 c1 c2 c3 c4 c5 n0
 have HB3Z:=hid (newAlloc W2 (.cells #[.int .i64 z1,.int .i64 z2,.slice zwa zw.length zwc,.bool z3,.int .i64 z4,.int .i64 z5,.int .i64 z6,.int .i64 z7,.slice za z8.length zc,.bool false] 66))
 have hbz:=alloc_atB W2 (.cells #[.int .i64 z1,.int .i64 z2,.slice zwa zw.length zwc,.bool z3,.int .i64 z4,.int .i64 z5,.int .i64 z6,.int .i64 z7,.slice za z8.length zc,.bool false] 66) _ rfl
 obtain⟨W4,hW4⟩: ∃W,W=W2.alloc (.cells #[.int .i64 z1,.int .i64 z2,.slice zwa zw.length zwc,.bool z3,.int .i64 z4,.int .i64 z5,.int .i64 z6,.int .i64 z7,.slice za z8.length zc,.bool false] 66):=⟨_,rfl⟩
 obtain⟨bz,hbz2⟩: ∃x,W2.heap.size=x:=⟨_,rfl⟩
 rw[<-hW4,hbz2] at hbz
 rw[<-hW4] at HB3Z
 have HZ4:=hid hbz
 go_upto_region 12 with fail
 rw[<-hW4]
 try rw[hbz2]
 have HBZ:=hid hbz2
 clear hW4 hbz hbz2 q0 q1 q2 q3 q4 q5 q6 q7 q8 q9 g2
 have y1:=cell_at HZ4.out 1
 simp at y1
 have hkb:=cells_later HK3.out HB3Z.out
 have b0:=cell_at hkb 0
 have b1:=cell_at hkb 1
 have b2:=cell_at hkb 2
 have b3:=cell_at hkb 3
 have b4:=cell_at hkb 4
 have b5:=cell_at hkb 5
 simp at b0 b1 b2 b3 b4 b5
 clear hkb
 have zf:=frozen_at HZ4.out
 have o0:=cell_at HZ4.out 0
 have o1:=cell_at HZ4.out 1
 have o2:=cell_at HZ4.out 2
 have o3:=cell_at HZ4.out 3
 have o4:=cell_at HZ4.out 4
 have o5:=cell_at HZ4.out 5
 have o6:=cell_at HZ4.out 6
 have o7:=cell_at HZ4.out 7
 have o8:=cell_at HZ4.out 8
 have o9:=cell_at HZ4.out 9
 simp at o0 o1 o2 o3 o4 o5 o6 o7 o8 o9
 go_upto_region 16 with fail
 clear b0 b1 b2 b3 b4 b5 zf o0 o1 o2 o3 o4 o5 o6 o7 o8 o9
 have HZ5:Hid (((((((((((W4.setCell ⟨bz,0,none⟩ (.int .i64 t)).setCell ⟨bz,1,none⟩ (.int .i64 b)).setCell ⟨bz,2,none⟩ (.slice none 0 0)).setCell ⟨bz,3,none⟩ (.bool x.fill)).setCell ⟨bz,4,none⟩ (.int .i64 x.view)).setCell ⟨bz,5,none⟩ (.int .i64 x.tv)).setCell ⟨bz,6,none⟩ (.int .i64 x.ts)).setCell ⟨bz,7,none⟩ (.int .i64 x.time)).setCell ⟨bz,8,none⟩ (.slice ua x.reqs.length uc)).setCell ⟨bz,9,none⟩ (.bool false)).heap[bz]?=some (.cells #[.int .i64 t,.int .i64 b,.slice none 0 0,.bool x.fill,.int .i64 x.view,.int .i64 x.tv,.int .i64 x.ts,.int .i64 x.time,.slice ua x.reqs.length uc,.bool false] 66)):=hid (by rw[set_atB (set_atB (set_atB (set_atB (set_atB (set_atB (set_atB (set_atB (set_atB (set_atB HZ4.out _ _) _ _) _ _) _ _) _ _) _ _) _ _) _ _) _ _) _ _];simp only[setIfInBounds_toArray,set_cons_zero,set_cons_succ])
 have hg45:W4.grownBy ((((((((((W4.setCell ⟨bz,0,none⟩ (.int .i64 t)).setCell ⟨bz,1,none⟩ (.int .i64 b)).setCell ⟨bz,2,none⟩ (.slice none 0 0)).setCell ⟨bz,3,none⟩ (.bool x.fill)).setCell ⟨bz,4,none⟩ (.int .i64 x.view)).setCell ⟨bz,5,none⟩ (.int .i64 x.tv)).setCell ⟨bz,6,none⟩ (.int .i64 x.ts)).setCell ⟨bz,7,none⟩ (.int .i64 x.time)).setCell ⟨bz,8,none⟩ (.slice ua x.reqs.length uc)).setCell ⟨bz,9,none⟩ (.bool false)) (some bz):=(((((((((grown_setL W4 bz _ _).trans (grown_setL _ bz _ _)).trans (grown_setL _ bz _ _)).trans (grown_setL _ bz _ _)).trans (grown_setL _ bz _ _)).trans (grown_setL _ bz _ _)).trans (grown_setL _ bz _ _)).trans (grown_setL _ bz _ _)).trans (grown_setL _ bz _ _)).trans (grown_setL _ bz _ _)
 have hbz3:W2.heap.size<=bz:=by rw[HBZ.out];exact Nat.le_refl _
 have HB5:Hid (Below W2.heap.size W2 ((((((((((W4.setCell ⟨bz,0,none⟩ (.int .i64 t)).setCell ⟨bz,1,none⟩ (.int .i64 b)).setCell ⟨bz,2,none⟩ (.slice none 0 0)).setCell ⟨bz,3,none⟩ (.bool x.fill)).setCell ⟨bz,4,none⟩ (.int .i64 x.view)).setCell ⟨bz,5,none⟩ (.int .i64 x.tv)).setCell ⟨bz,6,none⟩ (.int .i64 x.ts)).setCell ⟨bz,7,none⟩ (.int .i64 x.time)).setCell ⟨bz,8,none⟩ (.slice ua x.reqs.length uc)).setCell ⟨bz,9,none⟩ (.bool false))):=hid (HB3Z.out.grown hg45 HB3Z.out.size (fun k hk=>by cases hk;exact hbz3))
 generalize ((((((((((W4.setCell ⟨bz,0,none⟩ (.int .i64 t)).setCell ⟨bz,1,none⟩ (.int .i64 b)).setCell ⟨bz,2,none⟩ (.slice none 0 0)).setCell ⟨bz,3,none⟩ (.bool x.fill)).setCell ⟨bz,4,none⟩ (.int .i64 x.view)).setCell ⟨bz,5,none⟩ (.int .i64 x.tv)).setCell ⟨bz,6,none⟩ (.int .i64 x.ts)).setCell ⟨bz,7,none⟩ (.int .i64 x.time)).setCell ⟨bz,8,none⟩ (.slice ua x.reqs.length uc)).setCell ⟨bz,9,none⟩ (.bool false))=W5 at HZ5 HB5 ⊢
 clear hg45 hbz3 HZ4 HB3Z y1
 have HRY:Hid (RdX 1 cellsI W5 (.slice none ([]:List Int).length 0) ([]:List Int)):=hid (RdX.nil _)
 have HYW:Hid (([]:List Int).Pairwise (· < ·)/\([]:List Int).length <=7):=hid ⟨List.Pairwise.nil,by simp⟩
 obtain⟨R,hR⟩: ∃R,refW f false [] ([]:List Int)=R:=⟨_,rfl⟩
 have HRA:Hid (R=addW f ([]:List Int)):=hid (by rw[<-hR,refW_go f _ _ HYW.out.1];rfl)
 have HR0:=hid hR
 clear hR
 have hyl:=HYW.out.2
 have HAT:=hid (fun i hi=>rdi_at HRY.out i hi)
 obtain⟨NW,hNW⟩: ∃NW,([]:List Int).length =NW:=⟨_,rfl⟩
 have HNW:=hid hNW
 obtain rfl:NW=0:=hNW.symm
 have hyl:0<=7:=by omega
 have HC2:Hid (∀W,Below W5.heap.size W5 W->W.cell? ⟨bz,2,none⟩=some (.slice none 0 0)):=hid fun W hb=>cell_at (cells_later HZ5.out hb) 2
 go_upto_region 19 with fail
 go_loopw [13,14,15] (fun v pt i wr=> ∃(K:Nat) (acc:List Int) (pb:Bool),K<=0/\i= .int .i64 (K:Int)/\pt= .bool pb/\acc.length<=2*K/\Hid (refW f pb acc (([]:List Int).drop K)=R)/\Hid (wr.ownsRow W5.heap.size 3 1 v acc.length (flatX cellsI acc))/\Hid (Below W5.heap.size W5 wr)) (fun _ _ i _=>0 - (intOf i).toNat)
 case atStart=>exact⟨0,[],false,by omega,rfl,rfl,by simp,HR0,hid (World.ownsRow_nil _ _ _ _),hid (Below.refl _ _)⟩
 case round=>
  obtain⟨K,acc,pb,hK,rfl,rfl,hacc,HRW,HOA,HBR⟩:=hrel
  have c2:=HC2.out _ HBR.out
  obtain⟨aa,ac,hav⟩:=Rw.own_form HOA.out
  subst hav
  by_cases hlt:K<0
  ·omega
  ·obtain rfl:K=0:=by omega
   have hd0:([]:List Int).drop 0= []:=rfl
   have hrw:=HRW.out
   rw[hd0,refW] at hrw
   clear hd0
   cases pb
   ·rw[if_neg Bool.false_ne_true] at hrw
    go_upto_region 28 with (at_builtin;refine wpList_append_one cellsI_length (by omega) rfl _ _ 45 rfl 3 ij _ 8 Try.underlying45 hij hj0 hj1 hj2 rfl #[.int .i64 f] (f:Int) rfl (cellsI_one _) acc W5.heap.size W5.heap.size W5 (.slice aa acc.length ac) rfl rfl HOA.out (by unfold maxLen;omega) (by omega) HBR.out.size HBR.out (Nat.le_refl _) ?_;intro v6 w6 ho6 hb6 _;have HO6:=hid ho6;have HB6:=hid hb6;clear ho6 hb6)
    obtain⟨na,nc,hnv⟩:=Rw.own_form HO6.out
    subst hnv
    rw[hrw] at HO6 ⊢
    have hz5:=cells_later HZ5.out HB6.out
    have zf:=frozen_at hz5
    have u2:=cell_at hz5 2
    have u9:=cell_at hz5 9
    simp at u2 u9
    have HGA:=hid (cells_later (cells_later HG3.out HB5.out) HB6.out)
    have n0:=cell_at HGA.out 0
    simp at n0
    have CQ:=hid (fun W=>Vw.RefQuorum_any s.n W)
    rw[quorum_of HGN.out] at CQ
    go_upto_region 29 with fail
    clear u2 u9
    obtain⟨cq,hcq⟩: ∃cq,decide (quoF s.n<=(R.length:Int))=cq:=⟨_,rfl⟩
    have HCQ:=hid hcq
    have hz6:(w6.setCell ⟨bz,2,none⟩ (.slice na R.length nc)).heap[bz]?=some (.cells #[.int .i64 t,.int .i64 b,.slice na R.length nc,.bool x.fill,.int .i64 x.view,.int .i64 x.tv,.int .i64 x.ts,.int .i64 x.time,.slice ua x.reqs.length uc,.bool false] 66):=by rw[set_atB hz5];rfl
    have hbg:bz≠g:=by rw[<-HBZ.out];have:=HGL.out;omega
    have hg6:=grown_setL w6 bz 2 (.slice na R.length nc)
    have HGB:Hid ((w6.setCell ⟨bz,2,none⟩ (.slice na R.length nc)).heap[g]?= _):=hid ((hg6.block _ (get_ltB HGA.out) (fun q=>hbg (by injection q with q;exact q.symm))).trans HGA.out)
    have n1:=cell_at HGB.out 0
    have u9:=cell_at hz6 9
    have zf6:=frozen_at hz6
    simp at n1 u9
    go_upto_region 30 with (go_at_call 35;refine(CQ.out _).mono ?_;rintro e wz ⟨rfl,hwz⟩;rw[<-hwz];clear hwz wz)
    try rw[hcq]
    clear hcq n0 n1 u9 zf zf6
    have HZW:Hid (((w6.setCell ⟨bz,2,none⟩ (.slice na R.length nc)).setCell ⟨bz,9,none⟩ (.bool cq)).heap[bz]?=some (.cells #[.int .i64 t,.int .i64 b,.slice na R.length nc,.bool x.fill,.int .i64 x.view,.int .i64 x.tv,.int .i64 x.ts,.int .i64 x.time,.slice ua x.reqs.length uc,.bool cq] 66)):=hid (by rw[set_atB hz6];rfl)
    have hg7:=hg6.trans (grown_setL (w6.setCell ⟨bz,2,none⟩ (.slice na R.length nc)) bz 9 (.bool cq))
    have HGW:Hid (((w6.setCell ⟨bz,2,none⟩ (.slice na R.length nc)).setCell ⟨bz,9,none⟩ (.bool cq)).heap[g]?= _):=hid ((hg7.block _ (get_ltB HGA.out) (fun q=>hbg (by injection q with q;exact q.symm))).trans HGA.out)
    have hbz3:W2.heap.size<=bz:=by rw[HBZ.out];exact Nat.le_refl _
    have hs3W:W2.heap.size<=w6.heap.size:=Nat.le_trans HB5.out.size HB6.out.size
    have hb3W:Below W2.heap.size W2 w6:=step HB5.out HB6.out
    have HB7:Hid (Below W2.heap.size W2 ((w6.setCell ⟨bz,2,none⟩ (.slice na R.length nc)).setCell ⟨bz,9,none⟩ (.bool cq))):=hid (hb3W.grown hg7 hs3W (fun k hk=>by cases hk;exact hbz3))
    have HOR:Hid (((w6.setCell ⟨bz,2,none⟩ (.slice na R.length nc)).setCell ⟨bz,9,none⟩ (.bool cq)).ownsRow W5.heap.size 3 1 (.slice na R.length nc) R.length (flatX cellsI R)):=hid (rowset_own HO6.out hg7 (fun q=>by have:=(Rw.own_lt HO6.out _ q).1;have:=get_ltB HZ5.out;omega))
    have HS7:Hid (W2.heap.size<=W5.heap.size):=hid HB5.out.size
    clear hz5 hz6 hg6 hg7 hbz3 hs3W hb3W HGA HGB HO6 HB6
    generalize ((w6.setCell ⟨bz,2,none⟩ (.slice na R.length nc)).setCell ⟨bz,9,none⟩ (.bool cq))=W7 at HZW HGW HB7 HOR ⊢
    have HKS:Hid (∀W:World,W.heap[g]?=some (.cells #[.int .i64 s.n,.int .i64 s.done,.slice (some ⟨lb,0,none⟩) N lc] 42)->W.heap[bz]?=some (.cells #[.int .i64 t,.int .i64 b,.slice na R.length nc,.bool x.fill,.int .i64 x.view,.int .i64 x.tv,.int .i64 x.ts,.int .i64 x.time,.slice ua x.reqs.length uc,.bool cq] 66)->W.cell? ⟨g,2,none⟩=some (.slice (some ⟨lb,0,none⟩) N lc)/\W.cell? ⟨bz,0,none⟩=some (.int .i64 t)/\W.cell? ⟨bz,1,none⟩=some (.int .i64 b)/\W.cell? ⟨bz,2,none⟩=some (.slice na R.length nc)/\W.cell? ⟨bz,3,none⟩=some (.bool x.fill)/\W.cell? ⟨bz,4,none⟩=some (.int .i64 x.view)/\W.cell? ⟨bz,5,none⟩=some (.int .i64 x.tv)/\W.cell? ⟨bz,6,none⟩=some (.int .i64 x.ts)/\W.cell? ⟨bz,7,none⟩=some (.int .i64 x.time)/\W.cell? ⟨bz,8,none⟩=some (.slice ua x.reqs.length uc)/\W.cell? ⟨bz,9,none⟩=some (.bool cq)):=hid fun W h1 h2=>⟨cell_at h1 2,cell_at h2 0,cell_at h2 1,cell_at h2 2,cell_at h2 3,cell_at h2 4,cell_at h2 5,cell_at h2 6,cell_at h2 7,cell_at h2 8,cell_at h2 9⟩
    have HOL:=hid (Rw.own_below HO3.out HB7.out)
    have HLB:Hid (∃lcs,W7.heap[lb]?=some (.cells lcs 66)):=hid (by obtain⟨lcs,h⟩:=HLS.out;exact⟨lcs,cells_later h HB7.out⟩)
    have hlbz:lb<bz:=by rw[<-HBZ.out];exact HLL.out
    have hglb:g<lb:=by have:=HLM.out;have:=HGM.out;omega
    have HFIN:Hid (∀V,Below W7.heap.size W7 V->HasL (set10 V lb (k*10) (⟨t,b,R,na,nc,x,ua,uc,cq⟩:SlotC)) g m ⟨s.n,s.done,valsL (M.set k (⟨t,b,R,na,nc,x,ua,uc,cq⟩:SlotC))⟩):=hid fun V hb=>by
     have hgr:=set10_grown V lb (k*10) (⟨t,b,R,na,nc,x,ua,uc,cq⟩:SlotC)
     have hVB:=step HB7.out hb
     have hlbV:V.heap[lb]?.map (fun o=>match o with | .cells _ t=>decide (t=66) | _=>false)=some true:=by
      obtain⟨lcs,h⟩:=HLB.out
      rw[cells_later h hb]
      simp
     refine⟨⟨.slice (some ⟨lb,0,none⟩) N lc,M.set k (⟨t,b,R,na,nc,x,ua,uc,cq⟩:SlotC),(hgr.block _ (get_ltB (cells_later HGW.out hb)) (fun q=>by injection q with q;omega)).trans (cells_later HGW.out hb),rfl,?_,fun y hy=>?_⟩,HGM.out,Nat.le_trans HMW.out (Nat.le_trans hVB.size hgr.size)⟩
     ·have h1:=Rw.own_below HO3.out hVB
      rw[<-HN.out] at h1 ⊢
      rw[List.length_set]
      exact set10_own h1 k (by rw[HN.out];exact hkN) _
     ·rcases List.mem_or_eq_of_mem_set hy with q | q
      ·exact((HX3.out y q).later hVB).far hgr hlbV
      ·rw[q]
       refine OwnX.far (show OwnX m V _ from⟨Rw.own_below (own_lowerX HOR.out (Nat.le_trans HMW.out HS7.out)) hb,Rw.own_below HUV.out hVB⟩) hgr hlbV
    have HTFIN:Hid (∀V,Below W7.heap.size W7 V->Turns g m w (set10 V lb (k*10) (⟨t,b,R,na,nc,x,ua,uc,cq⟩:SlotC))):=hid fun V hb=>((HT3.out.below (step HB7.out hb)).grow (set10_grown V lb (k*10) (⟨t,b,R,na,nc,x,ua,uc,cq⟩:SlotC)) (.inr (.inr ⟨HLM.out,by obtain⟨lcs,h⟩:=HLB.out;exact⟨lcs,cells_later h hb⟩⟩)))
    go_upto_region 30 with fail
    refine wp_region_held_drew (S:=(fun W=>W.cell? ⟨g,2,none⟩=some (.slice (some ⟨lb,0,none⟩) N lc)/\W.cell? ⟨bz,0,none⟩=some (.int .i64 t)/\W.cell? ⟨bz,1,none⟩=some (.int .i64 b)/\W.cell? ⟨bz,2,none⟩=some (.slice na R.length nc)/\W.cell? ⟨bz,3,none⟩=some (.bool x.fill)/\W.cell? ⟨bz,4,none⟩=some (.int .i64 x.view)/\W.cell? ⟨bz,5,none⟩=some (.int .i64 x.tv)/\W.cell? ⟨bz,6,none⟩=some (.int .i64 x.ts)/\W.cell? ⟨bz,7,none⟩=some (.int .i64 x.time)/\W.cell? ⟨bz,8,none⟩=some (.slice ua x.reqs.length uc)/\W.cell? ⟨bz,9,none⟩=some (.bool cq))) (by kernel_rfl) (HKS.out _ (cells_later HGW.out (Below.refl _ _).drew) (cells_later HZW.out (Below.refl _ _).drew)) (fun hHeld=>?_)
    obtain⟨V,hV⟩: ∃V,V=W7.drew:=⟨_,rfl⟩
    have HBV:Hid (Below W7.heap.size W7 V):=hid (by rw[hV];exact(Below.refl _ _).drew)
    rw[<-hV] at hHeld ⊢
    clear hV
    refine wpAnyH_take (i:=0) (v:=?_) rfl (by kernel_rfl) (by kernel_rfl) (by kernel_rfl) (fun _ _ _ h=>h) (Or.inl ⟨by rfl,?_⟩) (by assumption) ?_
    rotate_left
    ·intro w hSw;(try dsimp only at hSw);go_simp<;>with_reducible rfl
    try simp only[Act.put,getElem_toArray,getElem_cons_zero,setIfInBounds_toArray,set_cons_zero,set_cons_succ]
    refine wpAnyH_take (i:=1) (v:=?_) rfl (by kernel_rfl) (by kernel_rfl) (by kernel_rfl) (fun _ _ _ h=>h) (Or.inl ⟨by rfl,?_⟩) (by assumption) ?_
    rotate_left
    ·intro w hSw;(try dsimp only at hSw);go_simp<;>with_reducible rfl
    try simp only[Act.put,getElem_toArray,getElem_cons_succ,getElem_cons_zero,setIfInBounds_toArray,set_cons_zero,set_cons_succ]
    refine wpAnyH_take (i:=2) (v:=?_) rfl (by kernel_rfl) (by kernel_rfl) (by kernel_rfl) (fun _ _ _ h=>h) (Or.inl ⟨by rfl,?_⟩) (by assumption) ?_
    rotate_left
    ·intro w hSw;(try dsimp only at hSw);go_simp<;>with_reducible rfl
    try simp only[Act.put,getElem_toArray,getElem_cons_succ,getElem_cons_zero,setIfInBounds_toArray,set_cons_zero,set_cons_succ]
    refine wpAnyH_take (i:=3) (v:=?_) rfl (by kernel_rfl) (by kernel_rfl) (by kernel_rfl) (fun _ _ _ h=>h) (Or.inl ⟨by rfl,?_⟩) (by assumption) ?_
    rotate_left
    ·intro w hSw;(try dsimp only at hSw);go_simp<;>with_reducible rfl
    try simp only[Act.put,getElem_toArray,getElem_cons_succ,getElem_cons_zero,setIfInBounds_toArray,set_cons_zero,set_cons_succ]
    refine wpAnyH_take (i:=4) (v:=?_) rfl (by kernel_rfl) (by kernel_rfl) (by kernel_rfl) (fun _ _ _ h=>h) (Or.inl ⟨by rfl,?_⟩) (by assumption) ?_
    rotate_left
    ·intro w hSw;(try dsimp only at hSw);go_simp<;>with_reducible rfl
    try simp only[Act.put,getElem_toArray,getElem_cons_succ,getElem_cons_zero,setIfInBounds_toArray,set_cons_zero,set_cons_succ]
    refine wpAnyH_take (i:=5) (v:=?_) rfl (by kernel_rfl) (by kernel_rfl) (by kernel_rfl) (fun _ _ _ h=>h) (Or.inl ⟨by rfl,?_⟩) (by assumption) ?_
    rotate_left
    ·intro w hSw;(try dsimp only at hSw);go_simp<;>with_reducible rfl
    try simp only[Act.put,getElem_toArray,getElem_cons_succ,getElem_cons_zero,setIfInBounds_toArray,set_cons_zero,set_cons_succ]
    refine wpAnyH_take (i:=6) (v:=?_) rfl (by kernel_rfl) (by kernel_rfl) (by kernel_rfl) (fun _ _ _ h=>h) (Or.inl ⟨by rfl,?_⟩) (by assumption) ?_
    rotate_left
    ·intro w hSw;(try dsimp only at hSw);go_simp<;>with_reducible rfl
    try simp only[Act.put,getElem_toArray,getElem_cons_succ,getElem_cons_zero,setIfInBounds_toArray,set_cons_zero,set_cons_succ]
    have hor:=Rw.own_below HOL.out HBV.out
    have hx:=fun j (hj:j<10)=>(show ∃u,V.cell? ⟨lb,k*10+j,none⟩=some u from⟨_,(hor.cellAt (k*10+j) (by omega)).trans (List.getElem?_eq_getElem (by rw[flatX_length cellsS_length,HN.out];omega))⟩)
    have lf: ∀j,V.frozen? ⟨lb,j,none⟩=false:=fun j=>by obtain⟨lcs,hlc⟩:=HLB.out;exact frozen_at (cells_later hlc HBV.out) j
    obtain⟨o0,m0⟩: ∃u,V.cell? ⟨lb,k*10,none⟩=some u:=hx 0 (by omega)
    obtain⟨o1,m1⟩:=hx 1 (by omega)
    obtain⟨o2,m2⟩:=hx 2 (by omega)
    obtain⟨o3,m3⟩:=hx 3 (by omega)
    obtain⟨o4,m4⟩:=hx 4 (by omega)
    obtain⟨o5,m5⟩:=hx 5 (by omega)
    obtain⟨o6,m6⟩:=hx 6 (by omega)
    obtain⟨o7,m7⟩:=hx 7 (by omega)
    obtain⟨o8,m8⟩:=hx 8 (by omega)
    obtain⟨o9,m9⟩:=hx 9 (by omega)
    clear hx hor
    have HF:Hid (HasL (set10 V lb (k*10) (⟨t,b,R,na,nc,x,ua,uc,cq⟩:SlotC)) g m ⟨s.n,s.done,valsL (M.set k (⟨t,b,R,na,nc,x,ua,uc,cq⟩:SlotC))⟩):=hid (HFIN.out V HBV.out)
    have HT:Hid (Turns g m w (set10 V lb (k*10) (⟨t,b,R,na,nc,x,ua,uc,cq⟩:SlotC))):=hid (HTFIN.out V HBV.out)
    have hgw:(set10 V lb (k*10) (⟨t,b,R,na,nc,x,ua,uc,cq⟩:SlotC)).heap[g]?= _:=((set10_grown V lb (k*10) (⟨t,b,R,na,nc,x,ua,uc,cq⟩:SlotC)).block _ (get_ltB (cells_later HGW.out HBV.out)) (fun q=>by injection q with q;omega)).trans (cells_later HGW.out HBV.out)
    have hzw:(set10 V lb (k*10) (⟨t,b,R,na,nc,x,ua,uc,cq⟩:SlotC)).heap[bz]?= _:=((set10_grown V lb (k*10) (⟨t,b,R,na,nc,x,ua,uc,cq⟩:SlotC)).block _ (get_ltB (cells_later HZW.out HBV.out)) (fun q=>by injection q with q;omega)).trans (cells_later HZW.out HBV.out)
    have HSF:=hid (HKS.out _ hgw hzw)
    clear hgw hzw
    unfold set10 SlotC.wv SlotC.uv at HF HT HSF
    dsimp only at HF HT HSF
    refine wpAnyH_ready (rs:= [7]) (by kernel_rfl) (by simp) ?_
    refine AllReadyH.cons rfl (fun K hK=>?_) AllReadyH.nil
    go_simp
    refine hK.out _ _ HSF.out (fun hHeld=>?_)
    clear hK K
    try simp only[Act.put,getElem_toArray,getElem_cons_succ,getElem_cons_zero,setIfInBounds_toArray,set_cons_zero,set_cons_succ]
    refine wpAnyH_done (by kernel_rfl) ?_ _
    clear hHeld m0 m1 m2 m3 m4 m5 m6 m7 m8 m9
    go_wp2_with fail
    go_ret
    refine⟨rfl,?_,HT.out⟩
    have hfin:=HF.out
    rw[show putS (nextS s.n y0 f b x) s.l=valsL (M.set k (⟨t,b,R,na,nc,x,ua,uc,cq⟩:SlotC)) from by
     rw[valsL_set,HV3.out]
     exact(HPUT.out _ (by rw[HRA.out,<-HCQ.out,HRA.out];rfl)).trans rfl]
    exact hfin
   ·rw[if_pos rfl] at hrw
    go_upto_region 28 with fail
    rw[hrw] at HOA ⊢
    have hz5:=cells_later HZ5.out HBR.out
    have zf:=frozen_at hz5
    have u2:=cell_at hz5 2
    have u9:=cell_at hz5 9
    simp at u2 u9
    have HGA:=hid (cells_later (cells_later HG3.out HB5.out) HBR.out)
    have n0:=cell_at HGA.out 0
    simp at n0
    have CQ:=hid (fun W=>Vw.RefQuorum_any s.n W)
    rw[quorum_of HGN.out] at CQ
    go_upto_region 29 with fail
    clear u2 u9
    obtain⟨cq,hcq⟩: ∃cq,decide (quoF s.n<=(R.length:Int))=cq:=⟨_,rfl⟩
    have HCQ:=hid hcq
    have hz6:(wr.setCell ⟨bz,2,none⟩ (.slice aa R.length ac)).heap[bz]?=some (.cells #[.int .i64 t,.int .i64 b,.slice aa R.length ac,.bool x.fill,.int .i64 x.view,.int .i64 x.tv,.int .i64 x.ts,.int .i64 x.time,.slice ua x.reqs.length uc,.bool false] 66):=by rw[set_atB hz5];rfl
    have hbg:bz≠g:=by rw[<-HBZ.out];have:=HGL.out;omega
    have hg6:=grown_setL wr bz 2 (.slice aa R.length ac)
    have HGB:Hid ((wr.setCell ⟨bz,2,none⟩ (.slice aa R.length ac)).heap[g]?= _):=hid ((hg6.block _ (get_ltB HGA.out) (fun q=>hbg (by injection q with q;exact q.symm))).trans HGA.out)
    have n1:=cell_at HGB.out 0
    have u9:=cell_at hz6 9
    have zf6:=frozen_at hz6
    simp at n1 u9
    go_upto_region 30 with (go_at_call 35;refine(CQ.out _).mono ?_;rintro e wz ⟨rfl,hwz⟩;rw[<-hwz];clear hwz wz)
    try rw[hcq]
    clear hcq n0 n1 u9 zf zf6
    have HZW:Hid (((wr.setCell ⟨bz,2,none⟩ (.slice aa R.length ac)).setCell ⟨bz,9,none⟩ (.bool cq)).heap[bz]?=some (.cells #[.int .i64 t,.int .i64 b,.slice aa R.length ac,.bool x.fill,.int .i64 x.view,.int .i64 x.tv,.int .i64 x.ts,.int .i64 x.time,.slice ua x.reqs.length uc,.bool cq] 66)):=hid (by rw[set_atB hz6];rfl)
    have hg7:=hg6.trans (grown_setL (wr.setCell ⟨bz,2,none⟩ (.slice aa R.length ac)) bz 9 (.bool cq))
    have HGW:Hid (((wr.setCell ⟨bz,2,none⟩ (.slice aa R.length ac)).setCell ⟨bz,9,none⟩ (.bool cq)).heap[g]?= _):=hid ((hg7.block _ (get_ltB HGA.out) (fun q=>hbg (by injection q with q;exact q.symm))).trans HGA.out)
    have hbz3:W2.heap.size<=bz:=by rw[HBZ.out];exact Nat.le_refl _
    have hs3W:W2.heap.size<=wr.heap.size:=Nat.le_trans HB5.out.size HBR.out.size
    have hb3W:Below W2.heap.size W2 wr:=step HB5.out HBR.out
    have HB7:Hid (Below W2.heap.size W2 ((wr.setCell ⟨bz,2,none⟩ (.slice aa R.length ac)).setCell ⟨bz,9,none⟩ (.bool cq))):=hid (hb3W.grown hg7 hs3W (fun k hk=>by cases hk;exact hbz3))
    have HOR:Hid (((wr.setCell ⟨bz,2,none⟩ (.slice aa R.length ac)).setCell ⟨bz,9,none⟩ (.bool cq)).ownsRow W5.heap.size 3 1 (.slice aa R.length ac) R.length (flatX cellsI R)):=hid (rowset_own HOA.out hg7 (fun q=>by have:=(Rw.own_lt HOA.out _ q).1;have:=get_ltB HZ5.out;omega))
    have HS7:Hid (W2.heap.size<=W5.heap.size):=hid HB5.out.size
    clear hz5 hz6 hg6 hg7 hbz3 hs3W hb3W HGA HGB HOA HBR
    generalize ((wr.setCell ⟨bz,2,none⟩ (.slice aa R.length ac)).setCell ⟨bz,9,none⟩ (.bool cq))=W7 at HZW HGW HB7 HOR ⊢
    have HKS:Hid (∀W:World,W.heap[g]?=some (.cells #[.int .i64 s.n,.int .i64 s.done,.slice (some ⟨lb,0,none⟩) N lc] 42)->W.heap[bz]?=some (.cells #[.int .i64 t,.int .i64 b,.slice aa R.length ac,.bool x.fill,.int .i64 x.view,.int .i64 x.tv,.int .i64 x.ts,.int .i64 x.time,.slice ua x.reqs.length uc,.bool cq] 66)->W.cell? ⟨g,2,none⟩=some (.slice (some ⟨lb,0,none⟩) N lc)/\W.cell? ⟨bz,0,none⟩=some (.int .i64 t)/\W.cell? ⟨bz,1,none⟩=some (.int .i64 b)/\W.cell? ⟨bz,2,none⟩=some (.slice aa R.length ac)/\W.cell? ⟨bz,3,none⟩=some (.bool x.fill)/\W.cell? ⟨bz,4,none⟩=some (.int .i64 x.view)/\W.cell? ⟨bz,5,none⟩=some (.int .i64 x.tv)/\W.cell? ⟨bz,6,none⟩=some (.int .i64 x.ts)/\W.cell? ⟨bz,7,none⟩=some (.int .i64 x.time)/\W.cell? ⟨bz,8,none⟩=some (.slice ua x.reqs.length uc)/\W.cell? ⟨bz,9,none⟩=some (.bool cq)):=hid fun W h1 h2=>⟨cell_at h1 2,cell_at h2 0,cell_at h2 1,cell_at h2 2,cell_at h2 3,cell_at h2 4,cell_at h2 5,cell_at h2 6,cell_at h2 7,cell_at h2 8,cell_at h2 9⟩
    have HOL:=hid (Rw.own_below HO3.out HB7.out)
    have HLB:Hid (∃lcs,W7.heap[lb]?=some (.cells lcs 66)):=hid (by obtain⟨lcs,h⟩:=HLS.out;exact⟨lcs,cells_later h HB7.out⟩)
    have hlbz:lb<bz:=by rw[<-HBZ.out];exact HLL.out
    have hglb:g<lb:=by have:=HLM.out;have:=HGM.out;omega
    have HFIN:Hid (∀V,Below W7.heap.size W7 V->HasL (set10 V lb (k*10) (⟨t,b,R,aa,ac,x,ua,uc,cq⟩:SlotC)) g m ⟨s.n,s.done,valsL (M.set k (⟨t,b,R,aa,ac,x,ua,uc,cq⟩:SlotC))⟩):=hid fun V hb=>by
     have hgr:=set10_grown V lb (k*10) (⟨t,b,R,aa,ac,x,ua,uc,cq⟩:SlotC)
     have hVB:=step HB7.out hb
     have hlbV:V.heap[lb]?.map (fun o=>match o with | .cells _ t=>decide (t=66) | _=>false)=some true:=by
      obtain⟨lcs,h⟩:=HLB.out
      rw[cells_later h hb]
      simp
     refine⟨⟨.slice (some ⟨lb,0,none⟩) N lc,M.set k (⟨t,b,R,aa,ac,x,ua,uc,cq⟩:SlotC),(hgr.block _ (get_ltB (cells_later HGW.out hb)) (fun q=>by injection q with q;omega)).trans (cells_later HGW.out hb),rfl,?_,fun y hy=>?_⟩,HGM.out,Nat.le_trans HMW.out (Nat.le_trans hVB.size hgr.size)⟩
     ·have h1:=Rw.own_below HO3.out hVB
      rw[<-HN.out] at h1 ⊢
      rw[List.length_set]
      exact set10_own h1 k (by rw[HN.out];exact hkN) _
     ·rcases List.mem_or_eq_of_mem_set hy with q | q
      ·exact((HX3.out y q).later hVB).far hgr hlbV
      ·rw[q]
       refine OwnX.far (show OwnX m V _ from⟨Rw.own_below (own_lowerX HOR.out (Nat.le_trans HMW.out HS7.out)) hb,Rw.own_below HUV.out hVB⟩) hgr hlbV
    have HTFIN:Hid (∀V,Below W7.heap.size W7 V->Turns g m w (set10 V lb (k*10) (⟨t,b,R,aa,ac,x,ua,uc,cq⟩:SlotC))):=hid fun V hb=>((HT3.out.below (step HB7.out hb)).grow (set10_grown V lb (k*10) (⟨t,b,R,aa,ac,x,ua,uc,cq⟩:SlotC)) (.inr (.inr ⟨HLM.out,by obtain⟨lcs,h⟩:=HLB.out;exact⟨lcs,cells_later h hb⟩⟩)))
    go_upto_region 30 with fail
    refine wp_region_held_drew (S:=(fun W=>W.cell? ⟨g,2,none⟩=some (.slice (some ⟨lb,0,none⟩) N lc)/\W.cell? ⟨bz,0,none⟩=some (.int .i64 t)/\W.cell? ⟨bz,1,none⟩=some (.int .i64 b)/\W.cell? ⟨bz,2,none⟩=some (.slice aa R.length ac)/\W.cell? ⟨bz,3,none⟩=some (.bool x.fill)/\W.cell? ⟨bz,4,none⟩=some (.int .i64 x.view)/\W.cell? ⟨bz,5,none⟩=some (.int .i64 x.tv)/\W.cell? ⟨bz,6,none⟩=some (.int .i64 x.ts)/\W.cell? ⟨bz,7,none⟩=some (.int .i64 x.time)/\W.cell? ⟨bz,8,none⟩=some (.slice ua x.reqs.length uc)/\W.cell? ⟨bz,9,none⟩=some (.bool cq))) (by kernel_rfl) (HKS.out _ (cells_later HGW.out (Below.refl _ _).drew) (cells_later HZW.out (Below.refl _ _).drew)) (fun hHeld=>?_)
    obtain⟨V,hV⟩: ∃V,V=W7.drew:=⟨_,rfl⟩
    have HBV:Hid (Below W7.heap.size W7 V):=hid (by rw[hV];exact(Below.refl _ _).drew)
    rw[<-hV] at hHeld ⊢
    clear hV
    refine wpAnyH_take (i:=0) (v:=?_) rfl (by kernel_rfl) (by kernel_rfl) (by kernel_rfl) (fun _ _ _ h=>h) (Or.inl ⟨by rfl,?_⟩) (by assumption) ?_
    rotate_left
    ·intro w hSw;(try dsimp only at hSw);go_simp<;>with_reducible rfl
    try simp only[Act.put,getElem_toArray,getElem_cons_zero,setIfInBounds_toArray,set_cons_zero,set_cons_succ]
    refine wpAnyH_take (i:=1) (v:=?_) rfl (by kernel_rfl) (by kernel_rfl) (by kernel_rfl) (fun _ _ _ h=>h) (Or.inl ⟨by rfl,?_⟩) (by assumption) ?_
    rotate_left
    ·intro w hSw;(try dsimp only at hSw);go_simp<;>with_reducible rfl
    try simp only[Act.put,getElem_toArray,getElem_cons_succ,getElem_cons_zero,setIfInBounds_toArray,set_cons_zero,set_cons_succ]
    refine wpAnyH_take (i:=2) (v:=?_) rfl (by kernel_rfl) (by kernel_rfl) (by kernel_rfl) (fun _ _ _ h=>h) (Or.inl ⟨by rfl,?_⟩) (by assumption) ?_
    rotate_left
    ·intro w hSw;(try dsimp only at hSw);go_simp<;>with_reducible rfl
    try simp only[Act.put,getElem_toArray,getElem_cons_succ,getElem_cons_zero,setIfInBounds_toArray,set_cons_zero,set_cons_succ]
    refine wpAnyH_take (i:=3) (v:=?_) rfl (by kernel_rfl) (by kernel_rfl) (by kernel_rfl) (fun _ _ _ h=>h) (Or.inl ⟨by rfl,?_⟩) (by assumption) ?_
    rotate_left
    ·intro w hSw;(try dsimp only at hSw);go_simp<;>with_reducible rfl
    try simp only[Act.put,getElem_toArray,getElem_cons_succ,getElem_cons_zero,setIfInBounds_toArray,set_cons_zero,set_cons_succ]
    refine wpAnyH_take (i:=4) (v:=?_) rfl (by kernel_rfl) (by kernel_rfl) (by kernel_rfl) (fun _ _ _ h=>h) (Or.inl ⟨by rfl,?_⟩) (by assumption) ?_
    rotate_left
    ·intro w hSw;(try dsimp only at hSw);go_simp<;>with_reducible rfl
    try simp only[Act.put,getElem_toArray,getElem_cons_succ,getElem_cons_zero,setIfInBounds_toArray,set_cons_zero,set_cons_succ]
    refine wpAnyH_take (i:=5) (v:=?_) rfl (by kernel_rfl) (by kernel_rfl) (by kernel_rfl) (fun _ _ _ h=>h) (Or.inl ⟨by rfl,?_⟩) (by assumption) ?_
    rotate_left
    ·intro w hSw;(try dsimp only at hSw);go_simp<;>with_reducible rfl
    try simp only[Act.put,getElem_toArray,getElem_cons_succ,getElem_cons_zero,setIfInBounds_toArray,set_cons_zero,set_cons_succ]
    refine wpAnyH_take (i:=6) (v:=?_) rfl (by kernel_rfl) (by kernel_rfl) (by kernel_rfl) (fun _ _ _ h=>h) (Or.inl ⟨by rfl,?_⟩) (by assumption) ?_
    rotate_left
    ·intro w hSw;(try dsimp only at hSw);go_simp<;>with_reducible rfl
    try simp only[Act.put,getElem_toArray,getElem_cons_succ,getElem_cons_zero,setIfInBounds_toArray,set_cons_zero,set_cons_succ]
    have hor:=Rw.own_below HOL.out HBV.out
    have hx:=fun j (hj:j<10)=>(show ∃u,V.cell? ⟨lb,k*10+j,none⟩=some u from⟨_,(hor.cellAt (k*10+j) (by omega)).trans (List.getElem?_eq_getElem (by rw[flatX_length cellsS_length,HN.out];omega))⟩)
    have lf: ∀j,V.frozen? ⟨lb,j,none⟩=false:=fun j=>by obtain⟨lcs,hlc⟩:=HLB.out;exact frozen_at (cells_later hlc HBV.out) j
    obtain⟨o0,m0⟩: ∃u,V.cell? ⟨lb,k*10,none⟩=some u:=hx 0 (by omega)
    obtain⟨o1,m1⟩:=hx 1 (by omega)
    obtain⟨o2,m2⟩:=hx 2 (by omega)
    obtain⟨o3,m3⟩:=hx 3 (by omega)
    obtain⟨o4,m4⟩:=hx 4 (by omega)
    obtain⟨o5,m5⟩:=hx 5 (by omega)
    obtain⟨o6,m6⟩:=hx 6 (by omega)
    obtain⟨o7,m7⟩:=hx 7 (by omega)
    obtain⟨o8,m8⟩:=hx 8 (by omega)
    obtain⟨o9,m9⟩:=hx 9 (by omega)
    clear hx hor
    have HF:Hid (HasL (set10 V lb (k*10) (⟨t,b,R,aa,ac,x,ua,uc,cq⟩:SlotC)) g m ⟨s.n,s.done,valsL (M.set k (⟨t,b,R,aa,ac,x,ua,uc,cq⟩:SlotC))⟩):=hid (HFIN.out V HBV.out)
    have HT:Hid (Turns g m w (set10 V lb (k*10) (⟨t,b,R,aa,ac,x,ua,uc,cq⟩:SlotC))):=hid (HTFIN.out V HBV.out)
    have hgw:(set10 V lb (k*10) (⟨t,b,R,aa,ac,x,ua,uc,cq⟩:SlotC)).heap[g]?= _:=((set10_grown V lb (k*10) (⟨t,b,R,aa,ac,x,ua,uc,cq⟩:SlotC)).block _ (get_ltB (cells_later HGW.out HBV.out)) (fun q=>by injection q with q;omega)).trans (cells_later HGW.out HBV.out)
    have hzw:(set10 V lb (k*10) (⟨t,b,R,aa,ac,x,ua,uc,cq⟩:SlotC)).heap[bz]?= _:=((set10_grown V lb (k*10) (⟨t,b,R,aa,ac,x,ua,uc,cq⟩:SlotC)).block _ (get_ltB (cells_later HZW.out HBV.out)) (fun q=>by injection q with q;omega)).trans (cells_later HZW.out HBV.out)
    have HSF:=hid (HKS.out _ hgw hzw)
    clear hgw hzw
    unfold set10 SlotC.wv SlotC.uv at HF HT HSF
    dsimp only at HF HT HSF
    refine wpAnyH_ready (rs:= [7]) (by kernel_rfl) (by simp) ?_
    refine AllReadyH.cons rfl (fun K hK=>?_) AllReadyH.nil
    go_simp
    refine hK.out _ _ HSF.out (fun hHeld=>?_)
    clear hK K
    try simp only[Act.put,getElem_toArray,getElem_cons_succ,getElem_cons_zero,setIfInBounds_toArray,set_cons_zero,set_cons_succ]
    refine wpAnyH_done (by kernel_rfl) ?_ _
    clear hHeld m0 m1 m2 m3 m4 m5 m6 m7 m8 m9
    go_wp2_with fail
    go_ret
    refine⟨rfl,?_,HT.out⟩
    have hfin:=HF.out
    rw[show putS (nextS s.n y0 f b x) s.l=valsL (M.set k (⟨t,b,R,aa,ac,x,ua,uc,cq⟩:SlotC)) from by
     rw[valsL_set,HV3.out]
     exact(HPUT.out _ (by rw[HRA.out,<-HCQ.out,HRA.out];rfl)).trans rfl]
    exact hfin
set_option maxHeartbeats 20000000 in
theorem RefHear_new (g m:Nat) (s:LrnV) (f b t:Int) (x:BatV) (u:Value) (w:World) (h:HasL w g m s) (hs:GoodN s) (hn9:s.l.length<=1000) (hr:RdR w u x.reqs) (ho:w.ownsRow m 73 5 u x.reqs.length (flatX cellsR x.reqs)) (hgood:badF s f b t x=false)
  (h1:s.done<t) (h9:t<=s.done+9) (hnone:at_ s.l t=none):
  Calls Try.prog 15 #[.pointer (some ⟨g,0,none⟩),.int .i64 f,.int .i64 b,.int .i64 t,batVal x u] w (fun e w'=>e= .returned (.int .i64 0)/\HasL w' g m ⟨s.n,s.done,putS (nextS s.n ⟨t,b,[],x,false⟩ f b x) s.l⟩/\Turns g m w w'):=by
 obtain⟨ua,uc,rfl⟩:=hr.form
 unfold badF at hgood
 simp only[Bool.not_eq_false',Bool.and_eq_true,decide_eq_true_eq] at hgood
 obtain⟨⟨⟨⟨f0,f1⟩,hb⟩,ht⟩,hm⟩:=hgood
 have d1:decide (f<0)=false:=decide_eq_false (by omega)
 have d2:decide (s.n<=f)=false:=decide_eq_false (by omega)
 have CB:=hid (fun w=>high12_any b 0 w)
 have CS:=hid (fun w=>high12_any t 1 w)
 rw[hb] at CB
 have htop:t<=2305843009213693952:=by simp [highF] at ht;omega
 have hlow:1<=t:=by simp [highF] at ht;omega
 rw[ht] at CS
 have hb1:=newAlloc w (.cells #[.bool x.fill,.int .i64 x.view,.int .i64 x.tv,.int .i64 x.ts,.int .i64 x.time,.slice ua x.reqs.length uc] 38)
 have k1:=alloc_atB w (.cells #[.bool x.fill,.int .i64 x.view,.int .i64 x.tv,.int .i64 x.ts,.int .i64 x.time,.slice ua x.reqs.length uc] 38) _ rfl
 obtain⟨W1,hW1⟩: ∃W1,W1=w.alloc (.cells #[.bool x.fill,.int .i64 x.view,.int .i64 x.tv,.int .i64 x.ts,.int .i64 x.time,.slice ua x.reqs.length uc] 38):=⟨_,rfl⟩
 rw[<-hW1] at hb1 k1
 have CM:=hid (RefMayB_any x (.slice ua x.reqs.length uc) W1 (hr.later hb1))
 rw[hm] at CM
 have HB1:=hid hb1
 have HL1:=hid (h.later hb1)
 have HN9:=hid hn9
 have hd0:=hs.d0
 have hd1:=hs.d1
 have e9:IntKind.i64.wrap (t - s.done)=t - s.done:=by rw[IntKind.wrap_i64];omega
 have c0:=cell_at k1 0
 have c1:=cell_at k1 1
 have c2:=cell_at k1 2
 have c3:=cell_at k1 3
 have c4:=cell_at k1 4
 have c5:=cell_at k1 5
 simp at c0 c1 c2 c3 c4 c5
 have n0:=HL1.out.c0
 have HK1:=hid k1
 have HT1:=hid ((Turns.refl g m w).below hb1)
 clear hb1 k1 h hb hm
 unfold batVal at CM ⊢
 have d5:decide (t<=s.done)=false:=decide_eq_false (by omega)
 have d6:decide (9<t - s.done)=false:=decide_eq_false (by omega)
 have HGN:=hid hs
 have HOU:=hid ho
 clear hr ho ht f0 f1 hd0 hd1 hlow htop hs
 rcases idx_at s.l t with ⟨i1,i2⟩ | ⟨k,hk,i1,i2⟩
 case inr=>rw[i2] at hnone;cases hnone
 clear i2
 have HNO:=hid (at_none hnone)
 clear hnone
 go_enter Try.func15,Try.ntmps15
 go_upto_region 1 with fail
 rw[<-hW1]
 clear hW1
 go_wp2_with fail
 refine(CB.out _).mono ?_
 rintro e w1 ⟨rfl,rfl⟩
 go_wp2_with fail
 refine(CS.out _).mono ?_
 rintro e w1 ⟨rfl,rfl⟩
 go_wp2_with fail
 refine CM.out.mono ?_
 rintro e W2 ⟨rfl,hb2⟩
 have HB2:=hid hb2
 have HL2:=hid (HL1.out.later hb2)
 clear hb2
 have CA:=hid (At_any g m s t W2 HL2.out HN9.out)
 have a1:=HL2.out.c1
 have af:=HL2.out.open_ 0
 rw[i1] at CA
 go_wp2_with fail
 refine CA.out.mono ?_
 rintro e wz ⟨rfl,hwz⟩
 rw[hwz]
 clear hwz wz
 have HT2:=hid (HT1.out.below HB2.out)
 obtain⟨lv,L,l1,l2,l3,l4⟩:=HL2.out.ex
 obtain⟨la,lc,rfl⟩:=Rw.own_form l3
 have HV2:=hid l2
 have HO2:=hid l3
 have HX2:=hid l4
 have HG2:=hid l1
 have hL:L.length<=1000:=by rw[<-valsL_length,l2];exact HN9.out
 obtain⟨i0,hi0,hz0,hz1,hz2⟩:=info_partsS infoS
 obtain⟨ij,hij,hj0,hj1,hj2⟩:=info_partsS infoJ
 have hkb:=cells_later HK1.out HB2.out
 have b0:=cell_at hkb 0
 have b1:=cell_at hkb 1
 have b2:=cell_at hkb 2
 have b3:=cell_at hkb 3
 have b4:=cell_at hkb 4
 have b5:=cell_at hkb 5
 have g2:=cell_at l1 2
 have gf:=frozen_at l1
 simp at b0 b1 b2 b3 b4 b5 g2
 have hmw:=HL2.out.mw
 have hgm:=HL2.out.gm
 have HOU2:=hid (Rw.own_below (Rw.own_below HOU.out HB1.out) HB2.out)
 clear l1 l2 l3 l4 hkb
 have g2a:=cell_at (cells_later HG2.out (newAlloc W2 (.cells #[.int .i64 t,.int .i64 b,.slice none 0 0,.bool x.fill,.int .i64 x.view,.int .i64 x.tv,.int .i64 x.ts,.int .i64 x.time,.slice ua x.reqs.length uc,.bool false] 66))) 2
 simp at g2a
 go_upto_region 9 with fail
 go_region_law (refine step_append_one cellsS_length (by omega) rfl _ _ 40 rfl 66 i0 _ 112 Try.underlying40 hi0 hz0 hz1 hz2 rfl #[.int .i64 t,.int .i64 b,.slice none 0 0,.bool x.fill,.int .i64 x.view,.int .i64 x.tv,.int .i64 x.ts,.int .i64 x.time,.slice ua x.reqs.length uc,.bool false] (⟨t,b,[],none,0,x,ua,uc,false⟩:SlotC) rfl (cellsS_one _) L m m W2 (.slice la L.length lc) rfl rfl HO2.out (by unfold maxLen;omega) (by omega) hmw (Below.refl _ _) (Nat.le_refl _) ?_;intro v6 w6 ho6 hb6 hg6;obtain⟨na,lq,hnv⟩:=Rw.own_form ho6;rw[List.length_append,List.length_singleton] at hnv;subst hnv;have hG6:=(hb6.block g hgm).trans HG2.out;have g26:=cell_at hG6 2;have g06:=cell_at hG6 0;have gf6:=frozen_at hG6;simp at g26 g06;have HG6:=hid hG6;have HO6:=hid ho6;have HB6:=hid hb6;have HGR6:=hid hg6;clear ho6 hb6 hg6 hG6)
 ·skip
  clear d1 d2 d5 d6 i1 CB CS CM CA a1 af c0 c1 c2 c3 c4 c5 n0 b0 b1 b2 b3 b4 b5 g2 g2a gf
  have hBD:Below W2.heap.size W2 (W2.alloc (.cells #[.int .i64 t,.int .i64 b,.slice none 0 0,.bool x.fill,.int .i64 x.view,.int .i64 x.tv,.int .i64 x.ts,.int .i64 x.time,.slice ua x.reqs.length uc,.bool false] 66)).drew :=(newAlloc W2 _).drew
  have hOD:=Rw.own_below HO2.out hBD
  have hg3:=grown_setL w6 g 2 (.slice na (L.length+1) lq)
  have l3:(w6.setCell ⟨g,2,none⟩ (.slice na (L.length+1) lq)).ownsRow m 66 10 (.slice na (L.length+1) lq) (L++ [(⟨t,b,[],none,0,x,ua,uc,false⟩:SlotC)]).length (flatX cellsS (L++ [(⟨t,b,[],none,0,x,ua,uc,false⟩:SlotC)])):=rowset_own HO6.out hg3 (fun q=>by have:=(Rw.own_lt HO6.out _ q).1;omega)
  have l4: ∀y∈L++ [(⟨t,b,[],none,0,x,ua,uc,false⟩:SlotC)],OwnX m (w6.setCell ⟨g,2,none⟩ (.slice na (L.length+1) lq)) y:=fun y hy=>by
   rcases List.mem_append.1 hy with q | q
   ·exact(((HX2.out y q).later hBD).row hOD HGR6.out).keep hg3 hgm
   ·rw[List.mem_singleton] at q
    subst q
    have hu:=Rw.own_below HOU2.out hBD
    refine OwnX.keep ⟨World.ownsRow_nil _ _ _ _,?_⟩ hg3 hgm
    exact Rw.own_other hu HGR6.out (own_typesD hOD hu (by decide))
  have l1:(w6.setCell ⟨g,2,none⟩ (.slice na (L.length+1) lq)).heap[g]?=some (.cells #[.int .i64 s.n,.int .i64 s.done,.slice na (L.length+1) lq] 42):=by rw[set_atB HG6.out];rfl
  have HT3:Hid (Turns g m w (w6.setCell ⟨g,2,none⟩ (.slice na (L.length+1) lq))):=hid ((((HT2.out.below hBD).row hOD HGR6.out)).grow hg3 (.inl rfl))
  have hsz:m<=(w6.setCell ⟨g,2,none⟩ (.slice na (L.length+1) lq)).heap.size :=Nat.le_trans hmw (Nat.le_trans HB6.out.size hg3.size)
  have HUV0:Hid ((w6.setCell ⟨g,2,none⟩ (.slice na (L.length+1) lq)).ownsRow m 73 5 (.slice ua x.reqs.length uc) x.reqs.length (flatX cellsR x.reqs)):=hid (l4 _ (List.mem_append.2 (.inr List.mem_cons_self))).2
  clear hBD hOD hg3 g26 g06 gf6 HG6 HO6 HB6 HGR6
  generalize w6.setCell ⟨g,2,none⟩ (.slice na (L.length+1) lq)=W3 at l1 l3 l4 HT3 hsz HUV0 ⊢
  obtain⟨lb,lc2,hna,hlm,hll,hls⟩:=own_blk l3 (by simp)
  obtain⟨N,hN⟩: ∃N,L.length+1=N:=⟨_,rfl⟩
  rw[hN] at l1 l3 hna ⊢
  injection hna with hna1 _ hna2
  subst hna1 hna2
  obtain⟨k,hk⟩: ∃k,L.length=k:=⟨_,rfl⟩
  try rw[hk]
  obtain⟨M,hM⟩: ∃M,M=L++ [(⟨t,b,[],none,0,x,ua,uc,false⟩:SlotC)]:=⟨_,rfl⟩
  have hMN:M.length=N:=by rw[hM];simp;omega
  rw[<-hM] at l3 l4
  have HN:=hid hMN
  have hkN:k<N:=by omega
  have hkM:k<M.length:=by omega
  have HLM:=hid hlm
  have HLL:=hid hll
  have HLS:=hid hls
  have HV3:Hid (valsL M=s.l++ [(⟨t,b,[],x,false⟩:SlotV)]):=hid (by rw[hM,valsL_snoc,HV2.out];rfl)
  rw[hMN] at l3
  have HO3:=hid l3
  have HX3:=hid l4
  have HG3:=hid l1
  have HGM:=hid hgm
  have HMW:=hid hsz
  have HGL:Hid (g<W3.heap.size):=hid (by omega)
  have l3':W3.ownsRow m 66 10 (.slice (some ⟨lb,0,none⟩) M.length lq) M.length (flatX cellsS M):=by rw[hMN];exact l3
  obtain⟨bb,oo,hab,hcc⟩:=rds_at (RdX.own cellsS_length l3') k hkM
  cases hab
  obtain⟨q0,q1,q2,q3,q4,q5,q6,q7,q8,q9⟩:=hcc _ (Below.refl _ _)
  simp only[Nat.zero_add] at q0 q1 q2 q3 q4 q5 q6 q7 q8 q9
  have g2:=cell_at l1 2
  simp at g2
  have hzv:M[k]'hkM=(⟨t,b,[],none,0,x,ua,uc,false⟩:SlotC):=by
   subst hM
   subst hk
   simp
  have hsl:s.l.length=k:=by rw[<-HV2.out,valsL_length];exact hk
  clear hcc l1 l3 l3' l4 hlm hll hls
  rw[hzv] at q0 q1 q2 q3 q4 q5 q6 q7 q8 q9
  unfold SlotC.wv at q2
  unfold SlotC.uv at q8
  dsimp only[List.length_nil] at q0 q1 q2 q3 q4 q5 q6 q7 q8 q9
  have HUV:=HUV0
  have n1:(k:Int)<(N:Int):=by omega
  have n2:(0:Int)<=(k:Int):=by omega
  have n1b:(k:Int)<(L.length:Int)+1:=by omega
  have n3:IntKind.i64.wrap ((N:Int) - 1)=(k:Int):=by rw[IntKind.wrap_i64];omega
  have HPUT:Hid (∀v:SlotV,v=⟨t,b,addW f [],x,decide (quoF s.n<=((addW f []).length :Int))⟩->putS (nextS s.n ⟨t,b,[],x,false⟩ f b x) s.l=(s.l++ [(⟨t,b,[],x,false⟩:SlotV)]).set k v):=hid fun v hv=>by
   have e:nextS s.n ⟨t,b,[],x,false⟩ f b x=v:=by
    rw[hv]
    unfold nextS
    dsimp only
    rw[if_neg (Int.lt_irrefl _)]
   rw[e,putS_miss v s.l]
   ·rw[<-hsl,List.set_append_right _ _ (Nat.le_refl _),Nat.sub_self]
    rfl
   ·intro y hy
    rw[hv]
    exact HNO.out y hy
  have dl:decide (b<b)=false:=decide_eq_false (Int.lt_irrefl _)
  have HK3:=HK1
  have HNN:=hid hN
  have HKK:=hid hk
  clear hzv hk hM hMN hkM hsl hN
  go_upto_region 11 with fail
  try rw[HNN.out]
  try rw[HKK.out]
  clear n3
  clear hmw hgm hL
  have HB3Z:=hid (newAlloc W3 (.cells #[.int .i64 t,.int .i64 b,.slice none 0 0,.bool x.fill,.int .i64 x.view,.int .i64 x.tv,.int .i64 x.ts,.int .i64 x.time,.slice ua x.reqs.length uc,.bool false] 66))
  have hbz:=alloc_atB W3 (.cells #[.int .i64 t,.int .i64 b,.slice none 0 0,.bool x.fill,.int .i64 x.view,.int .i64 x.tv,.int .i64 x.ts,.int .i64 x.time,.slice ua x.reqs.length uc,.bool false] 66) _ rfl
  obtain⟨W4,hW4⟩: ∃W,W=W3.alloc (.cells #[.int .i64 t,.int .i64 b,.slice none 0 0,.bool x.fill,.int .i64 x.view,.int .i64 x.tv,.int .i64 x.ts,.int .i64 x.time,.slice ua x.reqs.length uc,.bool false] 66):=⟨_,rfl⟩
  obtain⟨bz,hbz2⟩: ∃x,W3.heap.size=x:=⟨_,rfl⟩
  rw[<-hW4,hbz2] at hbz
  rw[<-hW4] at HB3Z
  have HZ4:=hid hbz
  go_upto_region 12 with fail
  rw[<-hW4]
  try rw[hbz2]
  have HBZ:=hid hbz2
  clear hW4 hbz hbz2 q0 q1 q2 q3 q4 q5 q6 q7 q8 q9 g2
  have y1:=cell_at HZ4.out 1
  simp at y1
  go_upto_region 16 with fail
  clear y1
  have HZ5:=HZ4
  have HB5:=HB3Z
  clear HZ4 HB3Z
  generalize W4=W5 at HZ5 HB5 ⊢
  have HRY:Hid (RdX 1 cellsI W5 (.slice none ([]:List Int).length 0) ([]:List Int)):=hid (RdX.nil _)
  have HYW:Hid (([]:List Int).Pairwise (· < ·)/\([]:List Int).length <=7):=hid ⟨List.Pairwise.nil,by simp⟩
  obtain⟨R,hR⟩: ∃R,refW f false [] ([]:List Int)=R:=⟨_,rfl⟩
  have HRA:Hid (R=addW f ([]:List Int)):=hid (by rw[<-hR,refW_go f _ _ HYW.out.1];rfl)
  have HR0:=hid hR
  clear hR
  have hyl:=HYW.out.2
  have HAT:=hid (fun i hi=>rdi_at HRY.out i hi)
  obtain⟨NW,hNW⟩: ∃NW,([]:List Int).length =NW:=⟨_,rfl⟩
  have HNW:=hid hNW
  obtain rfl:NW=0:=hNW.symm
  have hyl:0<=7:=by omega
  have HC2:Hid (∀W,Below W5.heap.size W5 W->W.cell? ⟨bz,2,none⟩=some (.slice none 0 0)):=hid fun W hb=>cell_at (cells_later HZ5.out hb) 2
  go_upto_region 19 with fail
  go_loopw [13,14,15] (fun v pt i wr=> ∃(K:Nat) (acc:List Int) (pb:Bool),K<=0/\i= .int .i64 (K:Int)/\pt= .bool pb/\acc.length<=2*K/\Hid (refW f pb acc (([]:List Int).drop K)=R)/\Hid (wr.ownsRow W5.heap.size 3 1 v acc.length (flatX cellsI acc))/\Hid (Below W5.heap.size W5 wr)) (fun _ _ i _=>0 - (intOf i).toNat)
  case atStart=>exact⟨0,[],false,by omega,rfl,rfl,by simp,HR0,hid (World.ownsRow_nil _ _ _ _),hid (Below.refl _ _)⟩
  case round=>
   obtain⟨K,acc,pb,hK,rfl,rfl,hacc,HRW,HOA,HBR⟩:=hrel
   have c2:=HC2.out _ HBR.out
   obtain⟨aa,ac,hav⟩:=Rw.own_form HOA.out
   subst hav
   by_cases hlt:K<0
   ·omega
   ·obtain rfl:K=0:=by omega
    have hd0:([]:List Int).drop 0= []:=rfl
    have hrw:=HRW.out
    rw[hd0,refW] at hrw
    clear hd0
    cases pb
    ·rw[if_neg Bool.false_ne_true] at hrw
     go_upto_region 28 with (at_builtin;refine wpList_append_one cellsI_length (by omega) rfl _ _ 45 rfl 3 ij _ 8 Try.underlying45 hij hj0 hj1 hj2 rfl #[.int .i64 f] (f:Int) rfl (cellsI_one _) acc W5.heap.size W5.heap.size W5 (.slice aa acc.length ac) rfl rfl HOA.out (by unfold maxLen;omega) (by omega) HBR.out.size HBR.out (Nat.le_refl _) ?_;intro v6 w6 ho6 hb6 _;have HO6:=hid ho6;have HB6:=hid hb6;clear ho6 hb6)
     obtain⟨na,nc,hnv⟩:=Rw.own_form HO6.out
     subst hnv
     rw[hrw] at HO6 ⊢
     have hz5:=cells_later HZ5.out HB6.out
     have zf:=frozen_at hz5
     have u2:=cell_at hz5 2
     have u9:=cell_at hz5 9
     simp at u2 u9
     have HGA:=hid (cells_later (cells_later HG3.out HB5.out) HB6.out)
     have n0:=cell_at HGA.out 0
     simp at n0
     have CQ:=hid (fun W=>Vw.RefQuorum_any s.n W)
     rw[quorum_of HGN.out] at CQ
     go_upto_region 29 with fail
     clear u2 u9
     obtain⟨cq,hcq⟩: ∃cq,decide (quoF s.n<=(R.length:Int))=cq:=⟨_,rfl⟩
     have HCQ:=hid hcq
     have hz6:(w6.setCell ⟨bz,2,none⟩ (.slice na R.length nc)).heap[bz]?=some (.cells #[.int .i64 t,.int .i64 b,.slice na R.length nc,.bool x.fill,.int .i64 x.view,.int .i64 x.tv,.int .i64 x.ts,.int .i64 x.time,.slice ua x.reqs.length uc,.bool false] 66):=by rw[set_atB hz5];rfl
     have hbg:bz≠g:=by rw[<-HBZ.out];have:=HGL.out;omega
     have hg6:=grown_setL w6 bz 2 (.slice na R.length nc)
     have HGB:Hid ((w6.setCell ⟨bz,2,none⟩ (.slice na R.length nc)).heap[g]?= _):=hid ((hg6.block _ (get_ltB HGA.out) (fun q=>hbg (by injection q with q;exact q.symm))).trans HGA.out)
     have n1:=cell_at HGB.out 0
     have u9:=cell_at hz6 9
     have zf6:=frozen_at hz6
     simp at n1 u9
     go_upto_region 30 with (go_at_call 35;refine(CQ.out _).mono ?_;rintro e wz ⟨rfl,hwz⟩;rw[<-hwz];clear hwz wz)
     try rw[hcq]
     clear hcq n0 n1 u9 zf zf6
     have HZW:Hid (((w6.setCell ⟨bz,2,none⟩ (.slice na R.length nc)).setCell ⟨bz,9,none⟩ (.bool cq)).heap[bz]?=some (.cells #[.int .i64 t,.int .i64 b,.slice na R.length nc,.bool x.fill,.int .i64 x.view,.int .i64 x.tv,.int .i64 x.ts,.int .i64 x.time,.slice ua x.reqs.length uc,.bool cq] 66)):=hid (by rw[set_atB hz6];rfl)
     have hg7:=hg6.trans (grown_setL (w6.setCell ⟨bz,2,none⟩ (.slice na R.length nc)) bz 9 (.bool cq))
     have HGW:Hid (((w6.setCell ⟨bz,2,none⟩ (.slice na R.length nc)).setCell ⟨bz,9,none⟩ (.bool cq)).heap[g]?= _):=hid ((hg7.block _ (get_ltB HGA.out) (fun q=>hbg (by injection q with q;exact q.symm))).trans HGA.out)
     have hbz3:W3.heap.size<=bz:=by rw[HBZ.out];exact Nat.le_refl _
     have hs3W:W3.heap.size<=w6.heap.size:=Nat.le_trans HB5.out.size HB6.out.size
     have hb3W:Below W3.heap.size W3 w6:=step HB5.out HB6.out
     have HB7:Hid (Below W3.heap.size W3 ((w6.setCell ⟨bz,2,none⟩ (.slice na R.length nc)).setCell ⟨bz,9,none⟩ (.bool cq))):=hid (hb3W.grown hg7 hs3W (fun k hk=>by cases hk;exact hbz3))
     have HOR:Hid (((w6.setCell ⟨bz,2,none⟩ (.slice na R.length nc)).setCell ⟨bz,9,none⟩ (.bool cq)).ownsRow W5.heap.size 3 1 (.slice na R.length nc) R.length (flatX cellsI R)):=hid (rowset_own HO6.out hg7 (fun q=>by have:=(Rw.own_lt HO6.out _ q).1;have:=get_ltB HZ5.out;omega))
     have HS7:Hid (W3.heap.size<=W5.heap.size):=hid HB5.out.size
     clear hz5 hz6 hg6 hg7 hbz3 hs3W hb3W HGA HGB HO6 HB6
     generalize ((w6.setCell ⟨bz,2,none⟩ (.slice na R.length nc)).setCell ⟨bz,9,none⟩ (.bool cq))=W7 at HZW HGW HB7 HOR ⊢
     have HKS:Hid (∀W:World,W.heap[g]?=some (.cells #[.int .i64 s.n,.int .i64 s.done,.slice (some ⟨lb,0,none⟩) N lq] 42)->W.heap[bz]?=some (.cells #[.int .i64 t,.int .i64 b,.slice na R.length nc,.bool x.fill,.int .i64 x.view,.int .i64 x.tv,.int .i64 x.ts,.int .i64 x.time,.slice ua x.reqs.length uc,.bool cq] 66)->W.cell? ⟨g,2,none⟩=some (.slice (some ⟨lb,0,none⟩) N lq)/\W.cell? ⟨bz,0,none⟩=some (.int .i64 t)/\W.cell? ⟨bz,1,none⟩=some (.int .i64 b)/\W.cell? ⟨bz,2,none⟩=some (.slice na R.length nc)/\W.cell? ⟨bz,3,none⟩=some (.bool x.fill)/\W.cell? ⟨bz,4,none⟩=some (.int .i64 x.view)/\W.cell? ⟨bz,5,none⟩=some (.int .i64 x.tv)/\W.cell? ⟨bz,6,none⟩=some (.int .i64 x.ts)/\W.cell? ⟨bz,7,none⟩=some (.int .i64 x.time)/\W.cell? ⟨bz,8,none⟩=some (.slice ua x.reqs.length uc)/\W.cell? ⟨bz,9,none⟩=some (.bool cq)):=hid fun W h1 h2=>⟨cell_at h1 2,cell_at h2 0,cell_at h2 1,cell_at h2 2,cell_at h2 3,cell_at h2 4,cell_at h2 5,cell_at h2 6,cell_at h2 7,cell_at h2 8,cell_at h2 9⟩
     have HOL:=hid (Rw.own_below HO3.out HB7.out)
     have HLB:Hid (∃lcs,W7.heap[lb]?=some (.cells lcs 66)):=hid (by obtain⟨lcs,h⟩:=HLS.out;exact⟨lcs,cells_later h HB7.out⟩)
     have hlbz:lb<bz:=by rw[<-HBZ.out];exact HLL.out
     have hglb:g<lb:=by have:=HLM.out;have:=HGM.out;omega
     have HFIN:Hid (∀V,Below W7.heap.size W7 V->HasL (set10 V lb (k*10) (⟨t,b,R,na,nc,x,ua,uc,cq⟩:SlotC)) g m ⟨s.n,s.done,valsL (M.set k (⟨t,b,R,na,nc,x,ua,uc,cq⟩:SlotC))⟩):=hid fun V hb=>by
      have hgr:=set10_grown V lb (k*10) (⟨t,b,R,na,nc,x,ua,uc,cq⟩:SlotC)
      have hVB:=step HB7.out hb
      have hlbV:V.heap[lb]?.map (fun o=>match o with | .cells _ t=>decide (t=66) | _=>false)=some true:=by
       obtain⟨lcs,h⟩:=HLB.out
       rw[cells_later h hb]
       simp
      refine⟨⟨.slice (some ⟨lb,0,none⟩) N lq,M.set k (⟨t,b,R,na,nc,x,ua,uc,cq⟩:SlotC),(hgr.block _ (get_ltB (cells_later HGW.out hb)) (fun q=>by injection q with q;omega)).trans (cells_later HGW.out hb),rfl,?_,fun y hy=>?_⟩,HGM.out,Nat.le_trans HMW.out (Nat.le_trans hVB.size hgr.size)⟩
      ·have h1:=Rw.own_below HO3.out hVB
       rw[<-HN.out] at h1 ⊢
       rw[List.length_set]
       exact set10_own h1 k (by rw[HN.out];exact hkN) _
      ·rcases List.mem_or_eq_of_mem_set hy with q | q
       ·exact((HX3.out y q).later hVB).far hgr hlbV
       ·rw[q]
        refine OwnX.far (show OwnX m V _ from⟨Rw.own_below (own_lowerX HOR.out (Nat.le_trans HMW.out HS7.out)) hb,Rw.own_below HUV.out hVB⟩) hgr hlbV
     have HTFIN:Hid (∀V,Below W7.heap.size W7 V->Turns g m w (set10 V lb (k*10) (⟨t,b,R,na,nc,x,ua,uc,cq⟩:SlotC))):=hid fun V hb=>((HT3.out.below (step HB7.out hb)).grow (set10_grown V lb (k*10) (⟨t,b,R,na,nc,x,ua,uc,cq⟩:SlotC)) (.inr (.inr ⟨HLM.out,by obtain⟨lcs,h⟩:=HLB.out;exact⟨lcs,cells_later h hb⟩⟩)))
     go_upto_region 30 with fail
     refine wp_region_held_drew (S:=(fun W=>W.cell? ⟨g,2,none⟩=some (.slice (some ⟨lb,0,none⟩) N lq)/\W.cell? ⟨bz,0,none⟩=some (.int .i64 t)/\W.cell? ⟨bz,1,none⟩=some (.int .i64 b)/\W.cell? ⟨bz,2,none⟩=some (.slice na R.length nc)/\W.cell? ⟨bz,3,none⟩=some (.bool x.fill)/\W.cell? ⟨bz,4,none⟩=some (.int .i64 x.view)/\W.cell? ⟨bz,5,none⟩=some (.int .i64 x.tv)/\W.cell? ⟨bz,6,none⟩=some (.int .i64 x.ts)/\W.cell? ⟨bz,7,none⟩=some (.int .i64 x.time)/\W.cell? ⟨bz,8,none⟩=some (.slice ua x.reqs.length uc)/\W.cell? ⟨bz,9,none⟩=some (.bool cq))) (by kernel_rfl) (HKS.out _ (cells_later HGW.out (Below.refl _ _).drew) (cells_later HZW.out (Below.refl _ _).drew)) (fun hHeld=>?_)
     obtain⟨V,hV⟩: ∃V,V=W7.drew:=⟨_,rfl⟩
     have HBV:Hid (Below W7.heap.size W7 V):=hid (by rw[hV];exact(Below.refl _ _).drew)
     rw[<-hV] at hHeld ⊢
     clear hV
     refine wpAnyH_take (i:=0) (v:=?_) rfl (by kernel_rfl) (by kernel_rfl) (by kernel_rfl) (fun _ _ _ h=>h) (Or.inl ⟨by rfl,?_⟩) (by assumption) ?_
     rotate_left
     ·intro w hSw;(try dsimp only at hSw);go_simp<;>with_reducible rfl
     try simp only[Act.put,getElem_toArray,getElem_cons_zero,setIfInBounds_toArray,set_cons_zero,set_cons_succ]
     refine wpAnyH_take (i:=1) (v:=?_) rfl (by kernel_rfl) (by kernel_rfl) (by kernel_rfl) (fun _ _ _ h=>h) (Or.inl ⟨by rfl,?_⟩) (by assumption) ?_
     rotate_left
     ·intro w hSw;(try dsimp only at hSw);go_simp<;>with_reducible rfl
     try simp only[Act.put,getElem_toArray,getElem_cons_succ,getElem_cons_zero,setIfInBounds_toArray,set_cons_zero,set_cons_succ]
     refine wpAnyH_take (i:=2) (v:=?_) rfl (by kernel_rfl) (by kernel_rfl) (by kernel_rfl) (fun _ _ _ h=>h) (Or.inl ⟨by rfl,?_⟩) (by assumption) ?_
     rotate_left
     ·intro w hSw;(try dsimp only at hSw);go_simp<;>with_reducible rfl
     try simp only[Act.put,getElem_toArray,getElem_cons_succ,getElem_cons_zero,setIfInBounds_toArray,set_cons_zero,set_cons_succ]
     refine wpAnyH_take (i:=3) (v:=?_) rfl (by kernel_rfl) (by kernel_rfl) (by kernel_rfl) (fun _ _ _ h=>h) (Or.inl ⟨by rfl,?_⟩) (by assumption) ?_
     rotate_left
     ·intro w hSw;(try dsimp only at hSw);go_simp<;>with_reducible rfl
     try simp only[Act.put,getElem_toArray,getElem_cons_succ,getElem_cons_zero,setIfInBounds_toArray,set_cons_zero,set_cons_succ]
     refine wpAnyH_take (i:=4) (v:=?_) rfl (by kernel_rfl) (by kernel_rfl) (by kernel_rfl) (fun _ _ _ h=>h) (Or.inl ⟨by rfl,?_⟩) (by assumption) ?_
     rotate_left
     ·intro w hSw;(try dsimp only at hSw);go_simp<;>with_reducible rfl
     try simp only[Act.put,getElem_toArray,getElem_cons_succ,getElem_cons_zero,setIfInBounds_toArray,set_cons_zero,set_cons_succ]
     refine wpAnyH_take (i:=5) (v:=?_) rfl (by kernel_rfl) (by kernel_rfl) (by kernel_rfl) (fun _ _ _ h=>h) (Or.inl ⟨by rfl,?_⟩) (by assumption) ?_
     rotate_left
     ·intro w hSw;(try dsimp only at hSw);go_simp<;>with_reducible rfl
     try simp only[Act.put,getElem_toArray,getElem_cons_succ,getElem_cons_zero,setIfInBounds_toArray,set_cons_zero,set_cons_succ]
     refine wpAnyH_take (i:=6) (v:=?_) rfl (by kernel_rfl) (by kernel_rfl) (by kernel_rfl) (fun _ _ _ h=>h) (Or.inl ⟨by rfl,?_⟩) (by assumption) ?_
     rotate_left
     ·intro w hSw;(try dsimp only at hSw);go_simp<;>with_reducible rfl
     try simp only[Act.put,getElem_toArray,getElem_cons_succ,getElem_cons_zero,setIfInBounds_toArray,set_cons_zero,set_cons_succ]
     have hor:=Rw.own_below HOL.out HBV.out
     have hx:=fun j (hj:j<10)=>(show ∃u,V.cell? ⟨lb,k*10+j,none⟩=some u from⟨_,(hor.cellAt (k*10+j) (by omega)).trans (List.getElem?_eq_getElem (by rw[flatX_length cellsS_length,HN.out];omega))⟩)
     have lf: ∀j,V.frozen? ⟨lb,j,none⟩=false:=fun j=>by obtain⟨lcs,hlc⟩:=HLB.out;exact frozen_at (cells_later hlc HBV.out) j
     obtain⟨o0,m0⟩: ∃u,V.cell? ⟨lb,k*10,none⟩=some u:=hx 0 (by omega)
     obtain⟨o1,m1⟩:=hx 1 (by omega)
     obtain⟨o2,m2⟩:=hx 2 (by omega)
     obtain⟨o3,m3⟩:=hx 3 (by omega)
     obtain⟨o4,m4⟩:=hx 4 (by omega)
     obtain⟨o5,m5⟩:=hx 5 (by omega)
     obtain⟨o6,m6⟩:=hx 6 (by omega)
     obtain⟨o7,m7⟩:=hx 7 (by omega)
     obtain⟨o8,m8⟩:=hx 8 (by omega)
     obtain⟨o9,m9⟩:=hx 9 (by omega)
     clear hx hor
     have HF:Hid (HasL (set10 V lb (k*10) (⟨t,b,R,na,nc,x,ua,uc,cq⟩:SlotC)) g m ⟨s.n,s.done,valsL (M.set k (⟨t,b,R,na,nc,x,ua,uc,cq⟩:SlotC))⟩):=hid (HFIN.out V HBV.out)
     have HT:Hid (Turns g m w (set10 V lb (k*10) (⟨t,b,R,na,nc,x,ua,uc,cq⟩:SlotC))):=hid (HTFIN.out V HBV.out)
     have hgw:(set10 V lb (k*10) (⟨t,b,R,na,nc,x,ua,uc,cq⟩:SlotC)).heap[g]?= _:=((set10_grown V lb (k*10) (⟨t,b,R,na,nc,x,ua,uc,cq⟩:SlotC)).block _ (get_ltB (cells_later HGW.out HBV.out)) (fun q=>by injection q with q;omega)).trans (cells_later HGW.out HBV.out)
     have hzw:(set10 V lb (k*10) (⟨t,b,R,na,nc,x,ua,uc,cq⟩:SlotC)).heap[bz]?= _:=((set10_grown V lb (k*10) (⟨t,b,R,na,nc,x,ua,uc,cq⟩:SlotC)).block _ (get_ltB (cells_later HZW.out HBV.out)) (fun q=>by injection q with q;omega)).trans (cells_later HZW.out HBV.out)
     have HSF:=hid (HKS.out _ hgw hzw)
     clear hgw hzw
     unfold set10 SlotC.wv SlotC.uv at HF HT HSF
     dsimp only at HF HT HSF
     refine wpAnyH_ready (rs:= [7]) (by kernel_rfl) (by simp) ?_
     refine AllReadyH.cons rfl (fun K hK=>?_) AllReadyH.nil
     go_simp
     refine hK.out _ _ HSF.out (fun hHeld=>?_)
     clear hK K
     try simp only[Act.put,getElem_toArray,getElem_cons_succ,getElem_cons_zero,setIfInBounds_toArray,set_cons_zero,set_cons_succ]
     refine wpAnyH_done (by kernel_rfl) ?_ _
     clear hHeld m0 m1 m2 m3 m4 m5 m6 m7 m8 m9
     go_wp2_with fail
     go_ret
     refine⟨rfl,?_,HT.out⟩
     have hfin:=HF.out
     rw[show putS (nextS s.n ⟨t,b,[],x,false⟩ f b x) s.l=valsL (M.set k (⟨t,b,R,na,nc,x,ua,uc,cq⟩:SlotC)) from by
      rw[valsL_set,HV3.out]
      exact(HPUT.out _ (by rw[HRA.out,<-HCQ.out,HRA.out];rfl)).trans rfl]
     exact hfin
    ·rw[if_pos rfl] at hrw
     go_upto_region 28 with fail
     rw[hrw] at HOA ⊢
     have hz5:=cells_later HZ5.out HBR.out
     have zf:=frozen_at hz5
     have u2:=cell_at hz5 2
     have u9:=cell_at hz5 9
     simp at u2 u9
     have HGA:=hid (cells_later (cells_later HG3.out HB5.out) HBR.out)
     have n0:=cell_at HGA.out 0
     simp at n0
     have CQ:=hid (fun W=>Vw.RefQuorum_any s.n W)
     rw[quorum_of HGN.out] at CQ
     go_upto_region 29 with fail
     clear u2 u9
     obtain⟨cq,hcq⟩: ∃cq,decide (quoF s.n<=(R.length:Int))=cq:=⟨_,rfl⟩
     have HCQ:=hid hcq
     have hz6:(wr.setCell ⟨bz,2,none⟩ (.slice aa R.length ac)).heap[bz]?=some (.cells #[.int .i64 t,.int .i64 b,.slice aa R.length ac,.bool x.fill,.int .i64 x.view,.int .i64 x.tv,.int .i64 x.ts,.int .i64 x.time,.slice ua x.reqs.length uc,.bool false] 66):=by rw[set_atB hz5];rfl
     have hbg:bz≠g:=by rw[<-HBZ.out];have:=HGL.out;omega
     have hg6:=grown_setL wr bz 2 (.slice aa R.length ac)
     have HGB:Hid ((wr.setCell ⟨bz,2,none⟩ (.slice aa R.length ac)).heap[g]?= _):=hid ((hg6.block _ (get_ltB HGA.out) (fun q=>hbg (by injection q with q;exact q.symm))).trans HGA.out)
     have n1:=cell_at HGB.out 0
     have u9:=cell_at hz6 9
     have zf6:=frozen_at hz6
     simp at n1 u9
     go_upto_region 30 with (go_at_call 35;refine(CQ.out _).mono ?_;rintro e wz ⟨rfl,hwz⟩;rw[<-hwz];clear hwz wz)
     try rw[hcq]
     clear hcq n0 n1 u9 zf zf6
     have HZW:Hid (((wr.setCell ⟨bz,2,none⟩ (.slice aa R.length ac)).setCell ⟨bz,9,none⟩ (.bool cq)).heap[bz]?=some (.cells #[.int .i64 t,.int .i64 b,.slice aa R.length ac,.bool x.fill,.int .i64 x.view,.int .i64 x.tv,.int .i64 x.ts,.int .i64 x.time,.slice ua x.reqs.length uc,.bool cq] 66)):=hid (by rw[set_atB hz6];rfl)
     have hg7:=hg6.trans (grown_setL (wr.setCell ⟨bz,2,none⟩ (.slice aa R.length ac)) bz 9 (.bool cq))
     have HGW:Hid (((wr.setCell ⟨bz,2,none⟩ (.slice aa R.length ac)).setCell ⟨bz,9,none⟩ (.bool cq)).heap[g]?= _):=hid ((hg7.block _ (get_ltB HGA.out) (fun q=>hbg (by injection q with q;exact q.symm))).trans HGA.out)
     have hbz3:W3.heap.size<=bz:=by rw[HBZ.out];exact Nat.le_refl _
     have hs3W:W3.heap.size<=wr.heap.size:=Nat.le_trans HB5.out.size HBR.out.size
     have hb3W:Below W3.heap.size W3 wr:=step HB5.out HBR.out
     have HB7:Hid (Below W3.heap.size W3 ((wr.setCell ⟨bz,2,none⟩ (.slice aa R.length ac)).setCell ⟨bz,9,none⟩ (.bool cq))):=hid (hb3W.grown hg7 hs3W (fun k hk=>by cases hk;exact hbz3))
     have HOR:Hid (((wr.setCell ⟨bz,2,none⟩ (.slice aa R.length ac)).setCell ⟨bz,9,none⟩ (.bool cq)).ownsRow W5.heap.size 3 1 (.slice aa R.length ac) R.length (flatX cellsI R)):=hid (rowset_own HOA.out hg7 (fun q=>by have:=(Rw.own_lt HOA.out _ q).1;have:=get_ltB HZ5.out;omega))
     have HS7:Hid (W3.heap.size<=W5.heap.size):=hid HB5.out.size
     clear hz5 hz6 hg6 hg7 hbz3 hs3W hb3W HGA HGB HOA HBR
     generalize ((wr.setCell ⟨bz,2,none⟩ (.slice aa R.length ac)).setCell ⟨bz,9,none⟩ (.bool cq))=W7 at HZW HGW HB7 HOR ⊢
     have HKS:Hid (∀W:World,W.heap[g]?=some (.cells #[.int .i64 s.n,.int .i64 s.done,.slice (some ⟨lb,0,none⟩) N lq] 42)->W.heap[bz]?=some (.cells #[.int .i64 t,.int .i64 b,.slice aa R.length ac,.bool x.fill,.int .i64 x.view,.int .i64 x.tv,.int .i64 x.ts,.int .i64 x.time,.slice ua x.reqs.length uc,.bool cq] 66)->W.cell? ⟨g,2,none⟩=some (.slice (some ⟨lb,0,none⟩) N lq)/\W.cell? ⟨bz,0,none⟩=some (.int .i64 t)/\W.cell? ⟨bz,1,none⟩=some (.int .i64 b)/\W.cell? ⟨bz,2,none⟩=some (.slice aa R.length ac)/\W.cell? ⟨bz,3,none⟩=some (.bool x.fill)/\W.cell? ⟨bz,4,none⟩=some (.int .i64 x.view)/\W.cell? ⟨bz,5,none⟩=some (.int .i64 x.tv)/\W.cell? ⟨bz,6,none⟩=some (.int .i64 x.ts)/\W.cell? ⟨bz,7,none⟩=some (.int .i64 x.time)/\W.cell? ⟨bz,8,none⟩=some (.slice ua x.reqs.length uc)/\W.cell? ⟨bz,9,none⟩=some (.bool cq)):=hid fun W h1 h2=>⟨cell_at h1 2,cell_at h2 0,cell_at h2 1,cell_at h2 2,cell_at h2 3,cell_at h2 4,cell_at h2 5,cell_at h2 6,cell_at h2 7,cell_at h2 8,cell_at h2 9⟩
     have HOL:=hid (Rw.own_below HO3.out HB7.out)
     have HLB:Hid (∃lcs,W7.heap[lb]?=some (.cells lcs 66)):=hid (by obtain⟨lcs,h⟩:=HLS.out;exact⟨lcs,cells_later h HB7.out⟩)
     have hlbz:lb<bz:=by rw[<-HBZ.out];exact HLL.out
     have hglb:g<lb:=by have:=HLM.out;have:=HGM.out;omega
     have HFIN:Hid (∀V,Below W7.heap.size W7 V->HasL (set10 V lb (k*10) (⟨t,b,R,aa,ac,x,ua,uc,cq⟩:SlotC)) g m ⟨s.n,s.done,valsL (M.set k (⟨t,b,R,aa,ac,x,ua,uc,cq⟩:SlotC))⟩):=hid fun V hb=>by
      have hgr:=set10_grown V lb (k*10) (⟨t,b,R,aa,ac,x,ua,uc,cq⟩:SlotC)
      have hVB:=step HB7.out hb
      have hlbV:V.heap[lb]?.map (fun o=>match o with | .cells _ t=>decide (t=66) | _=>false)=some true:=by
       obtain⟨lcs,h⟩:=HLB.out
       rw[cells_later h hb]
       simp
      refine⟨⟨.slice (some ⟨lb,0,none⟩) N lq,M.set k (⟨t,b,R,aa,ac,x,ua,uc,cq⟩:SlotC),(hgr.block _ (get_ltB (cells_later HGW.out hb)) (fun q=>by injection q with q;omega)).trans (cells_later HGW.out hb),rfl,?_,fun y hy=>?_⟩,HGM.out,Nat.le_trans HMW.out (Nat.le_trans hVB.size hgr.size)⟩
      ·have h1:=Rw.own_below HO3.out hVB
       rw[<-HN.out] at h1 ⊢
       rw[List.length_set]
       exact set10_own h1 k (by rw[HN.out];exact hkN) _
      ·rcases List.mem_or_eq_of_mem_set hy with q | q
       ·exact((HX3.out y q).later hVB).far hgr hlbV
       ·rw[q]
        refine OwnX.far (show OwnX m V _ from⟨Rw.own_below (own_lowerX HOR.out (Nat.le_trans HMW.out HS7.out)) hb,Rw.own_below HUV.out hVB⟩) hgr hlbV
     have HTFIN:Hid (∀V,Below W7.heap.size W7 V->Turns g m w (set10 V lb (k*10) (⟨t,b,R,aa,ac,x,ua,uc,cq⟩:SlotC))):=hid fun V hb=>((HT3.out.below (step HB7.out hb)).grow (set10_grown V lb (k*10) (⟨t,b,R,aa,ac,x,ua,uc,cq⟩:SlotC)) (.inr (.inr ⟨HLM.out,by obtain⟨lcs,h⟩:=HLB.out;exact⟨lcs,cells_later h hb⟩⟩)))
     go_upto_region 30 with fail
     refine wp_region_held_drew (S:=(fun W=>W.cell? ⟨g,2,none⟩=some (.slice (some ⟨lb,0,none⟩) N lq)/\W.cell? ⟨bz,0,none⟩=some (.int .i64 t)/\W.cell? ⟨bz,1,none⟩=some (.int .i64 b)/\W.cell? ⟨bz,2,none⟩=some (.slice aa R.length ac)/\W.cell? ⟨bz,3,none⟩=some (.bool x.fill)/\W.cell? ⟨bz,4,none⟩=some (.int .i64 x.view)/\W.cell? ⟨bz,5,none⟩=some (.int .i64 x.tv)/\W.cell? ⟨bz,6,none⟩=some (.int .i64 x.ts)/\W.cell? ⟨bz,7,none⟩=some (.int .i64 x.time)/\W.cell? ⟨bz,8,none⟩=some (.slice ua x.reqs.length uc)/\W.cell? ⟨bz,9,none⟩=some (.bool cq))) (by kernel_rfl) (HKS.out _ (cells_later HGW.out (Below.refl _ _).drew) (cells_later HZW.out (Below.refl _ _).drew)) (fun hHeld=>?_)
     obtain⟨V,hV⟩: ∃V,V=W7.drew:=⟨_,rfl⟩
     have HBV:Hid (Below W7.heap.size W7 V):=hid (by rw[hV];exact(Below.refl _ _).drew)
     rw[<-hV] at hHeld ⊢
     clear hV
     refine wpAnyH_take (i:=0) (v:=?_) rfl (by kernel_rfl) (by kernel_rfl) (by kernel_rfl) (fun _ _ _ h=>h) (Or.inl ⟨by rfl,?_⟩) (by assumption) ?_
     rotate_left
     ·intro w hSw;(try dsimp only at hSw);go_simp<;>with_reducible rfl
     try simp only[Act.put,getElem_toArray,getElem_cons_zero,setIfInBounds_toArray,set_cons_zero,set_cons_succ]
     refine wpAnyH_take (i:=1) (v:=?_) rfl (by kernel_rfl) (by kernel_rfl) (by kernel_rfl) (fun _ _ _ h=>h) (Or.inl ⟨by rfl,?_⟩) (by assumption) ?_
     rotate_left
     ·intro w hSw;(try dsimp only at hSw);go_simp<;>with_reducible rfl
     try simp only[Act.put,getElem_toArray,getElem_cons_succ,getElem_cons_zero,setIfInBounds_toArray,set_cons_zero,set_cons_succ]
     refine wpAnyH_take (i:=2) (v:=?_) rfl (by kernel_rfl) (by kernel_rfl) (by kernel_rfl) (fun _ _ _ h=>h) (Or.inl ⟨by rfl,?_⟩) (by assumption) ?_
     rotate_left
     ·intro w hSw;(try dsimp only at hSw);go_simp<;>with_reducible rfl
     try simp only[Act.put,getElem_toArray,getElem_cons_succ,getElem_cons_zero,setIfInBounds_toArray,set_cons_zero,set_cons_succ]
     refine wpAnyH_take (i:=3) (v:=?_) rfl (by kernel_rfl) (by kernel_rfl) (by kernel_rfl) (fun _ _ _ h=>h) (Or.inl ⟨by rfl,?_⟩) (by assumption) ?_
     rotate_left
     ·intro w hSw;(try dsimp only at hSw);go_simp<;>with_reducible rfl
     try simp only[Act.put,getElem_toArray,getElem_cons_succ,getElem_cons_zero,setIfInBounds_toArray,set_cons_zero,set_cons_succ]
     refine wpAnyH_take (i:=4) (v:=?_) rfl (by kernel_rfl) (by kernel_rfl) (by kernel_rfl) (fun _ _ _ h=>h) (Or.inl ⟨by rfl,?_⟩) (by assumption) ?_
     rotate_left
     ·intro w hSw;(try dsimp only at hSw);go_simp<;>with_reducible rfl
     try simp only[Act.put,getElem_toArray,getElem_cons_succ,getElem_cons_zero,setIfInBounds_toArray,set_cons_zero,set_cons_succ]
     refine wpAnyH_take (i:=5) (v:=?_) rfl (by kernel_rfl) (by kernel_rfl) (by kernel_rfl) (fun _ _ _ h=>h) (Or.inl ⟨by rfl,?_⟩) (by assumption) ?_
     rotate_left
     ·intro w hSw;(try dsimp only at hSw);go_simp<;>with_reducible rfl
     try simp only[Act.put,getElem_toArray,getElem_cons_succ,getElem_cons_zero,setIfInBounds_toArray,set_cons_zero,set_cons_succ]
     refine wpAnyH_take (i:=6) (v:=?_) rfl (by kernel_rfl) (by kernel_rfl) (by kernel_rfl) (fun _ _ _ h=>h) (Or.inl ⟨by rfl,?_⟩) (by assumption) ?_
     rotate_left
     ·intro w hSw;(try dsimp only at hSw);go_simp<;>with_reducible rfl
     try simp only[Act.put,getElem_toArray,getElem_cons_succ,getElem_cons_zero,setIfInBounds_toArray,set_cons_zero,set_cons_succ]
     have hor:=Rw.own_below HOL.out HBV.out
     have hx:=fun j (hj:j<10)=>(show ∃u,V.cell? ⟨lb,k*10+j,none⟩=some u from⟨_,(hor.cellAt (k*10+j) (by omega)).trans (List.getElem?_eq_getElem (by rw[flatX_length cellsS_length,HN.out];omega))⟩)
     have lf: ∀j,V.frozen? ⟨lb,j,none⟩=false:=fun j=>by obtain⟨lcs,hlc⟩:=HLB.out;exact frozen_at (cells_later hlc HBV.out) j
     obtain⟨o0,m0⟩: ∃u,V.cell? ⟨lb,k*10,none⟩=some u:=hx 0 (by omega)
     obtain⟨o1,m1⟩:=hx 1 (by omega)
     obtain⟨o2,m2⟩:=hx 2 (by omega)
     obtain⟨o3,m3⟩:=hx 3 (by omega)
     obtain⟨o4,m4⟩:=hx 4 (by omega)
     obtain⟨o5,m5⟩:=hx 5 (by omega)
     obtain⟨o6,m6⟩:=hx 6 (by omega)
     obtain⟨o7,m7⟩:=hx 7 (by omega)
     obtain⟨o8,m8⟩:=hx 8 (by omega)
     obtain⟨o9,m9⟩:=hx 9 (by omega)
     clear hx hor
     have HF:Hid (HasL (set10 V lb (k*10) (⟨t,b,R,aa,ac,x,ua,uc,cq⟩:SlotC)) g m ⟨s.n,s.done,valsL (M.set k (⟨t,b,R,aa,ac,x,ua,uc,cq⟩:SlotC))⟩):=hid (HFIN.out V HBV.out)
     have HT:Hid (Turns g m w (set10 V lb (k*10) (⟨t,b,R,aa,ac,x,ua,uc,cq⟩:SlotC))):=hid (HTFIN.out V HBV.out)
     have hgw:(set10 V lb (k*10) (⟨t,b,R,aa,ac,x,ua,uc,cq⟩:SlotC)).heap[g]?= _:=((set10_grown V lb (k*10) (⟨t,b,R,aa,ac,x,ua,uc,cq⟩:SlotC)).block _ (get_ltB (cells_later HGW.out HBV.out)) (fun q=>by injection q with q;omega)).trans (cells_later HGW.out HBV.out)
     have hzw:(set10 V lb (k*10) (⟨t,b,R,aa,ac,x,ua,uc,cq⟩:SlotC)).heap[bz]?= _:=((set10_grown V lb (k*10) (⟨t,b,R,aa,ac,x,ua,uc,cq⟩:SlotC)).block _ (get_ltB (cells_later HZW.out HBV.out)) (fun q=>by injection q with q;omega)).trans (cells_later HZW.out HBV.out)
     have HSF:=hid (HKS.out _ hgw hzw)
     clear hgw hzw
     unfold set10 SlotC.wv SlotC.uv at HF HT HSF
     dsimp only at HF HT HSF
     refine wpAnyH_ready (rs:= [7]) (by kernel_rfl) (by simp) ?_
     refine AllReadyH.cons rfl (fun K hK=>?_) AllReadyH.nil
     go_simp
     refine hK.out _ _ HSF.out (fun hHeld=>?_)
     clear hK K
     try simp only[Act.put,getElem_toArray,getElem_cons_succ,getElem_cons_zero,setIfInBounds_toArray,set_cons_zero,set_cons_succ]
     refine wpAnyH_done (by kernel_rfl) ?_ _
     clear hHeld m0 m1 m2 m3 m4 m5 m6 m7 m8 m9
     go_wp2_with fail
     go_ret
     refine⟨rfl,?_,HT.out⟩
     have hfin:=HF.out
     rw[show putS (nextS s.n ⟨t,b,[],x,false⟩ f b x) s.l=valsL (M.set k (⟨t,b,R,aa,ac,x,ua,uc,cq⟩:SlotC)) from by
      rw[valsL_set,HV3.out]
      exact(HPUT.out _ (by rw[HRA.out,<-HCQ.out,HRA.out];rfl)).trans rfl]
     exact hfin
 ·skip
  clear d1 d2 d5 d6 i1 CB CS CM CA a1 af c0 c1 c2 c3 c4 c5 n0 b0 b1 b2 b3 b4 b5 g2 g2a gf
  have hBD:Below W2.heap.size W2 (W2.alloc (.cells #[.int .i64 t,.int .i64 b,.slice none 0 0,.bool x.fill,.int .i64 x.view,.int .i64 x.tv,.int .i64 x.ts,.int .i64 x.time,.slice ua x.reqs.length uc,.bool false] 66)).drew :=(newAlloc W2 _).drew
  have hOD:=Rw.own_below HO2.out hBD
  have hg3:=grown_setL w6 g 2 (.slice na (L.length+1) lq)
  have l3:(w6.setCell ⟨g,2,none⟩ (.slice na (L.length+1) lq)).ownsRow m 66 10 (.slice na (L.length+1) lq) (L++ [(⟨t,b,[],none,0,x,ua,uc,false⟩:SlotC)]).length (flatX cellsS (L++ [(⟨t,b,[],none,0,x,ua,uc,false⟩:SlotC)])):=rowset_own HO6.out hg3 (fun q=>by have:=(Rw.own_lt HO6.out _ q).1;omega)
  have l4: ∀y∈L++ [(⟨t,b,[],none,0,x,ua,uc,false⟩:SlotC)],OwnX m (w6.setCell ⟨g,2,none⟩ (.slice na (L.length+1) lq)) y:=fun y hy=>by
   rcases List.mem_append.1 hy with q | q
   ·exact(((HX2.out y q).later hBD).row hOD HGR6.out).keep hg3 hgm
   ·rw[List.mem_singleton] at q
    subst q
    have hu:=Rw.own_below HOU2.out hBD
    refine OwnX.keep ⟨World.ownsRow_nil _ _ _ _,?_⟩ hg3 hgm
    exact Rw.own_other hu HGR6.out (own_typesD hOD hu (by decide))
  have l1:(w6.setCell ⟨g,2,none⟩ (.slice na (L.length+1) lq)).heap[g]?=some (.cells #[.int .i64 s.n,.int .i64 s.done,.slice na (L.length+1) lq] 42):=by rw[set_atB HG6.out];rfl
  have HT3:Hid (Turns g m w (w6.setCell ⟨g,2,none⟩ (.slice na (L.length+1) lq))):=hid ((((HT2.out.below hBD).row hOD HGR6.out)).grow hg3 (.inl rfl))
  have hsz:m<=(w6.setCell ⟨g,2,none⟩ (.slice na (L.length+1) lq)).heap.size :=Nat.le_trans hmw (Nat.le_trans HB6.out.size hg3.size)
  have HUV0:Hid ((w6.setCell ⟨g,2,none⟩ (.slice na (L.length+1) lq)).ownsRow m 73 5 (.slice ua x.reqs.length uc) x.reqs.length (flatX cellsR x.reqs)):=hid (l4 _ (List.mem_append.2 (.inr List.mem_cons_self))).2
  clear hBD hOD hg3 g26 g06 gf6 HG6 HO6 HB6 HGR6
  generalize w6.setCell ⟨g,2,none⟩ (.slice na (L.length+1) lq)=W3 at l1 l3 l4 HT3 hsz HUV0 ⊢
  obtain⟨lb,lc2,hna,hlm,hll,hls⟩:=own_blk l3 (by simp)
  obtain⟨N,hN⟩: ∃N,L.length+1=N:=⟨_,rfl⟩
  rw[hN] at l1 l3 hna ⊢
  injection hna with hna1 _ hna2
  subst hna1 hna2
  obtain⟨k,hk⟩: ∃k,L.length=k:=⟨_,rfl⟩
  try rw[hk]
  obtain⟨M,hM⟩: ∃M,M=L++ [(⟨t,b,[],none,0,x,ua,uc,false⟩:SlotC)]:=⟨_,rfl⟩
  have hMN:M.length=N:=by rw[hM];simp;omega
  rw[<-hM] at l3 l4
  have HN:=hid hMN
  have hkN:k<N:=by omega
  have hkM:k<M.length:=by omega
  have HLM:=hid hlm
  have HLL:=hid hll
  have HLS:=hid hls
  have HV3:Hid (valsL M=s.l++ [(⟨t,b,[],x,false⟩:SlotV)]):=hid (by rw[hM,valsL_snoc,HV2.out];rfl)
  rw[hMN] at l3
  have HO3:=hid l3
  have HX3:=hid l4
  have HG3:=hid l1
  have HGM:=hid hgm
  have HMW:=hid hsz
  have HGL:Hid (g<W3.heap.size):=hid (by omega)
  have l3':W3.ownsRow m 66 10 (.slice (some ⟨lb,0,none⟩) M.length lq) M.length (flatX cellsS M):=by rw[hMN];exact l3
  obtain⟨bb,oo,hab,hcc⟩:=rds_at (RdX.own cellsS_length l3') k hkM
  cases hab
  obtain⟨q0,q1,q2,q3,q4,q5,q6,q7,q8,q9⟩:=hcc _ (Below.refl _ _)
  simp only[Nat.zero_add] at q0 q1 q2 q3 q4 q5 q6 q7 q8 q9
  have g2:=cell_at l1 2
  simp at g2
  have hzv:M[k]'hkM=(⟨t,b,[],none,0,x,ua,uc,false⟩:SlotC):=by
   subst hM
   subst hk
   simp
  have hsl:s.l.length=k:=by rw[<-HV2.out,valsL_length];exact hk
  clear hcc l1 l3 l3' l4 hlm hll hls
  rw[hzv] at q0 q1 q2 q3 q4 q5 q6 q7 q8 q9
  unfold SlotC.wv at q2
  unfold SlotC.uv at q8
  dsimp only[List.length_nil] at q0 q1 q2 q3 q4 q5 q6 q7 q8 q9
  have HUV:=HUV0
  have n1:(k:Int)<(N:Int):=by omega
  have n2:(0:Int)<=(k:Int):=by omega
  have n1b:(k:Int)<(L.length:Int)+1:=by omega
  have n3:IntKind.i64.wrap ((N:Int) - 1)=(k:Int):=by rw[IntKind.wrap_i64];omega
  have HPUT:Hid (∀v:SlotV,v=⟨t,b,addW f [],x,decide (quoF s.n<=((addW f []).length :Int))⟩->putS (nextS s.n ⟨t,b,[],x,false⟩ f b x) s.l=(s.l++ [(⟨t,b,[],x,false⟩:SlotV)]).set k v):=hid fun v hv=>by
   have e:nextS s.n ⟨t,b,[],x,false⟩ f b x=v:=by
    rw[hv]
    unfold nextS
    dsimp only
    rw[if_neg (Int.lt_irrefl _)]
   rw[e,putS_miss v s.l]
   ·rw[<-hsl,List.set_append_right _ _ (Nat.le_refl _),Nat.sub_self]
    rfl
   ·intro y hy
    rw[hv]
    exact HNO.out y hy
  have dl:decide (b<b)=false:=decide_eq_false (Int.lt_irrefl _)
  have HK3:=HK1
  have HNN:=hid hN
  have HKK:=hid hk
  clear hzv hk hM hMN hkM hsl hN
  go_upto_region 11 with fail
  try rw[HNN.out]
  try rw[HKK.out]
  clear n3
  clear hmw hgm hL
  have HB3Z:=hid (newAlloc W3 (.cells #[.int .i64 t,.int .i64 b,.slice none 0 0,.bool x.fill,.int .i64 x.view,.int .i64 x.tv,.int .i64 x.ts,.int .i64 x.time,.slice ua x.reqs.length uc,.bool false] 66))
  have hbz:=alloc_atB W3 (.cells #[.int .i64 t,.int .i64 b,.slice none 0 0,.bool x.fill,.int .i64 x.view,.int .i64 x.tv,.int .i64 x.ts,.int .i64 x.time,.slice ua x.reqs.length uc,.bool false] 66) _ rfl
  obtain⟨W4,hW4⟩: ∃W,W=W3.alloc (.cells #[.int .i64 t,.int .i64 b,.slice none 0 0,.bool x.fill,.int .i64 x.view,.int .i64 x.tv,.int .i64 x.ts,.int .i64 x.time,.slice ua x.reqs.length uc,.bool false] 66):=⟨_,rfl⟩
  obtain⟨bz,hbz2⟩: ∃x,W3.heap.size=x:=⟨_,rfl⟩
  rw[<-hW4,hbz2] at hbz
  rw[<-hW4] at HB3Z
  have HZ4:=hid hbz
  go_upto_region 12 with fail
  rw[<-hW4]
  try rw[hbz2]
  have HBZ:=hid hbz2
  clear hW4 hbz hbz2 q0 q1 q2 q3 q4 q5 q6 q7 q8 q9 g2
  have y1:=cell_at HZ4.out 1
  simp at y1
  go_upto_region 16 with fail
  clear y1
  have HZ5:=HZ4
  have HB5:=HB3Z
  clear HZ4 HB3Z
  generalize W4=W5 at HZ5 HB5 ⊢
  have HRY:Hid (RdX 1 cellsI W5 (.slice none ([]:List Int).length 0) ([]:List Int)):=hid (RdX.nil _)
  have HYW:Hid (([]:List Int).Pairwise (· < ·)/\([]:List Int).length <=7):=hid ⟨List.Pairwise.nil,by simp⟩
  obtain⟨R,hR⟩: ∃R,refW f false [] ([]:List Int)=R:=⟨_,rfl⟩
  have HRA:Hid (R=addW f ([]:List Int)):=hid (by rw[<-hR,refW_go f _ _ HYW.out.1];rfl)
  have HR0:=hid hR
  clear hR
  have hyl:=HYW.out.2
  have HAT:=hid (fun i hi=>rdi_at HRY.out i hi)
  obtain⟨NW,hNW⟩: ∃NW,([]:List Int).length =NW:=⟨_,rfl⟩
  have HNW:=hid hNW
  obtain rfl:NW=0:=hNW.symm
  have hyl:0<=7:=by omega
  have HC2:Hid (∀W,Below W5.heap.size W5 W->W.cell? ⟨bz,2,none⟩=some (.slice none 0 0)):=hid fun W hb=>cell_at (cells_later HZ5.out hb) 2
  go_upto_region 19 with fail
  go_loopw [13,14,15] (fun v pt i wr=> ∃(K:Nat) (acc:List Int) (pb:Bool),K<=0/\i= .int .i64 (K:Int)/\pt= .bool pb/\acc.length<=2*K/\Hid (refW f pb acc (([]:List Int).drop K)=R)/\Hid (wr.ownsRow W5.heap.size 3 1 v acc.length (flatX cellsI acc))/\Hid (Below W5.heap.size W5 wr)) (fun _ _ i _=>0 - (intOf i).toNat)
  case atStart=>exact⟨0,[],false,by omega,rfl,rfl,by simp,HR0,hid (World.ownsRow_nil _ _ _ _),hid (Below.refl _ _)⟩
  case round=>
   obtain⟨K,acc,pb,hK,rfl,rfl,hacc,HRW,HOA,HBR⟩:=hrel
   have c2:=HC2.out _ HBR.out
   obtain⟨aa,ac,hav⟩:=Rw.own_form HOA.out
   subst hav
   by_cases hlt:K<0
   ·omega
   ·obtain rfl:K=0:=by omega
    have hd0:([]:List Int).drop 0= []:=rfl
    have hrw:=HRW.out
    rw[hd0,refW] at hrw
    clear hd0
    cases pb
    ·rw[if_neg Bool.false_ne_true] at hrw
     go_upto_region 28 with (at_builtin;refine wpList_append_one cellsI_length (by omega) rfl _ _ 45 rfl 3 ij _ 8 Try.underlying45 hij hj0 hj1 hj2 rfl #[.int .i64 f] (f:Int) rfl (cellsI_one _) acc W5.heap.size W5.heap.size W5 (.slice aa acc.length ac) rfl rfl HOA.out (by unfold maxLen;omega) (by omega) HBR.out.size HBR.out (Nat.le_refl _) ?_;intro v6 w6 ho6 hb6 _;have HO6:=hid ho6;have HB6:=hid hb6;clear ho6 hb6)
     obtain⟨na,nc,hnv⟩:=Rw.own_form HO6.out
     subst hnv
     rw[hrw] at HO6 ⊢
     have hz5:=cells_later HZ5.out HB6.out
     have zf:=frozen_at hz5
     have u2:=cell_at hz5 2
     have u9:=cell_at hz5 9
     simp at u2 u9
     have HGA:=hid (cells_later (cells_later HG3.out HB5.out) HB6.out)
     have n0:=cell_at HGA.out 0
     simp at n0
     have CQ:=hid (fun W=>Vw.RefQuorum_any s.n W)
     rw[quorum_of HGN.out] at CQ
     go_upto_region 29 with fail
     clear u2 u9
     obtain⟨cq,hcq⟩: ∃cq,decide (quoF s.n<=(R.length:Int))=cq:=⟨_,rfl⟩
     have HCQ:=hid hcq
     have hz6:(w6.setCell ⟨bz,2,none⟩ (.slice na R.length nc)).heap[bz]?=some (.cells #[.int .i64 t,.int .i64 b,.slice na R.length nc,.bool x.fill,.int .i64 x.view,.int .i64 x.tv,.int .i64 x.ts,.int .i64 x.time,.slice ua x.reqs.length uc,.bool false] 66):=by rw[set_atB hz5];rfl
     have hbg:bz≠g:=by rw[<-HBZ.out];have:=HGL.out;omega
     have hg6:=grown_setL w6 bz 2 (.slice na R.length nc)
     have HGB:Hid ((w6.setCell ⟨bz,2,none⟩ (.slice na R.length nc)).heap[g]?= _):=hid ((hg6.block _ (get_ltB HGA.out) (fun q=>hbg (by injection q with q;exact q.symm))).trans HGA.out)
     have n1:=cell_at HGB.out 0
     have u9:=cell_at hz6 9
     have zf6:=frozen_at hz6
     simp at n1 u9
     go_upto_region 30 with (go_at_call 35;refine(CQ.out _).mono ?_;rintro e wz ⟨rfl,hwz⟩;rw[<-hwz];clear hwz wz)
     try rw[hcq]
     clear hcq n0 n1 u9 zf zf6
     have HZW:Hid (((w6.setCell ⟨bz,2,none⟩ (.slice na R.length nc)).setCell ⟨bz,9,none⟩ (.bool cq)).heap[bz]?=some (.cells #[.int .i64 t,.int .i64 b,.slice na R.length nc,.bool x.fill,.int .i64 x.view,.int .i64 x.tv,.int .i64 x.ts,.int .i64 x.time,.slice ua x.reqs.length uc,.bool cq] 66)):=hid (by rw[set_atB hz6];rfl)
     have hg7:=hg6.trans (grown_setL (w6.setCell ⟨bz,2,none⟩ (.slice na R.length nc)) bz 9 (.bool cq))
     have HGW:Hid (((w6.setCell ⟨bz,2,none⟩ (.slice na R.length nc)).setCell ⟨bz,9,none⟩ (.bool cq)).heap[g]?= _):=hid ((hg7.block _ (get_ltB HGA.out) (fun q=>hbg (by injection q with q;exact q.symm))).trans HGA.out)
     have hbz3:W3.heap.size<=bz:=by rw[HBZ.out];exact Nat.le_refl _
     have hs3W:W3.heap.size<=w6.heap.size:=Nat.le_trans HB5.out.size HB6.out.size
     have hb3W:Below W3.heap.size W3 w6:=step HB5.out HB6.out
     have HB7:Hid (Below W3.heap.size W3 ((w6.setCell ⟨bz,2,none⟩ (.slice na R.length nc)).setCell ⟨bz,9,none⟩ (.bool cq))):=hid (hb3W.grown hg7 hs3W (fun k hk=>by cases hk;exact hbz3))
     have HOR:Hid (((w6.setCell ⟨bz,2,none⟩ (.slice na R.length nc)).setCell ⟨bz,9,none⟩ (.bool cq)).ownsRow W5.heap.size 3 1 (.slice na R.length nc) R.length (flatX cellsI R)):=hid (rowset_own HO6.out hg7 (fun q=>by have:=(Rw.own_lt HO6.out _ q).1;have:=get_ltB HZ5.out;omega))
     have HS7:Hid (W3.heap.size<=W5.heap.size):=hid HB5.out.size
     clear hz5 hz6 hg6 hg7 hbz3 hs3W hb3W HGA HGB HO6 HB6
     generalize ((w6.setCell ⟨bz,2,none⟩ (.slice na R.length nc)).setCell ⟨bz,9,none⟩ (.bool cq))=W7 at HZW HGW HB7 HOR ⊢
     have HKS:Hid (∀W:World,W.heap[g]?=some (.cells #[.int .i64 s.n,.int .i64 s.done,.slice (some ⟨lb,0,none⟩) N lq] 42)->W.heap[bz]?=some (.cells #[.int .i64 t,.int .i64 b,.slice na R.length nc,.bool x.fill,.int .i64 x.view,.int .i64 x.tv,.int .i64 x.ts,.int .i64 x.time,.slice ua x.reqs.length uc,.bool cq] 66)->W.cell? ⟨g,2,none⟩=some (.slice (some ⟨lb,0,none⟩) N lq)/\W.cell? ⟨bz,0,none⟩=some (.int .i64 t)/\W.cell? ⟨bz,1,none⟩=some (.int .i64 b)/\W.cell? ⟨bz,2,none⟩=some (.slice na R.length nc)/\W.cell? ⟨bz,3,none⟩=some (.bool x.fill)/\W.cell? ⟨bz,4,none⟩=some (.int .i64 x.view)/\W.cell? ⟨bz,5,none⟩=some (.int .i64 x.tv)/\W.cell? ⟨bz,6,none⟩=some (.int .i64 x.ts)/\W.cell? ⟨bz,7,none⟩=some (.int .i64 x.time)/\W.cell? ⟨bz,8,none⟩=some (.slice ua x.reqs.length uc)/\W.cell? ⟨bz,9,none⟩=some (.bool cq)):=hid fun W h1 h2=>⟨cell_at h1 2,cell_at h2 0,cell_at h2 1,cell_at h2 2,cell_at h2 3,cell_at h2 4,cell_at h2 5,cell_at h2 6,cell_at h2 7,cell_at h2 8,cell_at h2 9⟩
     have HOL:=hid (Rw.own_below HO3.out HB7.out)
     have HLB:Hid (∃lcs,W7.heap[lb]?=some (.cells lcs 66)):=hid (by obtain⟨lcs,h⟩:=HLS.out;exact⟨lcs,cells_later h HB7.out⟩)
     have hlbz:lb<bz:=by rw[<-HBZ.out];exact HLL.out
     have hglb:g<lb:=by have:=HLM.out;have:=HGM.out;omega
     have HFIN:Hid (∀V,Below W7.heap.size W7 V->HasL (set10 V lb (k*10) (⟨t,b,R,na,nc,x,ua,uc,cq⟩:SlotC)) g m ⟨s.n,s.done,valsL (M.set k (⟨t,b,R,na,nc,x,ua,uc,cq⟩:SlotC))⟩):=hid fun V hb=>by
      have hgr:=set10_grown V lb (k*10) (⟨t,b,R,na,nc,x,ua,uc,cq⟩:SlotC)
      have hVB:=step HB7.out hb
      have hlbV:V.heap[lb]?.map (fun o=>match o with | .cells _ t=>decide (t=66) | _=>false)=some true:=by
       obtain⟨lcs,h⟩:=HLB.out
       rw[cells_later h hb]
       simp
      refine⟨⟨.slice (some ⟨lb,0,none⟩) N lq,M.set k (⟨t,b,R,na,nc,x,ua,uc,cq⟩:SlotC),(hgr.block _ (get_ltB (cells_later HGW.out hb)) (fun q=>by injection q with q;omega)).trans (cells_later HGW.out hb),rfl,?_,fun y hy=>?_⟩,HGM.out,Nat.le_trans HMW.out (Nat.le_trans hVB.size hgr.size)⟩
      ·have h1:=Rw.own_below HO3.out hVB
       rw[<-HN.out] at h1 ⊢
       rw[List.length_set]
       exact set10_own h1 k (by rw[HN.out];exact hkN) _
      ·rcases List.mem_or_eq_of_mem_set hy with q | q
       ·exact((HX3.out y q).later hVB).far hgr hlbV
       ·rw[q]
        refine OwnX.far (show OwnX m V _ from⟨Rw.own_below (own_lowerX HOR.out (Nat.le_trans HMW.out HS7.out)) hb,Rw.own_below HUV.out hVB⟩) hgr hlbV
     have HTFIN:Hid (∀V,Below W7.heap.size W7 V->Turns g m w (set10 V lb (k*10) (⟨t,b,R,na,nc,x,ua,uc,cq⟩:SlotC))):=hid fun V hb=>((HT3.out.below (step HB7.out hb)).grow (set10_grown V lb (k*10) (⟨t,b,R,na,nc,x,ua,uc,cq⟩:SlotC)) (.inr (.inr ⟨HLM.out,by obtain⟨lcs,h⟩:=HLB.out;exact⟨lcs,cells_later h hb⟩⟩)))
     go_upto_region 30 with fail
     refine wp_region_held_drew (S:=(fun W=>W.cell? ⟨g,2,none⟩=some (.slice (some ⟨lb,0,none⟩) N lq)/\W.cell? ⟨bz,0,none⟩=some (.int .i64 t)/\W.cell? ⟨bz,1,none⟩=some (.int .i64 b)/\W.cell? ⟨bz,2,none⟩=some (.slice na R.length nc)/\W.cell? ⟨bz,3,none⟩=some (.bool x.fill)/\W.cell? ⟨bz,4,none⟩=some (.int .i64 x.view)/\W.cell? ⟨bz,5,none⟩=some (.int .i64 x.tv)/\W.cell? ⟨bz,6,none⟩=some (.int .i64 x.ts)/\W.cell? ⟨bz,7,none⟩=some (.int .i64 x.time)/\W.cell? ⟨bz,8,none⟩=some (.slice ua x.reqs.length uc)/\W.cell? ⟨bz,9,none⟩=some (.bool cq))) (by kernel_rfl) (HKS.out _ (cells_later HGW.out (Below.refl _ _).drew) (cells_later HZW.out (Below.refl _ _).drew)) (fun hHeld=>?_)
     obtain⟨V,hV⟩: ∃V,V=W7.drew:=⟨_,rfl⟩
     have HBV:Hid (Below W7.heap.size W7 V):=hid (by rw[hV];exact(Below.refl _ _).drew)
     rw[<-hV] at hHeld ⊢
     clear hV
     refine wpAnyH_take (i:=0) (v:=?_) rfl (by kernel_rfl) (by kernel_rfl) (by kernel_rfl) (fun _ _ _ h=>h) (Or.inl ⟨by rfl,?_⟩) (by assumption) ?_
     rotate_left
     ·intro w hSw;(try dsimp only at hSw);go_simp<;>with_reducible rfl
     try simp only[Act.put,getElem_toArray,getElem_cons_zero,setIfInBounds_toArray,set_cons_zero,set_cons_succ]
     refine wpAnyH_take (i:=1) (v:=?_) rfl (by kernel_rfl) (by kernel_rfl) (by kernel_rfl) (fun _ _ _ h=>h) (Or.inl ⟨by rfl,?_⟩) (by assumption) ?_
     rotate_left
     ·intro w hSw;(try dsimp only at hSw);go_simp<;>with_reducible rfl
     try simp only[Act.put,getElem_toArray,getElem_cons_succ,getElem_cons_zero,setIfInBounds_toArray,set_cons_zero,set_cons_succ]
     refine wpAnyH_take (i:=2) (v:=?_) rfl (by kernel_rfl) (by kernel_rfl) (by kernel_rfl) (fun _ _ _ h=>h) (Or.inl ⟨by rfl,?_⟩) (by assumption) ?_
     rotate_left
     ·intro w hSw;(try dsimp only at hSw);go_simp<;>with_reducible rfl
     try simp only[Act.put,getElem_toArray,getElem_cons_succ,getElem_cons_zero,setIfInBounds_toArray,set_cons_zero,set_cons_succ]
     refine wpAnyH_take (i:=3) (v:=?_) rfl (by kernel_rfl) (by kernel_rfl) (by kernel_rfl) (fun _ _ _ h=>h) (Or.inl ⟨by rfl,?_⟩) (by assumption) ?_
     rotate_left
     ·intro w hSw;(try dsimp only at hSw);go_simp<;>with_reducible rfl
     try simp only[Act.put,getElem_toArray,getElem_cons_succ,getElem_cons_zero,setIfInBounds_toArray,set_cons_zero,set_cons_succ]
     refine wpAnyH_take (i:=4) (v:=?_) rfl (by kernel_rfl) (by kernel_rfl) (by kernel_rfl) (fun _ _ _ h=>h) (Or.inl ⟨by rfl,?_⟩) (by assumption) ?_
     rotate_left
     ·intro w hSw;(try dsimp only at hSw);go_simp<;>with_reducible rfl
     try simp only[Act.put,getElem_toArray,getElem_cons_succ,getElem_cons_zero,setIfInBounds_toArray,set_cons_zero,set_cons_succ]
     refine wpAnyH_take (i:=5) (v:=?_) rfl (by kernel_rfl) (by kernel_rfl) (by kernel_rfl) (fun _ _ _ h=>h) (Or.inl ⟨by rfl,?_⟩) (by assumption) ?_
     rotate_left
     ·intro w hSw;(try dsimp only at hSw);go_simp<;>with_reducible rfl
     try simp only[Act.put,getElem_toArray,getElem_cons_succ,getElem_cons_zero,setIfInBounds_toArray,set_cons_zero,set_cons_succ]
     refine wpAnyH_take (i:=6) (v:=?_) rfl (by kernel_rfl) (by kernel_rfl) (by kernel_rfl) (fun _ _ _ h=>h) (Or.inl ⟨by rfl,?_⟩) (by assumption) ?_
     rotate_left
     ·intro w hSw;(try dsimp only at hSw);go_simp<;>with_reducible rfl
     try simp only[Act.put,getElem_toArray,getElem_cons_succ,getElem_cons_zero,setIfInBounds_toArray,set_cons_zero,set_cons_succ]
     have hor:=Rw.own_below HOL.out HBV.out
     have hx:=fun j (hj:j<10)=>(show ∃u,V.cell? ⟨lb,k*10+j,none⟩=some u from⟨_,(hor.cellAt (k*10+j) (by omega)).trans (List.getElem?_eq_getElem (by rw[flatX_length cellsS_length,HN.out];omega))⟩)
     have lf: ∀j,V.frozen? ⟨lb,j,none⟩=false:=fun j=>by obtain⟨lcs,hlc⟩:=HLB.out;exact frozen_at (cells_later hlc HBV.out) j
     obtain⟨o0,m0⟩: ∃u,V.cell? ⟨lb,k*10,none⟩=some u:=hx 0 (by omega)
     obtain⟨o1,m1⟩:=hx 1 (by omega)
     obtain⟨o2,m2⟩:=hx 2 (by omega)
     obtain⟨o3,m3⟩:=hx 3 (by omega)
     obtain⟨o4,m4⟩:=hx 4 (by omega)
     obtain⟨o5,m5⟩:=hx 5 (by omega)
     obtain⟨o6,m6⟩:=hx 6 (by omega)
     obtain⟨o7,m7⟩:=hx 7 (by omega)
     obtain⟨o8,m8⟩:=hx 8 (by omega)
     obtain⟨o9,m9⟩:=hx 9 (by omega)
     clear hx hor
     have HF:Hid (HasL (set10 V lb (k*10) (⟨t,b,R,na,nc,x,ua,uc,cq⟩:SlotC)) g m ⟨s.n,s.done,valsL (M.set k (⟨t,b,R,na,nc,x,ua,uc,cq⟩:SlotC))⟩):=hid (HFIN.out V HBV.out)
     have HT:Hid (Turns g m w (set10 V lb (k*10) (⟨t,b,R,na,nc,x,ua,uc,cq⟩:SlotC))):=hid (HTFIN.out V HBV.out)
     have hgw:(set10 V lb (k*10) (⟨t,b,R,na,nc,x,ua,uc,cq⟩:SlotC)).heap[g]?= _:=((set10_grown V lb (k*10) (⟨t,b,R,na,nc,x,ua,uc,cq⟩:SlotC)).block _ (get_ltB (cells_later HGW.out HBV.out)) (fun q=>by injection q with q;omega)).trans (cells_later HGW.out HBV.out)
     have hzw:(set10 V lb (k*10) (⟨t,b,R,na,nc,x,ua,uc,cq⟩:SlotC)).heap[bz]?= _:=((set10_grown V lb (k*10) (⟨t,b,R,na,nc,x,ua,uc,cq⟩:SlotC)).block _ (get_ltB (cells_later HZW.out HBV.out)) (fun q=>by injection q with q;omega)).trans (cells_later HZW.out HBV.out)
     have HSF:=hid (HKS.out _ hgw hzw)
     clear hgw hzw
     unfold set10 SlotC.wv SlotC.uv at HF HT HSF
     dsimp only at HF HT HSF
     refine wpAnyH_ready (rs:= [7]) (by kernel_rfl) (by simp) ?_
     refine AllReadyH.cons rfl (fun K hK=>?_) AllReadyH.nil
     go_simp
     refine hK.out _ _ HSF.out (fun hHeld=>?_)
     clear hK K
     try simp only[Act.put,getElem_toArray,getElem_cons_succ,getElem_cons_zero,setIfInBounds_toArray,set_cons_zero,set_cons_succ]
     refine wpAnyH_done (by kernel_rfl) ?_ _
     clear hHeld m0 m1 m2 m3 m4 m5 m6 m7 m8 m9
     go_wp2_with fail
     go_ret
     refine⟨rfl,?_,HT.out⟩
     have hfin:=HF.out
     rw[show putS (nextS s.n ⟨t,b,[],x,false⟩ f b x) s.l=valsL (M.set k (⟨t,b,R,na,nc,x,ua,uc,cq⟩:SlotC)) from by
      rw[valsL_set,HV3.out]
      exact(HPUT.out _ (by rw[HRA.out,<-HCQ.out,HRA.out];rfl)).trans rfl]
     exact hfin
    ·rw[if_pos rfl] at hrw
     go_upto_region 28 with fail
     rw[hrw] at HOA ⊢
     have hz5:=cells_later HZ5.out HBR.out
     have zf:=frozen_at hz5
     have u2:=cell_at hz5 2
     have u9:=cell_at hz5 9
     simp at u2 u9
     have HGA:=hid (cells_later (cells_later HG3.out HB5.out) HBR.out)
     have n0:=cell_at HGA.out 0
     simp at n0
     have CQ:=hid (fun W=>Vw.RefQuorum_any s.n W)
     rw[quorum_of HGN.out] at CQ
     go_upto_region 29 with fail
     clear u2 u9
     obtain⟨cq,hcq⟩: ∃cq,decide (quoF s.n<=(R.length:Int))=cq:=⟨_,rfl⟩
     have HCQ:=hid hcq
     have hz6:(wr.setCell ⟨bz,2,none⟩ (.slice aa R.length ac)).heap[bz]?=some (.cells #[.int .i64 t,.int .i64 b,.slice aa R.length ac,.bool x.fill,.int .i64 x.view,.int .i64 x.tv,.int .i64 x.ts,.int .i64 x.time,.slice ua x.reqs.length uc,.bool false] 66):=by rw[set_atB hz5];rfl
     have hbg:bz≠g:=by rw[<-HBZ.out];have:=HGL.out;omega
     have hg6:=grown_setL wr bz 2 (.slice aa R.length ac)
     have HGB:Hid ((wr.setCell ⟨bz,2,none⟩ (.slice aa R.length ac)).heap[g]?= _):=hid ((hg6.block _ (get_ltB HGA.out) (fun q=>hbg (by injection q with q;exact q.symm))).trans HGA.out)
     have n1:=cell_at HGB.out 0
     have u9:=cell_at hz6 9
     have zf6:=frozen_at hz6
     simp at n1 u9
     go_upto_region 30 with (go_at_call 35;refine(CQ.out _).mono ?_;rintro e wz ⟨rfl,hwz⟩;rw[<-hwz];clear hwz wz)
     try rw[hcq]
     clear hcq n0 n1 u9 zf zf6
     have HZW:Hid (((wr.setCell ⟨bz,2,none⟩ (.slice aa R.length ac)).setCell ⟨bz,9,none⟩ (.bool cq)).heap[bz]?=some (.cells #[.int .i64 t,.int .i64 b,.slice aa R.length ac,.bool x.fill,.int .i64 x.view,.int .i64 x.tv,.int .i64 x.ts,.int .i64 x.time,.slice ua x.reqs.length uc,.bool cq] 66)):=hid (by rw[set_atB hz6];rfl)
     have hg7:=hg6.trans (grown_setL (wr.setCell ⟨bz,2,none⟩ (.slice aa R.length ac)) bz 9 (.bool cq))
     have HGW:Hid (((wr.setCell ⟨bz,2,none⟩ (.slice aa R.length ac)).setCell ⟨bz,9,none⟩ (.bool cq)).heap[g]?= _):=hid ((hg7.block _ (get_ltB HGA.out) (fun q=>hbg (by injection q with q;exact q.symm))).trans HGA.out)
     have hbz3:W3.heap.size<=bz:=by rw[HBZ.out];exact Nat.le_refl _
     have hs3W:W3.heap.size<=wr.heap.size:=Nat.le_trans HB5.out.size HBR.out.size
     have hb3W:Below W3.heap.size W3 wr:=step HB5.out HBR.out
     have HB7:Hid (Below W3.heap.size W3 ((wr.setCell ⟨bz,2,none⟩ (.slice aa R.length ac)).setCell ⟨bz,9,none⟩ (.bool cq))):=hid (hb3W.grown hg7 hs3W (fun k hk=>by cases hk;exact hbz3))
     have HOR:Hid (((wr.setCell ⟨bz,2,none⟩ (.slice aa R.length ac)).setCell ⟨bz,9,none⟩ (.bool cq)).ownsRow W5.heap.size 3 1 (.slice aa R.length ac) R.length (flatX cellsI R)):=hid (rowset_own HOA.out hg7 (fun q=>by have:=(Rw.own_lt HOA.out _ q).1;have:=get_ltB HZ5.out;omega))
     have HS7:Hid (W3.heap.size<=W5.heap.size):=hid HB5.out.size
     clear hz5 hz6 hg6 hg7 hbz3 hs3W hb3W HGA HGB HOA HBR
     generalize ((wr.setCell ⟨bz,2,none⟩ (.slice aa R.length ac)).setCell ⟨bz,9,none⟩ (.bool cq))=W7 at HZW HGW HB7 HOR ⊢
     have HKS:Hid (∀W:World,W.heap[g]?=some (.cells #[.int .i64 s.n,.int .i64 s.done,.slice (some ⟨lb,0,none⟩) N lq] 42)->W.heap[bz]?=some (.cells #[.int .i64 t,.int .i64 b,.slice aa R.length ac,.bool x.fill,.int .i64 x.view,.int .i64 x.tv,.int .i64 x.ts,.int .i64 x.time,.slice ua x.reqs.length uc,.bool cq] 66)->W.cell? ⟨g,2,none⟩=some (.slice (some ⟨lb,0,none⟩) N lq)/\W.cell? ⟨bz,0,none⟩=some (.int .i64 t)/\W.cell? ⟨bz,1,none⟩=some (.int .i64 b)/\W.cell? ⟨bz,2,none⟩=some (.slice aa R.length ac)/\W.cell? ⟨bz,3,none⟩=some (.bool x.fill)/\W.cell? ⟨bz,4,none⟩=some (.int .i64 x.view)/\W.cell? ⟨bz,5,none⟩=some (.int .i64 x.tv)/\W.cell? ⟨bz,6,none⟩=some (.int .i64 x.ts)/\W.cell? ⟨bz,7,none⟩=some (.int .i64 x.time)/\W.cell? ⟨bz,8,none⟩=some (.slice ua x.reqs.length uc)/\W.cell? ⟨bz,9,none⟩=some (.bool cq)):=hid fun W h1 h2=>⟨cell_at h1 2,cell_at h2 0,cell_at h2 1,cell_at h2 2,cell_at h2 3,cell_at h2 4,cell_at h2 5,cell_at h2 6,cell_at h2 7,cell_at h2 8,cell_at h2 9⟩
     have HOL:=hid (Rw.own_below HO3.out HB7.out)
     have HLB:Hid (∃lcs,W7.heap[lb]?=some (.cells lcs 66)):=hid (by obtain⟨lcs,h⟩:=HLS.out;exact⟨lcs,cells_later h HB7.out⟩)
     have hlbz:lb<bz:=by rw[<-HBZ.out];exact HLL.out
     have hglb:g<lb:=by have:=HLM.out;have:=HGM.out;omega
     have HFIN:Hid (∀V,Below W7.heap.size W7 V->HasL (set10 V lb (k*10) (⟨t,b,R,aa,ac,x,ua,uc,cq⟩:SlotC)) g m ⟨s.n,s.done,valsL (M.set k (⟨t,b,R,aa,ac,x,ua,uc,cq⟩:SlotC))⟩):=hid fun V hb=>by
      have hgr:=set10_grown V lb (k*10) (⟨t,b,R,aa,ac,x,ua,uc,cq⟩:SlotC)
      have hVB:=step HB7.out hb
      have hlbV:V.heap[lb]?.map (fun o=>match o with | .cells _ t=>decide (t=66) | _=>false)=some true:=by
       obtain⟨lcs,h⟩:=HLB.out
       rw[cells_later h hb]
       simp
      refine⟨⟨.slice (some ⟨lb,0,none⟩) N lq,M.set k (⟨t,b,R,aa,ac,x,ua,uc,cq⟩:SlotC),(hgr.block _ (get_ltB (cells_later HGW.out hb)) (fun q=>by injection q with q;omega)).trans (cells_later HGW.out hb),rfl,?_,fun y hy=>?_⟩,HGM.out,Nat.le_trans HMW.out (Nat.le_trans hVB.size hgr.size)⟩
      ·have h1:=Rw.own_below HO3.out hVB
       rw[<-HN.out] at h1 ⊢
       rw[List.length_set]
       exact set10_own h1 k (by rw[HN.out];exact hkN) _
      ·rcases List.mem_or_eq_of_mem_set hy with q | q
       ·exact((HX3.out y q).later hVB).far hgr hlbV
       ·rw[q]
        refine OwnX.far (show OwnX m V _ from⟨Rw.own_below (own_lowerX HOR.out (Nat.le_trans HMW.out HS7.out)) hb,Rw.own_below HUV.out hVB⟩) hgr hlbV
     have HTFIN:Hid (∀V,Below W7.heap.size W7 V->Turns g m w (set10 V lb (k*10) (⟨t,b,R,aa,ac,x,ua,uc,cq⟩:SlotC))):=hid fun V hb=>((HT3.out.below (step HB7.out hb)).grow (set10_grown V lb (k*10) (⟨t,b,R,aa,ac,x,ua,uc,cq⟩:SlotC)) (.inr (.inr ⟨HLM.out,by obtain⟨lcs,h⟩:=HLB.out;exact⟨lcs,cells_later h hb⟩⟩)))
     go_upto_region 30 with fail
     refine wp_region_held_drew (S:=(fun W=>W.cell? ⟨g,2,none⟩=some (.slice (some ⟨lb,0,none⟩) N lq)/\W.cell? ⟨bz,0,none⟩=some (.int .i64 t)/\W.cell? ⟨bz,1,none⟩=some (.int .i64 b)/\W.cell? ⟨bz,2,none⟩=some (.slice aa R.length ac)/\W.cell? ⟨bz,3,none⟩=some (.bool x.fill)/\W.cell? ⟨bz,4,none⟩=some (.int .i64 x.view)/\W.cell? ⟨bz,5,none⟩=some (.int .i64 x.tv)/\W.cell? ⟨bz,6,none⟩=some (.int .i64 x.ts)/\W.cell? ⟨bz,7,none⟩=some (.int .i64 x.time)/\W.cell? ⟨bz,8,none⟩=some (.slice ua x.reqs.length uc)/\W.cell? ⟨bz,9,none⟩=some (.bool cq))) (by kernel_rfl) (HKS.out _ (cells_later HGW.out (Below.refl _ _).drew) (cells_later HZW.out (Below.refl _ _).drew)) (fun hHeld=>?_)
     obtain⟨V,hV⟩: ∃V,V=W7.drew:=⟨_,rfl⟩
     have HBV:Hid (Below W7.heap.size W7 V):=hid (by rw[hV];exact(Below.refl _ _).drew)
     rw[<-hV] at hHeld ⊢
     clear hV
     refine wpAnyH_take (i:=0) (v:=?_) rfl (by kernel_rfl) (by kernel_rfl) (by kernel_rfl) (fun _ _ _ h=>h) (Or.inl ⟨by rfl,?_⟩) (by assumption) ?_
     rotate_left
     ·intro w hSw;(try dsimp only at hSw);go_simp<;>with_reducible rfl
     try simp only[Act.put,getElem_toArray,getElem_cons_zero,setIfInBounds_toArray,set_cons_zero,set_cons_succ]
     refine wpAnyH_take (i:=1) (v:=?_) rfl (by kernel_rfl) (by kernel_rfl) (by kernel_rfl) (fun _ _ _ h=>h) (Or.inl ⟨by rfl,?_⟩) (by assumption) ?_
     rotate_left
     ·intro w hSw;(try dsimp only at hSw);go_simp<;>with_reducible rfl
     try simp only[Act.put,getElem_toArray,getElem_cons_succ,getElem_cons_zero,setIfInBounds_toArray,set_cons_zero,set_cons_succ]
     refine wpAnyH_take (i:=2) (v:=?_) rfl (by kernel_rfl) (by kernel_rfl) (by kernel_rfl) (fun _ _ _ h=>h) (Or.inl ⟨by rfl,?_⟩) (by assumption) ?_
     rotate_left
     ·intro w hSw;(try dsimp only at hSw);go_simp<;>with_reducible rfl
     try simp only[Act.put,getElem_toArray,getElem_cons_succ,getElem_cons_zero,setIfInBounds_toArray,set_cons_zero,set_cons_succ]
     refine wpAnyH_take (i:=3) (v:=?_) rfl (by kernel_rfl) (by kernel_rfl) (by kernel_rfl) (fun _ _ _ h=>h) (Or.inl ⟨by rfl,?_⟩) (by assumption) ?_
     rotate_left
     ·intro w hSw;(try dsimp only at hSw);go_simp<;>with_reducible rfl
     try simp only[Act.put,getElem_toArray,getElem_cons_succ,getElem_cons_zero,setIfInBounds_toArray,set_cons_zero,set_cons_succ]
     refine wpAnyH_take (i:=4) (v:=?_) rfl (by kernel_rfl) (by kernel_rfl) (by kernel_rfl) (fun _ _ _ h=>h) (Or.inl ⟨by rfl,?_⟩) (by assumption) ?_
     rotate_left
     ·intro w hSw;(try dsimp only at hSw);go_simp<;>with_reducible rfl
     try simp only[Act.put,getElem_toArray,getElem_cons_succ,getElem_cons_zero,setIfInBounds_toArray,set_cons_zero,set_cons_succ]
     refine wpAnyH_take (i:=5) (v:=?_) rfl (by kernel_rfl) (by kernel_rfl) (by kernel_rfl) (fun _ _ _ h=>h) (Or.inl ⟨by rfl,?_⟩) (by assumption) ?_
     rotate_left
     ·intro w hSw;(try dsimp only at hSw);go_simp<;>with_reducible rfl
     try simp only[Act.put,getElem_toArray,getElem_cons_succ,getElem_cons_zero,setIfInBounds_toArray,set_cons_zero,set_cons_succ]
     refine wpAnyH_take (i:=6) (v:=?_) rfl (by kernel_rfl) (by kernel_rfl) (by kernel_rfl) (fun _ _ _ h=>h) (Or.inl ⟨by rfl,?_⟩) (by assumption) ?_
     rotate_left
     ·intro w hSw;(try dsimp only at hSw);go_simp<;>with_reducible rfl
     try simp only[Act.put,getElem_toArray,getElem_cons_succ,getElem_cons_zero,setIfInBounds_toArray,set_cons_zero,set_cons_succ]
     have hor:=Rw.own_below HOL.out HBV.out
     have hx:=fun j (hj:j<10)=>(show ∃u,V.cell? ⟨lb,k*10+j,none⟩=some u from⟨_,(hor.cellAt (k*10+j) (by omega)).trans (List.getElem?_eq_getElem (by rw[flatX_length cellsS_length,HN.out];omega))⟩)
     have lf: ∀j,V.frozen? ⟨lb,j,none⟩=false:=fun j=>by obtain⟨lcs,hlc⟩:=HLB.out;exact frozen_at (cells_later hlc HBV.out) j
     obtain⟨o0,m0⟩: ∃u,V.cell? ⟨lb,k*10,none⟩=some u:=hx 0 (by omega)
     obtain⟨o1,m1⟩:=hx 1 (by omega)
     obtain⟨o2,m2⟩:=hx 2 (by omega)
     obtain⟨o3,m3⟩:=hx 3 (by omega)
     obtain⟨o4,m4⟩:=hx 4 (by omega)
     obtain⟨o5,m5⟩:=hx 5 (by omega)
     obtain⟨o6,m6⟩:=hx 6 (by omega)
     obtain⟨o7,m7⟩:=hx 7 (by omega)
     obtain⟨o8,m8⟩:=hx 8 (by omega)
     obtain⟨o9,m9⟩:=hx 9 (by omega)
     clear hx hor
     have HF:Hid (HasL (set10 V lb (k*10) (⟨t,b,R,aa,ac,x,ua,uc,cq⟩:SlotC)) g m ⟨s.n,s.done,valsL (M.set k (⟨t,b,R,aa,ac,x,ua,uc,cq⟩:SlotC))⟩):=hid (HFIN.out V HBV.out)
     have HT:Hid (Turns g m w (set10 V lb (k*10) (⟨t,b,R,aa,ac,x,ua,uc,cq⟩:SlotC))):=hid (HTFIN.out V HBV.out)
     have hgw:(set10 V lb (k*10) (⟨t,b,R,aa,ac,x,ua,uc,cq⟩:SlotC)).heap[g]?= _:=((set10_grown V lb (k*10) (⟨t,b,R,aa,ac,x,ua,uc,cq⟩:SlotC)).block _ (get_ltB (cells_later HGW.out HBV.out)) (fun q=>by injection q with q;omega)).trans (cells_later HGW.out HBV.out)
     have hzw:(set10 V lb (k*10) (⟨t,b,R,aa,ac,x,ua,uc,cq⟩:SlotC)).heap[bz]?= _:=((set10_grown V lb (k*10) (⟨t,b,R,aa,ac,x,ua,uc,cq⟩:SlotC)).block _ (get_ltB (cells_later HZW.out HBV.out)) (fun q=>by injection q with q;omega)).trans (cells_later HZW.out HBV.out)
     have HSF:=hid (HKS.out _ hgw hzw)
     clear hgw hzw
     unfold set10 SlotC.wv SlotC.uv at HF HT HSF
     dsimp only at HF HT HSF
     refine wpAnyH_ready (rs:= [7]) (by kernel_rfl) (by simp) ?_
     refine AllReadyH.cons rfl (fun K hK=>?_) AllReadyH.nil
     go_simp
     refine hK.out _ _ HSF.out (fun hHeld=>?_)
     clear hK K
     try simp only[Act.put,getElem_toArray,getElem_cons_succ,getElem_cons_zero,setIfInBounds_toArray,set_cons_zero,set_cons_succ]
     refine wpAnyH_done (by kernel_rfl) ?_ _
     clear hHeld m0 m1 m2 m3 m4 m5 m6 m7 m8 m9
     go_wp2_with fail
     go_ret
     refine⟨rfl,?_,HT.out⟩
     have hfin:=HF.out
     rw[show putS (nextS s.n ⟨t,b,[],x,false⟩ f b x) s.l=valsL (M.set k (⟨t,b,R,aa,ac,x,ua,uc,cq⟩:SlotC)) from by
      rw[valsL_set,HV3.out]
      exact(HPUT.out _ (by rw[HRA.out,<-HCQ.out,HRA.out];rfl)).trans rfl]
     exact hfin
 ·skip
  clear d1 d2 d5 d6 i1 CB CS CM CA a1 af c0 c1 c2 c3 c4 c5 n0 b0 b1 b2 b3 b4 b5 g2 g2a gf
  have hBD:Below W2.heap.size W2 (W2.alloc (.cells #[.int .i64 t,.int .i64 b,.slice none 0 0,.bool x.fill,.int .i64 x.view,.int .i64 x.tv,.int .i64 x.ts,.int .i64 x.time,.slice ua x.reqs.length uc,.bool false] 66)).drew :=(newAlloc W2 _).drew
  have hOD:=Rw.own_below HO2.out hBD
  have hg3:=grown_setL w6 g 2 (.slice na (L.length+1) lq)
  have l3:(w6.setCell ⟨g,2,none⟩ (.slice na (L.length+1) lq)).ownsRow m 66 10 (.slice na (L.length+1) lq) (L++ [(⟨t,b,[],none,0,x,ua,uc,false⟩:SlotC)]).length (flatX cellsS (L++ [(⟨t,b,[],none,0,x,ua,uc,false⟩:SlotC)])):=rowset_own HO6.out hg3 (fun q=>by have:=(Rw.own_lt HO6.out _ q).1;omega)
  have l4: ∀y∈L++ [(⟨t,b,[],none,0,x,ua,uc,false⟩:SlotC)],OwnX m (w6.setCell ⟨g,2,none⟩ (.slice na (L.length+1) lq)) y:=fun y hy=>by
   rcases List.mem_append.1 hy with q | q
   ·exact(((HX2.out y q).later hBD).row hOD HGR6.out).keep hg3 hgm
   ·rw[List.mem_singleton] at q
    subst q
    have hu:=Rw.own_below HOU2.out hBD
    refine OwnX.keep ⟨World.ownsRow_nil _ _ _ _,?_⟩ hg3 hgm
    exact Rw.own_other hu HGR6.out (own_typesD hOD hu (by decide))
  have l1:(w6.setCell ⟨g,2,none⟩ (.slice na (L.length+1) lq)).heap[g]?=some (.cells #[.int .i64 s.n,.int .i64 s.done,.slice na (L.length+1) lq] 42):=by rw[set_atB HG6.out];rfl
  have HT3:Hid (Turns g m w (w6.setCell ⟨g,2,none⟩ (.slice na (L.length+1) lq))):=hid ((((HT2.out.below hBD).row hOD HGR6.out)).grow hg3 (.inl rfl))
  have hsz:m<=(w6.setCell ⟨g,2,none⟩ (.slice na (L.length+1) lq)).heap.size :=Nat.le_trans hmw (Nat.le_trans HB6.out.size hg3.size)
  have HUV0:Hid ((w6.setCell ⟨g,2,none⟩ (.slice na (L.length+1) lq)).ownsRow m 73 5 (.slice ua x.reqs.length uc) x.reqs.length (flatX cellsR x.reqs)):=hid (l4 _ (List.mem_append.2 (.inr List.mem_cons_self))).2
  clear hBD hOD hg3 g26 g06 gf6 HG6 HO6 HB6 HGR6
  generalize w6.setCell ⟨g,2,none⟩ (.slice na (L.length+1) lq)=W3 at l1 l3 l4 HT3 hsz HUV0 ⊢
  obtain⟨lb,lc2,hna,hlm,hll,hls⟩:=own_blk l3 (by simp)
  obtain⟨N,hN⟩: ∃N,L.length+1=N:=⟨_,rfl⟩
  rw[hN] at l1 l3 hna ⊢
  injection hna with hna1 _ hna2
  subst hna1 hna2
  obtain⟨k,hk⟩: ∃k,L.length=k:=⟨_,rfl⟩
  try rw[hk]
  obtain⟨M,hM⟩: ∃M,M=L++ [(⟨t,b,[],none,0,x,ua,uc,false⟩:SlotC)]:=⟨_,rfl⟩
  have hMN:M.length=N:=by rw[hM];simp;omega
  rw[<-hM] at l3 l4
  have HN:=hid hMN
  have hkN:k<N:=by omega
  have hkM:k<M.length:=by omega
  have HLM:=hid hlm
  have HLL:=hid hll
  have HLS:=hid hls
  have HV3:Hid (valsL M=s.l++ [(⟨t,b,[],x,false⟩:SlotV)]):=hid (by rw[hM,valsL_snoc,HV2.out];rfl)
  rw[hMN] at l3
  have HO3:=hid l3
  have HX3:=hid l4
  have HG3:=hid l1
  have HGM:=hid hgm
  have HMW:=hid hsz
  have HGL:Hid (g<W3.heap.size):=hid (by omega)
  have l3':W3.ownsRow m 66 10 (.slice (some ⟨lb,0,none⟩) M.length lq) M.length (flatX cellsS M):=by rw[hMN];exact l3
  obtain⟨bb,oo,hab,hcc⟩:=rds_at (RdX.own cellsS_length l3') k hkM
  cases hab
  obtain⟨q0,q1,q2,q3,q4,q5,q6,q7,q8,q9⟩:=hcc _ (Below.refl _ _)
  simp only[Nat.zero_add] at q0 q1 q2 q3 q4 q5 q6 q7 q8 q9
  have g2:=cell_at l1 2
  simp at g2
  have hzv:M[k]'hkM=(⟨t,b,[],none,0,x,ua,uc,false⟩:SlotC):=by
   subst hM
   subst hk
   simp
  have hsl:s.l.length=k:=by rw[<-HV2.out,valsL_length];exact hk
  clear hcc l1 l3 l3' l4 hlm hll hls
  rw[hzv] at q0 q1 q2 q3 q4 q5 q6 q7 q8 q9
  unfold SlotC.wv at q2
  unfold SlotC.uv at q8
  dsimp only[List.length_nil] at q0 q1 q2 q3 q4 q5 q6 q7 q8 q9
  have HUV:=HUV0
  have n1:(k:Int)<(N:Int):=by omega
  have n2:(0:Int)<=(k:Int):=by omega
  have n1b:(k:Int)<(L.length:Int)+1:=by omega
  have n3:IntKind.i64.wrap ((N:Int) - 1)=(k:Int):=by rw[IntKind.wrap_i64];omega
  have HPUT:Hid (∀v:SlotV,v=⟨t,b,addW f [],x,decide (quoF s.n<=((addW f []).length :Int))⟩->putS (nextS s.n ⟨t,b,[],x,false⟩ f b x) s.l=(s.l++ [(⟨t,b,[],x,false⟩:SlotV)]).set k v):=hid fun v hv=>by
   have e:nextS s.n ⟨t,b,[],x,false⟩ f b x=v:=by
    rw[hv]
    unfold nextS
    dsimp only
    rw[if_neg (Int.lt_irrefl _)]
   rw[e,putS_miss v s.l]
   ·rw[<-hsl,List.set_append_right _ _ (Nat.le_refl _),Nat.sub_self]
    rfl
   ·intro y hy
    rw[hv]
    exact HNO.out y hy
  have dl:decide (b<b)=false:=decide_eq_false (Int.lt_irrefl _)
  have HK3:=HK1
  have HNN:=hid hN
  have HKK:=hid hk
  clear hzv hk hM hMN hkM hsl hN
  go_upto_region 11 with fail
  try rw[HNN.out]
  try rw[HKK.out]
  clear n3
  clear hmw hgm hL
  have HB3Z:=hid (newAlloc W3 (.cells #[.int .i64 t,.int .i64 b,.slice none 0 0,.bool x.fill,.int .i64 x.view,.int .i64 x.tv,.int .i64 x.ts,.int .i64 x.time,.slice ua x.reqs.length uc,.bool false] 66))
  have hbz:=alloc_atB W3 (.cells #[.int .i64 t,.int .i64 b,.slice none 0 0,.bool x.fill,.int .i64 x.view,.int .i64 x.tv,.int .i64 x.ts,.int .i64 x.time,.slice ua x.reqs.length uc,.bool false] 66) _ rfl
  obtain⟨W4,hW4⟩: ∃W,W=W3.alloc (.cells #[.int .i64 t,.int .i64 b,.slice none 0 0,.bool x.fill,.int .i64 x.view,.int .i64 x.tv,.int .i64 x.ts,.int .i64 x.time,.slice ua x.reqs.length uc,.bool false] 66):=⟨_,rfl⟩
  obtain⟨bz,hbz2⟩: ∃x,W3.heap.size=x:=⟨_,rfl⟩
  rw[<-hW4,hbz2] at hbz
  rw[<-hW4] at HB3Z
  have HZ4:=hid hbz
  go_upto_region 12 with fail
  rw[<-hW4]
  try rw[hbz2]
  have HBZ:=hid hbz2
  clear hW4 hbz hbz2 q0 q1 q2 q3 q4 q5 q6 q7 q8 q9 g2
  have y1:=cell_at HZ4.out 1
  simp at y1
  go_upto_region 16 with fail
  clear y1
  have HZ5:=HZ4
  have HB5:=HB3Z
  clear HZ4 HB3Z
  generalize W4=W5 at HZ5 HB5 ⊢
  have HRY:Hid (RdX 1 cellsI W5 (.slice none ([]:List Int).length 0) ([]:List Int)):=hid (RdX.nil _)
  have HYW:Hid (([]:List Int).Pairwise (· < ·)/\([]:List Int).length <=7):=hid ⟨List.Pairwise.nil,by simp⟩
  obtain⟨R,hR⟩: ∃R,refW f false [] ([]:List Int)=R:=⟨_,rfl⟩
  have HRA:Hid (R=addW f ([]:List Int)):=hid (by rw[<-hR,refW_go f _ _ HYW.out.1];rfl)
  have HR0:=hid hR
  clear hR
  have hyl:=HYW.out.2
  have HAT:=hid (fun i hi=>rdi_at HRY.out i hi)
  obtain⟨NW,hNW⟩: ∃NW,([]:List Int).length =NW:=⟨_,rfl⟩
  have HNW:=hid hNW
  obtain rfl:NW=0:=hNW.symm
  have hyl:0<=7:=by omega
  have HC2:Hid (∀W,Below W5.heap.size W5 W->W.cell? ⟨bz,2,none⟩=some (.slice none 0 0)):=hid fun W hb=>cell_at (cells_later HZ5.out hb) 2
  go_upto_region 19 with fail
  go_loopw [13,14,15] (fun v pt i wr=> ∃(K:Nat) (acc:List Int) (pb:Bool),K<=0/\i= .int .i64 (K:Int)/\pt= .bool pb/\acc.length<=2*K/\Hid (refW f pb acc (([]:List Int).drop K)=R)/\Hid (wr.ownsRow W5.heap.size 3 1 v acc.length (flatX cellsI acc))/\Hid (Below W5.heap.size W5 wr)) (fun _ _ i _=>0 - (intOf i).toNat)
  case atStart=>exact⟨0,[],false,by omega,rfl,rfl,by simp,HR0,hid (World.ownsRow_nil _ _ _ _),hid (Below.refl _ _)⟩
  case round=>
   obtain⟨K,acc,pb,hK,rfl,rfl,hacc,HRW,HOA,HBR⟩:=hrel
   have c2:=HC2.out _ HBR.out
   obtain⟨aa,ac,hav⟩:=Rw.own_form HOA.out
   subst hav
   by_cases hlt:K<0
   ·omega
   ·obtain rfl:K=0:=by omega
    have hd0:([]:List Int).drop 0= []:=rfl
    have hrw:=HRW.out
    rw[hd0,refW] at hrw
    clear hd0
    cases pb
    ·rw[if_neg Bool.false_ne_true] at hrw
     go_upto_region 28 with (at_builtin;refine wpList_append_one cellsI_length (by omega) rfl _ _ 45 rfl 3 ij _ 8 Try.underlying45 hij hj0 hj1 hj2 rfl #[.int .i64 f] (f:Int) rfl (cellsI_one _) acc W5.heap.size W5.heap.size W5 (.slice aa acc.length ac) rfl rfl HOA.out (by unfold maxLen;omega) (by omega) HBR.out.size HBR.out (Nat.le_refl _) ?_;intro v6 w6 ho6 hb6 _;have HO6:=hid ho6;have HB6:=hid hb6;clear ho6 hb6)
     obtain⟨na,nc,hnv⟩:=Rw.own_form HO6.out
     subst hnv
     rw[hrw] at HO6 ⊢
     have hz5:=cells_later HZ5.out HB6.out
     have zf:=frozen_at hz5
     have u2:=cell_at hz5 2
     have u9:=cell_at hz5 9
     simp at u2 u9
     have HGA:=hid (cells_later (cells_later HG3.out HB5.out) HB6.out)
     have n0:=cell_at HGA.out 0
     simp at n0
     have CQ:=hid (fun W=>Vw.RefQuorum_any s.n W)
     rw[quorum_of HGN.out] at CQ
     go_upto_region 29 with fail
     clear u2 u9
     obtain⟨cq,hcq⟩: ∃cq,decide (quoF s.n<=(R.length:Int))=cq:=⟨_,rfl⟩
     have HCQ:=hid hcq
     have hz6:(w6.setCell ⟨bz,2,none⟩ (.slice na R.length nc)).heap[bz]?=some (.cells #[.int .i64 t,.int .i64 b,.slice na R.length nc,.bool x.fill,.int .i64 x.view,.int .i64 x.tv,.int .i64 x.ts,.int .i64 x.time,.slice ua x.reqs.length uc,.bool false] 66):=by rw[set_atB hz5];rfl
     have hbg:bz≠g:=by rw[<-HBZ.out];have:=HGL.out;omega
     have hg6:=grown_setL w6 bz 2 (.slice na R.length nc)
     have HGB:Hid ((w6.setCell ⟨bz,2,none⟩ (.slice na R.length nc)).heap[g]?= _):=hid ((hg6.block _ (get_ltB HGA.out) (fun q=>hbg (by injection q with q;exact q.symm))).trans HGA.out)
     have n1:=cell_at HGB.out 0
     have u9:=cell_at hz6 9
     have zf6:=frozen_at hz6
     simp at n1 u9
     go_upto_region 30 with (go_at_call 35;refine(CQ.out _).mono ?_;rintro e wz ⟨rfl,hwz⟩;rw[<-hwz];clear hwz wz)
     try rw[hcq]
     clear hcq n0 n1 u9 zf zf6
     have HZW:Hid (((w6.setCell ⟨bz,2,none⟩ (.slice na R.length nc)).setCell ⟨bz,9,none⟩ (.bool cq)).heap[bz]?=some (.cells #[.int .i64 t,.int .i64 b,.slice na R.length nc,.bool x.fill,.int .i64 x.view,.int .i64 x.tv,.int .i64 x.ts,.int .i64 x.time,.slice ua x.reqs.length uc,.bool cq] 66)):=hid (by rw[set_atB hz6];rfl)
     have hg7:=hg6.trans (grown_setL (w6.setCell ⟨bz,2,none⟩ (.slice na R.length nc)) bz 9 (.bool cq))
     have HGW:Hid (((w6.setCell ⟨bz,2,none⟩ (.slice na R.length nc)).setCell ⟨bz,9,none⟩ (.bool cq)).heap[g]?= _):=hid ((hg7.block _ (get_ltB HGA.out) (fun q=>hbg (by injection q with q;exact q.symm))).trans HGA.out)
     have hbz3:W3.heap.size<=bz:=by rw[HBZ.out];exact Nat.le_refl _
     have hs3W:W3.heap.size<=w6.heap.size:=Nat.le_trans HB5.out.size HB6.out.size
     have hb3W:Below W3.heap.size W3 w6:=step HB5.out HB6.out
     have HB7:Hid (Below W3.heap.size W3 ((w6.setCell ⟨bz,2,none⟩ (.slice na R.length nc)).setCell ⟨bz,9,none⟩ (.bool cq))):=hid (hb3W.grown hg7 hs3W (fun k hk=>by cases hk;exact hbz3))
     have HOR:Hid (((w6.setCell ⟨bz,2,none⟩ (.slice na R.length nc)).setCell ⟨bz,9,none⟩ (.bool cq)).ownsRow W5.heap.size 3 1 (.slice na R.length nc) R.length (flatX cellsI R)):=hid (rowset_own HO6.out hg7 (fun q=>by have:=(Rw.own_lt HO6.out _ q).1;have:=get_ltB HZ5.out;omega))
     have HS7:Hid (W3.heap.size<=W5.heap.size):=hid HB5.out.size
     clear hz5 hz6 hg6 hg7 hbz3 hs3W hb3W HGA HGB HO6 HB6
     generalize ((w6.setCell ⟨bz,2,none⟩ (.slice na R.length nc)).setCell ⟨bz,9,none⟩ (.bool cq))=W7 at HZW HGW HB7 HOR ⊢
     have HKS:Hid (∀W:World,W.heap[g]?=some (.cells #[.int .i64 s.n,.int .i64 s.done,.slice (some ⟨lb,0,none⟩) N lq] 42)->W.heap[bz]?=some (.cells #[.int .i64 t,.int .i64 b,.slice na R.length nc,.bool x.fill,.int .i64 x.view,.int .i64 x.tv,.int .i64 x.ts,.int .i64 x.time,.slice ua x.reqs.length uc,.bool cq] 66)->W.cell? ⟨g,2,none⟩=some (.slice (some ⟨lb,0,none⟩) N lq)/\W.cell? ⟨bz,0,none⟩=some (.int .i64 t)/\W.cell? ⟨bz,1,none⟩=some (.int .i64 b)/\W.cell? ⟨bz,2,none⟩=some (.slice na R.length nc)/\W.cell? ⟨bz,3,none⟩=some (.bool x.fill)/\W.cell? ⟨bz,4,none⟩=some (.int .i64 x.view)/\W.cell? ⟨bz,5,none⟩=some (.int .i64 x.tv)/\W.cell? ⟨bz,6,none⟩=some (.int .i64 x.ts)/\W.cell? ⟨bz,7,none⟩=some (.int .i64 x.time)/\W.cell? ⟨bz,8,none⟩=some (.slice ua x.reqs.length uc)/\W.cell? ⟨bz,9,none⟩=some (.bool cq)):=hid fun W h1 h2=>⟨cell_at h1 2,cell_at h2 0,cell_at h2 1,cell_at h2 2,cell_at h2 3,cell_at h2 4,cell_at h2 5,cell_at h2 6,cell_at h2 7,cell_at h2 8,cell_at h2 9⟩
     have HOL:=hid (Rw.own_below HO3.out HB7.out)
     have HLB:Hid (∃lcs,W7.heap[lb]?=some (.cells lcs 66)):=hid (by obtain⟨lcs,h⟩:=HLS.out;exact⟨lcs,cells_later h HB7.out⟩)
     have hlbz:lb<bz:=by rw[<-HBZ.out];exact HLL.out
     have hglb:g<lb:=by have:=HLM.out;have:=HGM.out;omega
     have HFIN:Hid (∀V,Below W7.heap.size W7 V->HasL (set10 V lb (k*10) (⟨t,b,R,na,nc,x,ua,uc,cq⟩:SlotC)) g m ⟨s.n,s.done,valsL (M.set k (⟨t,b,R,na,nc,x,ua,uc,cq⟩:SlotC))⟩):=hid fun V hb=>by
      have hgr:=set10_grown V lb (k*10) (⟨t,b,R,na,nc,x,ua,uc,cq⟩:SlotC)
      have hVB:=step HB7.out hb
      have hlbV:V.heap[lb]?.map (fun o=>match o with | .cells _ t=>decide (t=66) | _=>false)=some true:=by
       obtain⟨lcs,h⟩:=HLB.out
       rw[cells_later h hb]
       simp
      refine⟨⟨.slice (some ⟨lb,0,none⟩) N lq,M.set k (⟨t,b,R,na,nc,x,ua,uc,cq⟩:SlotC),(hgr.block _ (get_ltB (cells_later HGW.out hb)) (fun q=>by injection q with q;omega)).trans (cells_later HGW.out hb),rfl,?_,fun y hy=>?_⟩,HGM.out,Nat.le_trans HMW.out (Nat.le_trans hVB.size hgr.size)⟩
      ·have h1:=Rw.own_below HO3.out hVB
       rw[<-HN.out] at h1 ⊢
       rw[List.length_set]
       exact set10_own h1 k (by rw[HN.out];exact hkN) _
      ·rcases List.mem_or_eq_of_mem_set hy with q | q
       ·exact((HX3.out y q).later hVB).far hgr hlbV
       ·rw[q]
        refine OwnX.far (show OwnX m V _ from⟨Rw.own_below (own_lowerX HOR.out (Nat.le_trans HMW.out HS7.out)) hb,Rw.own_below HUV.out hVB⟩) hgr hlbV
     have HTFIN:Hid (∀V,Below W7.heap.size W7 V->Turns g m w (set10 V lb (k*10) (⟨t,b,R,na,nc,x,ua,uc,cq⟩:SlotC))):=hid fun V hb=>((HT3.out.below (step HB7.out hb)).grow (set10_grown V lb (k*10) (⟨t,b,R,na,nc,x,ua,uc,cq⟩:SlotC)) (.inr (.inr ⟨HLM.out,by obtain⟨lcs,h⟩:=HLB.out;exact⟨lcs,cells_later h hb⟩⟩)))
     go_upto_region 30 with fail
     refine wp_region_held_drew (S:=(fun W=>W.cell? ⟨g,2,none⟩=some (.slice (some ⟨lb,0,none⟩) N lq)/\W.cell? ⟨bz,0,none⟩=some (.int .i64 t)/\W.cell? ⟨bz,1,none⟩=some (.int .i64 b)/\W.cell? ⟨bz,2,none⟩=some (.slice na R.length nc)/\W.cell? ⟨bz,3,none⟩=some (.bool x.fill)/\W.cell? ⟨bz,4,none⟩=some (.int .i64 x.view)/\W.cell? ⟨bz,5,none⟩=some (.int .i64 x.tv)/\W.cell? ⟨bz,6,none⟩=some (.int .i64 x.ts)/\W.cell? ⟨bz,7,none⟩=some (.int .i64 x.time)/\W.cell? ⟨bz,8,none⟩=some (.slice ua x.reqs.length uc)/\W.cell? ⟨bz,9,none⟩=some (.bool cq))) (by kernel_rfl) (HKS.out _ (cells_later HGW.out (Below.refl _ _).drew) (cells_later HZW.out (Below.refl _ _).drew)) (fun hHeld=>?_)
     obtain⟨V,hV⟩: ∃V,V=W7.drew:=⟨_,rfl⟩
     have HBV:Hid (Below W7.heap.size W7 V):=hid (by rw[hV];exact(Below.refl _ _).drew)
     rw[<-hV] at hHeld ⊢
     clear hV
     refine wpAnyH_take (i:=0) (v:=?_) rfl (by kernel_rfl) (by kernel_rfl) (by kernel_rfl) (fun _ _ _ h=>h) (Or.inl ⟨by rfl,?_⟩) (by assumption) ?_
     rotate_left
     ·intro w hSw;(try dsimp only at hSw);go_simp<;>with_reducible rfl
     try simp only[Act.put,getElem_toArray,getElem_cons_zero,setIfInBounds_toArray,set_cons_zero,set_cons_succ]
     refine wpAnyH_take (i:=1) (v:=?_) rfl (by kernel_rfl) (by kernel_rfl) (by kernel_rfl) (fun _ _ _ h=>h) (Or.inl ⟨by rfl,?_⟩) (by assumption) ?_
     rotate_left
     ·intro w hSw;(try dsimp only at hSw);go_simp<;>with_reducible rfl
     try simp only[Act.put,getElem_toArray,getElem_cons_succ,getElem_cons_zero,setIfInBounds_toArray,set_cons_zero,set_cons_succ]
     refine wpAnyH_take (i:=2) (v:=?_) rfl (by kernel_rfl) (by kernel_rfl) (by kernel_rfl) (fun _ _ _ h=>h) (Or.inl ⟨by rfl,?_⟩) (by assumption) ?_
     rotate_left
     ·intro w hSw;(try dsimp only at hSw);go_simp<;>with_reducible rfl
     try simp only[Act.put,getElem_toArray,getElem_cons_succ,getElem_cons_zero,setIfInBounds_toArray,set_cons_zero,set_cons_succ]
     refine wpAnyH_take (i:=3) (v:=?_) rfl (by kernel_rfl) (by kernel_rfl) (by kernel_rfl) (fun _ _ _ h=>h) (Or.inl ⟨by rfl,?_⟩) (by assumption) ?_
     rotate_left
     ·intro w hSw;(try dsimp only at hSw);go_simp<;>with_reducible rfl
     try simp only[Act.put,getElem_toArray,getElem_cons_succ,getElem_cons_zero,setIfInBounds_toArray,set_cons_zero,set_cons_succ]
     refine wpAnyH_take (i:=4) (v:=?_) rfl (by kernel_rfl) (by kernel_rfl) (by kernel_rfl) (fun _ _ _ h=>h) (Or.inl ⟨by rfl,?_⟩) (by assumption) ?_
     rotate_left
     ·intro w hSw;(try dsimp only at hSw);go_simp<;>with_reducible rfl
     try simp only[Act.put,getElem_toArray,getElem_cons_succ,getElem_cons_zero,setIfInBounds_toArray,set_cons_zero,set_cons_succ]
     refine wpAnyH_take (i:=5) (v:=?_) rfl (by kernel_rfl) (by kernel_rfl) (by kernel_rfl) (fun _ _ _ h=>h) (Or.inl ⟨by rfl,?_⟩) (by assumption) ?_
     rotate_left
     ·intro w hSw;(try dsimp only at hSw);go_simp<;>with_reducible rfl
     try simp only[Act.put,getElem_toArray,getElem_cons_succ,getElem_cons_zero,setIfInBounds_toArray,set_cons_zero,set_cons_succ]
     refine wpAnyH_take (i:=6) (v:=?_) rfl (by kernel_rfl) (by kernel_rfl) (by kernel_rfl) (fun _ _ _ h=>h) (Or.inl ⟨by rfl,?_⟩) (by assumption) ?_
     rotate_left
     ·intro w hSw;(try dsimp only at hSw);go_simp<;>with_reducible rfl
     try simp only[Act.put,getElem_toArray,getElem_cons_succ,getElem_cons_zero,setIfInBounds_toArray,set_cons_zero,set_cons_succ]
     have hor:=Rw.own_below HOL.out HBV.out
     have hx:=fun j (hj:j<10)=>(show ∃u,V.cell? ⟨lb,k*10+j,none⟩=some u from⟨_,(hor.cellAt (k*10+j) (by omega)).trans (List.getElem?_eq_getElem (by rw[flatX_length cellsS_length,HN.out];omega))⟩)
     have lf: ∀j,V.frozen? ⟨lb,j,none⟩=false:=fun j=>by obtain⟨lcs,hlc⟩:=HLB.out;exact frozen_at (cells_later hlc HBV.out) j
     obtain⟨o0,m0⟩: ∃u,V.cell? ⟨lb,k*10,none⟩=some u:=hx 0 (by omega)
     obtain⟨o1,m1⟩:=hx 1 (by omega)
     obtain⟨o2,m2⟩:=hx 2 (by omega)
     obtain⟨o3,m3⟩:=hx 3 (by omega)
     obtain⟨o4,m4⟩:=hx 4 (by omega)
     obtain⟨o5,m5⟩:=hx 5 (by omega)
     obtain⟨o6,m6⟩:=hx 6 (by omega)
     obtain⟨o7,m7⟩:=hx 7 (by omega)
     obtain⟨o8,m8⟩:=hx 8 (by omega)
     obtain⟨o9,m9⟩:=hx 9 (by omega)
     clear hx hor
     have HF:Hid (HasL (set10 V lb (k*10) (⟨t,b,R,na,nc,x,ua,uc,cq⟩:SlotC)) g m ⟨s.n,s.done,valsL (M.set k (⟨t,b,R,na,nc,x,ua,uc,cq⟩:SlotC))⟩):=hid (HFIN.out V HBV.out)
     have HT:Hid (Turns g m w (set10 V lb (k*10) (⟨t,b,R,na,nc,x,ua,uc,cq⟩:SlotC))):=hid (HTFIN.out V HBV.out)
     have hgw:(set10 V lb (k*10) (⟨t,b,R,na,nc,x,ua,uc,cq⟩:SlotC)).heap[g]?= _:=((set10_grown V lb (k*10) (⟨t,b,R,na,nc,x,ua,uc,cq⟩:SlotC)).block _ (get_ltB (cells_later HGW.out HBV.out)) (fun q=>by injection q with q;omega)).trans (cells_later HGW.out HBV.out)
     have hzw:(set10 V lb (k*10) (⟨t,b,R,na,nc,x,ua,uc,cq⟩:SlotC)).heap[bz]?= _:=((set10_grown V lb (k*10) (⟨t,b,R,na,nc,x,ua,uc,cq⟩:SlotC)).block _ (get_ltB (cells_later HZW.out HBV.out)) (fun q=>by injection q with q;omega)).trans (cells_later HZW.out HBV.out)
     have HSF:=hid (HKS.out _ hgw hzw)
     clear hgw hzw
     unfold set10 SlotC.wv SlotC.uv at HF HT HSF
     dsimp only at HF HT HSF
     refine wpAnyH_ready (rs:= [7]) (by kernel_rfl) (by simp) ?_
     refine AllReadyH.cons rfl (fun K hK=>?_) AllReadyH.nil
     go_simp
     refine hK.out _ _ HSF.out (fun hHeld=>?_)
     clear hK K
     try simp only[Act.put,getElem_toArray,getElem_cons_succ,getElem_cons_zero,setIfInBounds_toArray,set_cons_zero,set_cons_succ]
     refine wpAnyH_done (by kernel_rfl) ?_ _
     clear hHeld m0 m1 m2 m3 m4 m5 m6 m7 m8 m9
     go_wp2_with fail
     go_ret
     refine⟨rfl,?_,HT.out⟩
     have hfin:=HF.out
     rw[show putS (nextS s.n ⟨t,b,[],x,false⟩ f b x) s.l=valsL (M.set k (⟨t,b,R,na,nc,x,ua,uc,cq⟩:SlotC)) from by
      rw[valsL_set,HV3.out]
      exact(HPUT.out _ (by rw[HRA.out,<-HCQ.out,HRA.out];rfl)).trans rfl]
     exact hfin
    ·rw[if_pos rfl] at hrw
     go_upto_region 28 with fail
     rw[hrw] at HOA ⊢
     have hz5:=cells_later HZ5.out HBR.out
     have zf:=frozen_at hz5
     have u2:=cell_at hz5 2
     have u9:=cell_at hz5 9
     simp at u2 u9
     have HGA:=hid (cells_later (cells_later HG3.out HB5.out) HBR.out)
     have n0:=cell_at HGA.out 0
     simp at n0
     have CQ:=hid (fun W=>Vw.RefQuorum_any s.n W)
     rw[quorum_of HGN.out] at CQ
     go_upto_region 29 with fail
     clear u2 u9
     obtain⟨cq,hcq⟩: ∃cq,decide (quoF s.n<=(R.length:Int))=cq:=⟨_,rfl⟩
     have HCQ:=hid hcq
     have hz6:(wr.setCell ⟨bz,2,none⟩ (.slice aa R.length ac)).heap[bz]?=some (.cells #[.int .i64 t,.int .i64 b,.slice aa R.length ac,.bool x.fill,.int .i64 x.view,.int .i64 x.tv,.int .i64 x.ts,.int .i64 x.time,.slice ua x.reqs.length uc,.bool false] 66):=by rw[set_atB hz5];rfl
     have hbg:bz≠g:=by rw[<-HBZ.out];have:=HGL.out;omega
     have hg6:=grown_setL wr bz 2 (.slice aa R.length ac)
     have HGB:Hid ((wr.setCell ⟨bz,2,none⟩ (.slice aa R.length ac)).heap[g]?= _):=hid ((hg6.block _ (get_ltB HGA.out) (fun q=>hbg (by injection q with q;exact q.symm))).trans HGA.out)
     have n1:=cell_at HGB.out 0
     have u9:=cell_at hz6 9
     have zf6:=frozen_at hz6
     simp at n1 u9
     go_upto_region 30 with (go_at_call 35;refine(CQ.out _).mono ?_;rintro e wz ⟨rfl,hwz⟩;rw[<-hwz];clear hwz wz)
     try rw[hcq]
     clear hcq n0 n1 u9 zf zf6
     have HZW:Hid (((wr.setCell ⟨bz,2,none⟩ (.slice aa R.length ac)).setCell ⟨bz,9,none⟩ (.bool cq)).heap[bz]?=some (.cells #[.int .i64 t,.int .i64 b,.slice aa R.length ac,.bool x.fill,.int .i64 x.view,.int .i64 x.tv,.int .i64 x.ts,.int .i64 x.time,.slice ua x.reqs.length uc,.bool cq] 66)):=hid (by rw[set_atB hz6];rfl)
     have hg7:=hg6.trans (grown_setL (wr.setCell ⟨bz,2,none⟩ (.slice aa R.length ac)) bz 9 (.bool cq))
     have HGW:Hid (((wr.setCell ⟨bz,2,none⟩ (.slice aa R.length ac)).setCell ⟨bz,9,none⟩ (.bool cq)).heap[g]?= _):=hid ((hg7.block _ (get_ltB HGA.out) (fun q=>hbg (by injection q with q;exact q.symm))).trans HGA.out)
     have hbz3:W3.heap.size<=bz:=by rw[HBZ.out];exact Nat.le_refl _
     have hs3W:W3.heap.size<=wr.heap.size:=Nat.le_trans HB5.out.size HBR.out.size
     have hb3W:Below W3.heap.size W3 wr:=step HB5.out HBR.out
     have HB7:Hid (Below W3.heap.size W3 ((wr.setCell ⟨bz,2,none⟩ (.slice aa R.length ac)).setCell ⟨bz,9,none⟩ (.bool cq))):=hid (hb3W.grown hg7 hs3W (fun k hk=>by cases hk;exact hbz3))
     have HOR:Hid (((wr.setCell ⟨bz,2,none⟩ (.slice aa R.length ac)).setCell ⟨bz,9,none⟩ (.bool cq)).ownsRow W5.heap.size 3 1 (.slice aa R.length ac) R.length (flatX cellsI R)):=hid (rowset_own HOA.out hg7 (fun q=>by have:=(Rw.own_lt HOA.out _ q).1;have:=get_ltB HZ5.out;omega))
     have HS7:Hid (W3.heap.size<=W5.heap.size):=hid HB5.out.size
     clear hz5 hz6 hg6 hg7 hbz3 hs3W hb3W HGA HGB HOA HBR
     generalize ((wr.setCell ⟨bz,2,none⟩ (.slice aa R.length ac)).setCell ⟨bz,9,none⟩ (.bool cq))=W7 at HZW HGW HB7 HOR ⊢
     have HKS:Hid (∀W:World,W.heap[g]?=some (.cells #[.int .i64 s.n,.int .i64 s.done,.slice (some ⟨lb,0,none⟩) N lq] 42)->W.heap[bz]?=some (.cells #[.int .i64 t,.int .i64 b,.slice aa R.length ac,.bool x.fill,.int .i64 x.view,.int .i64 x.tv,.int .i64 x.ts,.int .i64 x.time,.slice ua x.reqs.length uc,.bool cq] 66)->W.cell? ⟨g,2,none⟩=some (.slice (some ⟨lb,0,none⟩) N lq)/\W.cell? ⟨bz,0,none⟩=some (.int .i64 t)/\W.cell? ⟨bz,1,none⟩=some (.int .i64 b)/\W.cell? ⟨bz,2,none⟩=some (.slice aa R.length ac)/\W.cell? ⟨bz,3,none⟩=some (.bool x.fill)/\W.cell? ⟨bz,4,none⟩=some (.int .i64 x.view)/\W.cell? ⟨bz,5,none⟩=some (.int .i64 x.tv)/\W.cell? ⟨bz,6,none⟩=some (.int .i64 x.ts)/\W.cell? ⟨bz,7,none⟩=some (.int .i64 x.time)/\W.cell? ⟨bz,8,none⟩=some (.slice ua x.reqs.length uc)/\W.cell? ⟨bz,9,none⟩=some (.bool cq)):=hid fun W h1 h2=>⟨cell_at h1 2,cell_at h2 0,cell_at h2 1,cell_at h2 2,cell_at h2 3,cell_at h2 4,cell_at h2 5,cell_at h2 6,cell_at h2 7,cell_at h2 8,cell_at h2 9⟩
     have HOL:=hid (Rw.own_below HO3.out HB7.out)
     have HLB:Hid (∃lcs,W7.heap[lb]?=some (.cells lcs 66)):=hid (by obtain⟨lcs,h⟩:=HLS.out;exact⟨lcs,cells_later h HB7.out⟩)
     have hlbz:lb<bz:=by rw[<-HBZ.out];exact HLL.out
     have hglb:g<lb:=by have:=HLM.out;have:=HGM.out;omega
     have HFIN:Hid (∀V,Below W7.heap.size W7 V->HasL (set10 V lb (k*10) (⟨t,b,R,aa,ac,x,ua,uc,cq⟩:SlotC)) g m ⟨s.n,s.done,valsL (M.set k (⟨t,b,R,aa,ac,x,ua,uc,cq⟩:SlotC))⟩):=hid fun V hb=>by
      have hgr:=set10_grown V lb (k*10) (⟨t,b,R,aa,ac,x,ua,uc,cq⟩:SlotC)
      have hVB:=step HB7.out hb
      have hlbV:V.heap[lb]?.map (fun o=>match o with | .cells _ t=>decide (t=66) | _=>false)=some true:=by
       obtain⟨lcs,h⟩:=HLB.out
       rw[cells_later h hb]
       simp
      refine⟨⟨.slice (some ⟨lb,0,none⟩) N lq,M.set k (⟨t,b,R,aa,ac,x,ua,uc,cq⟩:SlotC),(hgr.block _ (get_ltB (cells_later HGW.out hb)) (fun q=>by injection q with q;omega)).trans (cells_later HGW.out hb),rfl,?_,fun y hy=>?_⟩,HGM.out,Nat.le_trans HMW.out (Nat.le_trans hVB.size hgr.size)⟩
      ·have h1:=Rw.own_below HO3.out hVB
       rw[<-HN.out] at h1 ⊢
       rw[List.length_set]
       exact set10_own h1 k (by rw[HN.out];exact hkN) _
      ·rcases List.mem_or_eq_of_mem_set hy with q | q
       ·exact((HX3.out y q).later hVB).far hgr hlbV
       ·rw[q]
        refine OwnX.far (show OwnX m V _ from⟨Rw.own_below (own_lowerX HOR.out (Nat.le_trans HMW.out HS7.out)) hb,Rw.own_below HUV.out hVB⟩) hgr hlbV
     have HTFIN:Hid (∀V,Below W7.heap.size W7 V->Turns g m w (set10 V lb (k*10) (⟨t,b,R,aa,ac,x,ua,uc,cq⟩:SlotC))):=hid fun V hb=>((HT3.out.below (step HB7.out hb)).grow (set10_grown V lb (k*10) (⟨t,b,R,aa,ac,x,ua,uc,cq⟩:SlotC)) (.inr (.inr ⟨HLM.out,by obtain⟨lcs,h⟩:=HLB.out;exact⟨lcs,cells_later h hb⟩⟩)))
     go_upto_region 30 with fail
     refine wp_region_held_drew (S:=(fun W=>W.cell? ⟨g,2,none⟩=some (.slice (some ⟨lb,0,none⟩) N lq)/\W.cell? ⟨bz,0,none⟩=some (.int .i64 t)/\W.cell? ⟨bz,1,none⟩=some (.int .i64 b)/\W.cell? ⟨bz,2,none⟩=some (.slice aa R.length ac)/\W.cell? ⟨bz,3,none⟩=some (.bool x.fill)/\W.cell? ⟨bz,4,none⟩=some (.int .i64 x.view)/\W.cell? ⟨bz,5,none⟩=some (.int .i64 x.tv)/\W.cell? ⟨bz,6,none⟩=some (.int .i64 x.ts)/\W.cell? ⟨bz,7,none⟩=some (.int .i64 x.time)/\W.cell? ⟨bz,8,none⟩=some (.slice ua x.reqs.length uc)/\W.cell? ⟨bz,9,none⟩=some (.bool cq))) (by kernel_rfl) (HKS.out _ (cells_later HGW.out (Below.refl _ _).drew) (cells_later HZW.out (Below.refl _ _).drew)) (fun hHeld=>?_)
     obtain⟨V,hV⟩: ∃V,V=W7.drew:=⟨_,rfl⟩
     have HBV:Hid (Below W7.heap.size W7 V):=hid (by rw[hV];exact(Below.refl _ _).drew)
     rw[<-hV] at hHeld ⊢
     clear hV
     refine wpAnyH_take (i:=0) (v:=?_) rfl (by kernel_rfl) (by kernel_rfl) (by kernel_rfl) (fun _ _ _ h=>h) (Or.inl ⟨by rfl,?_⟩) (by assumption) ?_
     rotate_left
     ·intro w hSw;(try dsimp only at hSw);go_simp<;>with_reducible rfl
     try simp only[Act.put,getElem_toArray,getElem_cons_zero,setIfInBounds_toArray,set_cons_zero,set_cons_succ]
     refine wpAnyH_take (i:=1) (v:=?_) rfl (by kernel_rfl) (by kernel_rfl) (by kernel_rfl) (fun _ _ _ h=>h) (Or.inl ⟨by rfl,?_⟩) (by assumption) ?_
     rotate_left
     ·intro w hSw;(try dsimp only at hSw);go_simp<;>with_reducible rfl
     try simp only[Act.put,getElem_toArray,getElem_cons_succ,getElem_cons_zero,setIfInBounds_toArray,set_cons_zero,set_cons_succ]
     refine wpAnyH_take (i:=2) (v:=?_) rfl (by kernel_rfl) (by kernel_rfl) (by kernel_rfl) (fun _ _ _ h=>h) (Or.inl ⟨by rfl,?_⟩) (by assumption) ?_
     rotate_left
     ·intro w hSw;(try dsimp only at hSw);go_simp<;>with_reducible rfl
     try simp only[Act.put,getElem_toArray,getElem_cons_succ,getElem_cons_zero,setIfInBounds_toArray,set_cons_zero,set_cons_succ]
     refine wpAnyH_take (i:=3) (v:=?_) rfl (by kernel_rfl) (by kernel_rfl) (by kernel_rfl) (fun _ _ _ h=>h) (Or.inl ⟨by rfl,?_⟩) (by assumption) ?_
     rotate_left
     ·intro w hSw;(try dsimp only at hSw);go_simp<;>with_reducible rfl
     try simp only[Act.put,getElem_toArray,getElem_cons_succ,getElem_cons_zero,setIfInBounds_toArray,set_cons_zero,set_cons_succ]
     refine wpAnyH_take (i:=4) (v:=?_) rfl (by kernel_rfl) (by kernel_rfl) (by kernel_rfl) (fun _ _ _ h=>h) (Or.inl ⟨by rfl,?_⟩) (by assumption) ?_
     rotate_left
     ·intro w hSw;(try dsimp only at hSw);go_simp<;>with_reducible rfl
     try simp only[Act.put,getElem_toArray,getElem_cons_succ,getElem_cons_zero,setIfInBounds_toArray,set_cons_zero,set_cons_succ]
     refine wpAnyH_take (i:=5) (v:=?_) rfl (by kernel_rfl) (by kernel_rfl) (by kernel_rfl) (fun _ _ _ h=>h) (Or.inl ⟨by rfl,?_⟩) (by assumption) ?_
     rotate_left
     ·intro w hSw;(try dsimp only at hSw);go_simp<;>with_reducible rfl
     try simp only[Act.put,getElem_toArray,getElem_cons_succ,getElem_cons_zero,setIfInBounds_toArray,set_cons_zero,set_cons_succ]
     refine wpAnyH_take (i:=6) (v:=?_) rfl (by kernel_rfl) (by kernel_rfl) (by kernel_rfl) (fun _ _ _ h=>h) (Or.inl ⟨by rfl,?_⟩) (by assumption) ?_
     rotate_left
     ·intro w hSw;(try dsimp only at hSw);go_simp<;>with_reducible rfl
     try simp only[Act.put,getElem_toArray,getElem_cons_succ,getElem_cons_zero,setIfInBounds_toArray,set_cons_zero,set_cons_succ]
     have hor:=Rw.own_below HOL.out HBV.out
     have hx:=fun j (hj:j<10)=>(show ∃u,V.cell? ⟨lb,k*10+j,none⟩=some u from⟨_,(hor.cellAt (k*10+j) (by omega)).trans (List.getElem?_eq_getElem (by rw[flatX_length cellsS_length,HN.out];omega))⟩)
     have lf: ∀j,V.frozen? ⟨lb,j,none⟩=false:=fun j=>by obtain⟨lcs,hlc⟩:=HLB.out;exact frozen_at (cells_later hlc HBV.out) j
     obtain⟨o0,m0⟩: ∃u,V.cell? ⟨lb,k*10,none⟩=some u:=hx 0 (by omega)
     obtain⟨o1,m1⟩:=hx 1 (by omega)
     obtain⟨o2,m2⟩:=hx 2 (by omega)
     obtain⟨o3,m3⟩:=hx 3 (by omega)
     obtain⟨o4,m4⟩:=hx 4 (by omega)
     obtain⟨o5,m5⟩:=hx 5 (by omega)
     obtain⟨o6,m6⟩:=hx 6 (by omega)
     obtain⟨o7,m7⟩:=hx 7 (by omega)
     obtain⟨o8,m8⟩:=hx 8 (by omega)
     obtain⟨o9,m9⟩:=hx 9 (by omega)
     clear hx hor
     have HF:Hid (HasL (set10 V lb (k*10) (⟨t,b,R,aa,ac,x,ua,uc,cq⟩:SlotC)) g m ⟨s.n,s.done,valsL (M.set k (⟨t,b,R,aa,ac,x,ua,uc,cq⟩:SlotC))⟩):=hid (HFIN.out V HBV.out)
     have HT:Hid (Turns g m w (set10 V lb (k*10) (⟨t,b,R,aa,ac,x,ua,uc,cq⟩:SlotC))):=hid (HTFIN.out V HBV.out)
     have hgw:(set10 V lb (k*10) (⟨t,b,R,aa,ac,x,ua,uc,cq⟩:SlotC)).heap[g]?= _:=((set10_grown V lb (k*10) (⟨t,b,R,aa,ac,x,ua,uc,cq⟩:SlotC)).block _ (get_ltB (cells_later HGW.out HBV.out)) (fun q=>by injection q with q;omega)).trans (cells_later HGW.out HBV.out)
     have hzw:(set10 V lb (k*10) (⟨t,b,R,aa,ac,x,ua,uc,cq⟩:SlotC)).heap[bz]?= _:=((set10_grown V lb (k*10) (⟨t,b,R,aa,ac,x,ua,uc,cq⟩:SlotC)).block _ (get_ltB (cells_later HZW.out HBV.out)) (fun q=>by injection q with q;omega)).trans (cells_later HZW.out HBV.out)
     have HSF:=hid (HKS.out _ hgw hzw)
     clear hgw hzw
     unfold set10 SlotC.wv SlotC.uv at HF HT HSF
     dsimp only at HF HT HSF
     refine wpAnyH_ready (rs:= [7]) (by kernel_rfl) (by simp) ?_
     refine AllReadyH.cons rfl (fun K hK=>?_) AllReadyH.nil
     go_simp
     refine hK.out _ _ HSF.out (fun hHeld=>?_)
     clear hK K
     try simp only[Act.put,getElem_toArray,getElem_cons_succ,getElem_cons_zero,setIfInBounds_toArray,set_cons_zero,set_cons_succ]
     refine wpAnyH_done (by kernel_rfl) ?_ _
     clear hHeld m0 m1 m2 m3 m4 m5 m6 m7 m8 m9
     go_wp2_with fail
     go_ret
     refine⟨rfl,?_,HT.out⟩
     have hfin:=HF.out
     rw[show putS (nextS s.n ⟨t,b,[],x,false⟩ f b x) s.l=valsL (M.set k (⟨t,b,R,aa,ac,x,ua,uc,cq⟩:SlotC)) from by
      rw[valsL_set,HV3.out]
      exact(HPUT.out _ (by rw[HRA.out,<-HCQ.out,HRA.out];rfl)).trans rfl]
     exact hfin
end Ln
end Go.Proofs.Ytbcnednhfmchpaa
