/- Texts laid together by program. -/
import Derived.Test.YtclcgkpfcogcdaaGreatQ30
import Derived.Test.YtclcgkpfcogcdaaGreatQ31
import Derived.Deep.RegionHeld3
import Derived.Lib.QuietBelow
import Derived.BigQuiet
/- Contract: package auto's Advance (made by tools/gen_aucc.py). -/
set_option linter.unusedVariables false
set_option maxRecDepth 8000
set_option linter.unusedSimpArgs false
namespace Go.Proofs.YtclcgkpfcogcdaaGreat
open Lib (hid)
open List (getElem_toArray getElem_cons_succ getElem_cons_zero setIfInBounds_toArray set_cons_zero set_cons_succ)
open Go.RowKit Go.Shelf
namespace Cm

theorem BoxS.put {w:World} {b:Nat} {x:StC} (h:BoxS w b x) (t n k:Int) (S:List SesV) (sa:Option Addr) (sc:Nat) (K:List LockC) (ka:Option Addr) (kc:Nat) (M:List MemC) (ma:Option Addr) (mc:Nat):
  BoxS ((((((w.setCell ⟨b,0,none⟩ (.int .i64 t)).setCell ⟨b,1,none⟩ (.int .i64 n)).setCell ⟨b,2,none⟩ (.int .i64 k)).setCell ⟨b,3,none⟩ (.slice sa S.length sc)).setCell ⟨b,4,none⟩ (.slice ka K.length kc)).setCell ⟨b,5,none⟩ (.slice ma M.length mc)) b ⟨t,n,k,S,sa,sc,K,ka,kc,M,ma,mc⟩:=
 (((((h.set0 t).set1 n).set2 k).set3 S sa sc).set4 K ka kc).set5 M ma mc
theorem up_len: ∀(l:List Int) (lo hi:Int),l.Pairwise (· < ·)->(∀x∈l,lo<=x/\x<hi)->lo<=hi->(l.length:Int)<=hi - lo
 | [],lo,hi,_,_,h=>by simp;omega
 | x::l,lo,hi,hp,hb,h=>by
  obtain⟨p1,p2⟩:=List.pairwise_cons.1 hp
  have hx:=hb x List.mem_cons_self
  have:=up_len l (x+1) hi p2 (fun y hy=>⟨by have:=p1 y hy;omega,(hb y (List.mem_cons_of_mem _ hy)).2⟩) (by omega)
  rw[List.length_cons]
  omega
theorem Rm.len8 {l:List AnsV} (h:Rm l):l.length<=8:=by
 have:=up_len (l.map (·.client)) 0 8 (List.pairwise_map.2 h.up) (fun x hx=>by
  obtain⟨m,hm,rfl⟩:=List.mem_map.1 hx
  have:=(mayA_bounds m (h.may m hm)).1
  omega) (by omega)
 rw[List.length_map] at this
 omega
theorem Rst.small {x:StC} (h:Rst x.v):Small x:=by
 obtain⟨s1,s2⟩:=good_small (L:=x.K) h.good
 have h1:=((rightS_iff x.S).1 h.ses).1
 have h3:(valsM x.M).length <=8:=Rm.len8 (l:=valsM x.M) h.memos
 rw[valsM_length] at h3
 exact⟨by omega,by omega,fun k hk=>by have:=s2 k hk;omega,by omega,fun m hm=>Rm.small (L:=x.M) h.memos m hm,h.good.rk.names,⟨h.good.pos,h.token⟩⟩
theorem Rst.tok {x:StC} (h:Rst x.v):x.token<2305843009213694000:=by
 have:x.token<=2305843009213693952:=h.token
 omega
theorem Rst.rens {x:StC} (h:Rst x.v): ∀s∈x.S,highF s.ren 0=true:=fun s hs=>by
 have h1:=(((rightS_iff x.S).1 h.ses).2.one s hs)
 unfold oneS at h1
 simp only[Bool.and_eq_true] at h1
 exact h1.2
set_option maxHeartbeats 8000000 in
theorem AutoAdv_any (x:StC) (t d:Int) (w:World) (h:RdSt w x) (hs:Small x) (hR:Rst x.v):Calls Tryz.prog 18 #[stVal x,.int .i64 t,.int .i64 d] w (GetsSt (advA x.v t d) x w):=by
 obtain⟨W1,hW1⟩: ∃W1,W1=w.alloc (.cells #[.int .i64 x.time,.int .i64 x.num,.int .i64 x.token,x.sv,x.kv,x.mv] 26):=⟨_,rfl⟩
 have hb1:Below w.heap.size w W1:=by rw[hW1];exact newAlloc _ _
 have hB1:BoxS W1 w.heap.size x:=by rw[hW1];exact BoxS.new w x _
 have hs1:W1.heap.size=w.heap.size+1:=by rw[hW1];simp
 obtain⟨W2,hW2⟩: ∃W2,W2=W1.alloc (.cells #[.int .i64 0,.int .i64 0,.int .i64 0,.slice none 0 0,.slice none 0 0,.slice none 0 0] 26):=⟨_,rfl⟩
 have hb2:Below W1.heap.size W1 W2:=by rw[hW2];exact newAlloc _ _
 have hZ:BoxS W2 (w.heap.size+1) zeroC10:=by rw[<-hs1,hW2];exact BoxS.new W1 zeroC10 _
 have HX0:=hid (hB1.later hb2)
 have HZ0:=hid hZ
 have HB0:=hid (step hb1 hb2)
 have hs2:W2.heap.size=w.heap.size+2:=by rw[hW2];simp [hs1]
 have HRD:Hid (∀W,Below w.heap.size w W->RdSt W x):=hid fun W hb=>h.later hb
 have HSM:=hid hs
 obtain⟨HI,hHI'⟩: ∃HI,W2.heap.size=HI:=⟨_,rfl⟩
 obtain⟨nb,hnb⟩: ∃nb,w.heap.size=nb:=⟨_,rfl⟩
 have HNB:=hid hnb
 have hlt1:nb+1<HI:=by omega
 have hHI:w.heap.size<=HI:=by omega
 have hsz0:HI<=W2.heap.size:=Nat.le_of_eq hHI'.symm
 rw[hnb] at HX0 HZ0
 clear hnb h hs hb1 hb2 hB1 hZ hs1 hs2 hHI'
 have KCP:=hid (fun W (hb:Below w.heap.size w W)=>CopyA_any x W (HRD.out W hb) HSM.out)
 obtain⟨T,hT⟩: ∃T,timeA x.v t=T:=⟨_,rfl⟩
 obtain⟨D,hD⟩: ∃D,leaseA d=D:=⟨_,rfl⟩
 have HADV:Hid (advA x.v t d=dropA ({ x with time:=T } :StC).v (dueS x.S T D)):=hid (by rw[<-hT,<-hD];rfl)
 have KU:=hid (fun W v (hv:RdS W v x.S)=>SesDue_any v x.S T D W hv HSM.out.s hR.rens)
 have HRR:=hid hR
 obtain⟨R,hRV⟩: ∃R,advA x.v t d=R:=⟨_,rfl⟩
 rw[hRV] at HADV ⊢
 clear hRV hR
 have hTT:T=if x.time<t/\t<=2305843009213693952 then t else x.time:=by rw[<-hT];rfl
 have hDD:D=if d<1 then 1 else d:=by rw[<-hD];rfl
 have HGL:Hid ((dueS x.S T D).length <=1000):=hid (by
  have:=HSM.out.s
  unfold dueS
  split
  ·exact Nat.zero_le _
  ·rw[List.length_map]
   exact Nat.le_trans (List.length_filter_le _ _) this)
 generalize dueS x.S T D=G at HADV KU HGL
 have HDM:Hid ((if d<1 then (1:Int) else d)=D):=hid hDD.symm
 have HTT:=hid hTT
 clear hDD hTT hT hD
 obtain⟨xt,xn,xk,xS,sa,sc,xK,ka,kc,xM,ma,mc⟩:=x
 unfold stVal
 simp only[StC.sv,StC.kv,StC.mv] at hW1 KU ⊢
 obtain⟨c0,c1,c2,c3,c4,c5,cf⟩:=HX0.out
 simp only[StC.sv,StC.kv,StC.mv] at c0 c1 c2 c3 c4 c5
 unfold stVal at KCP
 simp only[StC.sv,StC.kv,StC.mv] at KCP
 dsimp only at HTT HADV
 go_enter Tryz.func18,Tryz.ntmps18
 go_upto_region 1 with fail
 rw[<-hW1,<-hW2]
 rw[HNB.out]
 clear hW1 hW2
 obtain⟨z0,z1,z2,z3,z4,z5,zf⟩:=HZ0.out
 clear z0 z1 z2 z3 z4 z5 zf
 go_upto_region 2 with (go_at_call 56;refine(KCP.out _ HB0.out).mono ?_;rintro e w3 ⟨⟨yt,yn,yk,yS,ya,yc,yK,yka,ykc,yM,yma,ymc⟩,he,hv3,hf3,hb3⟩;unfold stVal at he;simp only[StC.sv,StC.kv,StC.mv] at he;subst he;have HV3:=hid hv3;have HF3:=hid hf3;have HB3:=hid hb3;obtain⟨d0,d1,d2,d3,d4,d5,df⟩:=HX0.out.later hb3;simp only[StC.sv,StC.kv,StC.mv] at d0 d1 d2 d3 d4 d5;clear hv3 hf3 hb3)
 have hX4:=(HX0.out.later HB3.out).put yt yn yk yS ya yc yK yka ykc yM yma ymc
 have hZ4:=(HZ0.out.later HB3.out).other6 (show nb≠nb+1 by omega) (.int .i64 yt) (.int .i64 yn) (.int .i64 yk) (.slice ya yS.length yc) (.slice yka yK.length ykc) (.slice yma yM.length ymc)
 have hF4:=(HF3.out.lower hsz0).set6 (show nb<HI by omega) (.int .i64 yt) (.int .i64 yn) (.int .i64 yk) (.slice ya yS.length yc) (.slice yka yK.length ykc) (.slice yma yM.length ymc)
 have hB4:Below w.heap.size w _:=below_set6 (step HB0.out HB3.out) nb (Nat.le_of_eq HNB.out) (.int .i64 yt) (.int .i64 yn) (.int .i64 yk) (.slice ya yS.length yc) (.slice yka yK.length ykc) (.slice yma yM.length ymc)
 obtain⟨W4,hW4⟩: ∃W4,W4=(((((w3.setCell ⟨nb,0,none⟩ (.int .i64 yt)).setCell ⟨nb,1,none⟩ (.int .i64 yn)).setCell ⟨nb,2,none⟩ (.int .i64 yk)).setCell ⟨nb,3,none⟩ (.slice ya yS.length yc)).setCell ⟨nb,4,none⟩ (.slice yka yK.length ykc)).setCell ⟨nb,5,none⟩ (.slice yma yM.length ymc):=⟨_,rfl⟩
 rw[<-hW4] at hX4 hZ4 hF4 hB4 ⊢
 have hs4:HI<=W4.heap.size:=by rw[hW4];simpa using Nat.le_trans hsz0 HB3.out.size
 have hyt:yt=xt:=congrArg StV.time HV3.out
 have hyS:yS=xS:=congrArg StV.ses HV3.out
 have HX4:=hid hX4
 have HZ4:=hid hZ4
 have HF4:=hid hF4
 have HB4:=hid hB4
 have HRY:Hid (Rst (StC.v ⟨yt,yn,yk,yS,ya,yc,yK,yka,ykc,yM,yma,ymc⟩)):=hid (by rw[HV3.out];exact HRR.out)
 have HADV2:Hid (R=dropA ({ (⟨yt,yn,yk,yS,ya,yc,yK,yka,ykc,yM,yma,ymc⟩:StC) with time:=T } :StC).v G):=hid (by
  rw[HADV.out]
  congr 1
  have hv:=HV3.out
  unfold StC.v at hv ⊢
  injection hv with v1 v2 v3 v4 v5 v6
  dsimp only at v1 v2 v3 v4 v5 v6 ⊢
  rw[v2,v3,v4,v5,v6])
 subst hyt hyS
 clear hW4 hX4 hZ4 hF4 hB4 HX0 HZ0 c0 c1 c2 c3 c4 c5 cf d0 d1 d2 d3 d4 d5 df KCP HF3
 obtain⟨c0,c1,c2,c3,c4,c5,cf⟩:=HX4.out
 simp only[StC.sv,StC.kv,StC.mv] at c0 c1 c2 c3 c4 c5
 by_cases e:yt<t/\t<=2305843009213693952
 case' pos=>
  have hT:=HTT.out
  rw[if_pos e] at hT
  have d1:decide (yt<t)=true:=decide_eq_true e.1
  have d2:decide (t<=2305843009213693952)=true:=decide_eq_true e.2
  have HX5:=hid (HX4.out.set0 t)
  have HZ5:=hid (HZ4.out.other (Nat.ne_of_lt (Nat.lt_succ_self nb)) 0 (.int .i64 t))
  have HF5:=hid (HF4.out.setBelow (show nb<HI by omega) 0 (.int .i64 t))
  have HB5:Hid (Below w.heap.size w (W4.setCell ⟨nb,0,none⟩ (.int .i64 t))):=hid (HB4.out.setCell (Nat.le_of_eq HNB.out) _)
  have hs5:HI<=(W4.setCell ⟨nb,0,none⟩ (.int .i64 t)).heap.size :=by simpa using hs4
  have HTE:=hid hT
  clear e hT
  go_upto_region 4 with fail
  obtain⟨W5,hW5⟩: ∃W5,W5=W4.setCell ⟨nb,0,none⟩ (.int .i64 t):=⟨_,rfl⟩
  rw[<-hW5] at HX5 HZ5 HF5 HB5 hs5 ⊢
  clear hW5
  rw[<-HTE.out] at HX5
 case' neg=>
  have hT:=HTT.out
  rw[if_neg e] at hT
  have hor:decide (yt<t)=false\/(decide (yt<t)=true/\decide (t<=2305843009213693952)=false):=by
   by_cases q:yt<t
   ·exact .inr ⟨decide_eq_true q,decide_eq_false (fun p=>e ⟨q,p⟩)⟩
   ·exact .inl (decide_eq_false q)
  have HTE:=hid hT
  clear e hT
  rcases hor with d1 | ⟨d1,d2⟩
  all_goals
   go_upto_region 4 with fail
   obtain⟨W5,hW5⟩: ∃W5,W5=W4:=⟨_,rfl⟩
   have HX5:Hid (BoxS W5 nb ⟨T,yn,yk,yS,ya,yc,yK,yka,ykc,yM,yma,ymc⟩):=hid (by rw[hW5,HTE.out];exact HX4.out)
   have HZ5:Hid (BoxS W5 (nb+1) zeroC10):=hid (by rw[hW5];exact HZ4.out)
   have HF5:Hid (FromS HI W5 ⟨yt,xn,xk,yS,sa,sc,xK,ka,kc,xM,ma,mc⟩ ⟨yt,yn,yk,yS,ya,yc,yK,yka,ykc,yM,yma,ymc⟩):=hid (by rw[hW5];exact HF4.out)
   have HB5:Hid (Below w.heap.size w W5):=hid (by rw[hW5];exact HB4.out)
   have hs5:HI<=W5.heap.size:=by rw[hW5];exact hs4
   rw[<-hW5]
   clear hW5
 all_goals
  clear c0 c1 c2 c3 c4 c5 cf HX4 HZ4
  obtain⟨c0,c1,c2,c3,c4,c5,cf⟩:=HX5.out
  simp only[StC.sv,StC.kv,StC.mv] at c0 c1 c2 c3 c4 c5
  have HRDY:Hid (∀W,Below W5.heap.size W5 W->RdSt W ⟨yt,yn,yk,yS,ya,yc,yK,yka,ykc,yM,yma,ymc⟩):=hid fun W hb=>(HF5.out.later hb).rd (HRD.out W (step HB5.out hb))
  have KU5:=hid (fun W (hb:Below W5.heap.size W5 W)=>KU.out W (.slice ya yS.length yc) (HRDY.out W hb).s)
  have KD5:=hid (fun W u (hb:Below W5.heap.size W5 W) (hG:RdI W u G)=>AutoWithout_any ⟨T,yn,yk,yS,ya,yc,yK,yka,ykc,yM,yma,ymc⟩ u G W ⟨(HRDY.out W hb).s,(HRDY.out W hb).k,(HRDY.out W hb).m⟩ ⟨HRY.out.small.s,HRY.out.small.k,HRY.out.small.l,HRY.out.small.m,HRY.out.small.h,HRY.out.small.n,HRY.out.small.t⟩ HRY.out.good HRY.out.tok hG HGL.out)
  unfold stVal at KD5
  simp only[StC.sv,StC.kv,StC.mv] at KD5
  have hdm:=HDM.out
  by_cases hd1:d<1
  case' pos=>
   rw[if_pos hd1] at hdm
   have hle:d<=1:=by omega
  case' neg=>
   rw[if_neg hd1] at hdm
   have hle:1<=d:=by omega
  all_goals
   subst hdm
   refine wp_region_held_drew (S:=(fun W=>(W.cell? ⟨nb,0,none⟩=some (.int .i64 T)/\W.cell? ⟨nb,1,none⟩=some (.int .i64 yn)/\W.cell? ⟨nb,2,none⟩=some (.int .i64 yk))/\W.cell? ⟨nb,3,none⟩=some (.slice ya yS.length yc)/\W.cell? ⟨nb,4,none⟩=some (.slice yka yK.length ykc)/\W.cell? ⟨nb,5,none⟩=some (.slice yma yM.length ymc))) (by kernel_rfl) ((HX5.out.later (Below.refl _ _).drew).cells) (fun hHeld=>?_)
   refine wpAnyH_take (i:=0) (v:=?_) rfl (by kernel_rfl) (by kernel_rfl) (by kernel_rfl) (fun _ _ _ h=>h) (Or.inl ⟨by rfl,?_⟩) (by assumption) ?_
   rotate_left
   ·intro w hSw;(try dsimp only at hSw);go_simp<;>with_reducible rfl
   try simp only[Act.put,getElem_toArray,getElem_cons_zero,setIfInBounds_toArray,set_cons_zero,set_cons_succ]
   refine wpAnyH_take (i:=1) (v:=?_) rfl (by kernel_rfl) (by kernel_rfl) (by kernel_rfl) (fun _ _ _ h=>h) (Or.inl ⟨by rfl,?_⟩) (by assumption) ?_
   rotate_left
   ·intro w hSw;(try dsimp only at hSw);go_simp<;>with_reducible rfl
   try simp only[Act.put,getElem_toArray,getElem_cons_succ,getElem_cons_zero,setIfInBounds_toArray,set_cons_zero,set_cons_succ]
   refine wpAnyH_take (i:=2) (v:=?_) rfl (by kernel_rfl) (by kernel_rfl) (by kernel_rfl) (fun _ _ _ h=>h) (Or.inl ⟨by rfl,?_⟩) (by assumption) ?_
   rotate_left
   ·intro w hSw;(try dsimp only at hSw);go_simp<;>with_reducible rfl
   try simp only[Act.put,getElem_toArray,getElem_cons_succ,getElem_cons_zero,setIfInBounds_toArray,set_cons_zero,set_cons_succ]
   refine wpAnyH_take (i:=3) (v:=?_) rfl (by kernel_rfl) (by kernel_rfl) (by kernel_rfl) (fun _ _ _ h=>h) (Or.inl ⟨by rfl,?_⟩) (by assumption) ?_
   rotate_left
   ·intro w hSw;(try dsimp only at hSw);go_simp<;>with_reducible rfl
   try simp only[Act.put,getElem_toArray,getElem_cons_succ,getElem_cons_zero,setIfInBounds_toArray,set_cons_zero,set_cons_succ]
   refine wpAnyH_take (i:=4) (v:=?_) rfl (by kernel_rfl) (by kernel_rfl) (by kernel_rfl) (fun _ _ _ h=>h) (Or.inl ⟨by rfl,?_⟩) (by assumption) ?_
   rotate_left
   ·intro w hSw;(try dsimp only at hSw);go_simp<;>with_reducible rfl
   try simp only[Act.put,getElem_toArray,getElem_cons_succ,getElem_cons_zero,setIfInBounds_toArray,set_cons_zero,set_cons_succ]
   refine wpAnyH_take (i:=5) (v:=?_) rfl (by kernel_rfl) (by kernel_rfl) (by kernel_rfl) (fun _ _ _ h=>h) (Or.inl ⟨by rfl,?_⟩) (by assumption) ?_
   rotate_left
   ·intro w hSw;(try dsimp only at hSw);go_simp<;>with_reducible rfl
   try simp only[Act.put,getElem_toArray,getElem_cons_succ,getElem_cons_zero,setIfInBounds_toArray,set_cons_zero,set_cons_succ]
   refine wpAnyH_take (i:=6) (v:=?_) rfl (by kernel_rfl) (by kernel_rfl) (by kernel_rfl) (fun _ _ _ h=>h) (Or.inl ⟨by rfl,?_⟩) (by assumption) ?_
   rotate_left
   ·intro w hSw;(try dsimp only at hSw);go_simp<;>with_reducible rfl
   try simp only[Act.put,getElem_toArray,getElem_cons_succ,getElem_cons_zero,setIfInBounds_toArray,set_cons_zero,set_cons_succ]
   refine wpAnyH_ready (rs:= [7]) (by kernel_rfl) (by simp) ?_
   refine AllReadyH.cons rfl (fun K hK=>?_) AllReadyH.nil
   go_simp
   go_at_call 70
   refine(KU5.out _ (Below.refl _ W5).drew).mono ?_
   rintro e w6 ⟨v6,rfl,ho6,hb6⟩
   have HO6:=hid ho6
   obtain⟨a6,p6,rfl⟩:=Rw.own_form ho6
   have HB6:Hid (Below W5.heap.size W5 w6):=hid (step (Below.refl W5.heap.size W5).drew hb6)
   have KD6:=hid (KD5.out w6 _ HB6.out (RdX.own cellsI_length HO6.out))
   clear ho6 hb6
   refine hK.out _ _ ((HX5.out.later HB6.out).cells) (fun hHeld=>?_)
   clear hK K
   try simp only[Act.put,getElem_toArray,getElem_cons_succ,getElem_cons_zero,setIfInBounds_toArray,set_cons_zero,set_cons_succ]
   refine wpAnyH_ready (rs:= [8]) (by kernel_rfl) (by simp) ?_
   refine AllReadyH.cons rfl (fun K hK=>?_) AllReadyH.nil
   go_simp
   go_at_call 69
   refine KD6.out.mono ?_
   rintro e w7 ⟨⟨zt,zn,zk,zS,za,zc,zK,zka,zkc,zM,zma,zmc⟩,he,hv7,hf7,hb7⟩
   unfold stVal at he
   simp only[StC.sv,StC.kv,StC.mv] at he
   subst he
   have HV7:=hid hv7
   have HF7:=hid hf7
   have HB67:=hid hb7
   have HB7:Hid (Below W5.heap.size W5 w7):=hid (step HB6.out hb7)
   obtain⟨z0,z1,z2,z3,z4,z5,zf⟩:=HZ5.out.later HB7.out
   simp only[zeroC10,StC.sv,StC.kv,StC.mv,List.length_nil] at z0 z1 z2 z3 z4 z5
   clear hv7 hf7 hb7
   refine hK.out _ _ ((HX5.out.later HB7.out).cells) (fun hHeld=>?_)
   clear hK K
   try simp only[Act.put,getElem_toArray,getElem_cons_succ,getElem_cons_zero,setIfInBounds_toArray,set_cons_zero,set_cons_succ]
   refine wpAnyH_ready (rs:= [9]) (by kernel_rfl) (by simp) ?_
   refine AllReadyH.cons rfl (fun K hK=>?_) AllReadyH.nil
   go_simp
   refine hK.out _ _ (((HX5.out.later HB7.out).other6 (Nat.succ_ne_self nb) _ _ _ _ _ _).cells) (fun hHeld=>?_)
   clear hK K
   try simp only[Act.put,getElem_toArray,getElem_cons_succ,getElem_cons_zero,setIfInBounds_toArray,set_cons_zero,set_cons_succ]
   refine wpAnyH_done (by kernel_rfl) ?_ _
   have HE:=hid (((HF7.out.set6 (show nb+1<w6.heap.size by have:=HB6.out.size;omega) (.int .i64 zt) (.int .i64 zn) (.int .i64 zk) (.slice za zS.length zc) (.slice zka zK.length zkc) (.slice zma zM.length zmc))).lower (show w.heap.size<=w6.heap.size from(step HB5.out HB6.out).size))
   have HBE:=hid (below_set6 (step HB5.out HB7.out) (nb+1) (by have:=HNB.out;omega) (.int .i64 zt) (.int .i64 zn) (.int .i64 zk) (.slice za zS.length zc) (.slice zka zK.length zkc) (.slice zma zM.length zmc))
   have HFE:=hid (((HF5.out.later HB7.out).set6 hlt1 (.int .i64 zt) (.int .i64 zn) (.int .i64 zk) (.slice za zS.length zc) (.slice zka zK.length zkc) (.slice zma zM.length zmc)).lower hHI)
   have HVE:=hid (HV7.out.trans HADV2.out.symm)
   go_wp2
   refine bodyPost_ret (by simp [results,Tryz.results18,go_sem,z0,z1,z2,z3,z4,z5,zf]<;>rfl) rfl ?_
   exact⟨⟨zt,zn,zk,zS,za,zc,zK,zka,zkc,zM,zma,zmc⟩,rfl,HVE.out,⟨(HFE.out.trans ⟨HE.out.s,HE.out.k,HE.out.m⟩).s,(HFE.out.trans ⟨HE.out.s,HE.out.k,HE.out.m⟩).k,(HFE.out.trans ⟨HE.out.s,HE.out.k,HE.out.m⟩).m⟩,HBE.out⟩
end Cm
end Go.Proofs.YtclcgkpfcogcdaaGreat

/- Contracts: package lock's isRight, Right. -/
set_option linter.unusedVariables false
set_option maxRecDepth 8000
set_option linter.unusedSimpArgs false
namespace Go.Proofs.YtclcgkpfcogcdaaGreat
open Lib (hid)
open Go.RowKit Go.Shelf
namespace Cm

theorem oneK_split (n:List UInt8) (h t:Int) (l:List Int):oneK ⟨n,h,t,l⟩=(nameF n && (decide (0<=h) && (decide (h<8) && (decide (1<=t) && (decide (t<=2305843009213693952) && (rightL l && !hasL l h)))))):=by
 unfold oneK clientF highF
 simp only[Bool.and_assoc]
set_option maxHeartbeats 4000000 in
theorem isRightK_any (x:LockC) (w:World) (hl:RdI w x.lv x.line):Calls Tryz.prog 94 #[lockVal x] w (SaysB (oneK x.val) w):=by
 obtain⟨xn,xh,xt,xl,xa,xc⟩:=x
 unfold LockC.val
 unfold lockVal
 unfold LockC.lv at hl ⊢
 dsimp only at hl ⊢
 rw[oneK_split]
 have hb1:=newAlloc w (.cells #[.string (bstr xn),.int .i64 xh,.int .i64 xt,.slice xa xl.length xc] 60)
 obtain⟨c0,c1,c2,c3⟩:=box4 (Below.refl _ (w.alloc (.cells #[.string (bstr xn),.int .i64 xh,.int .i64 xt,.slice xa xl.length xc] 60)))
 obtain⟨W1,hW1⟩: ∃W1,W1=w.alloc (.cells #[.string (bstr xn),.int .i64 xh,.int .i64 xt,.slice xa xl.length xc] 60):=⟨_,rfl⟩
 rw[<-hW1] at hb1 c0 c1 c2 c3
 have HB:=hid hb1
 have KN:=hid (fun w=>Name_any xn w)
 have KR:=hid (LineRight_any (.slice xa xl.length xc) xl W1 (hl.later hb1))
 have KH:=hid (fun w2 (hb:Below W1.heap.size W1 w2)=>Contains_num (.slice xa xl.length xc) xl xh w2 (hl.later (step hb1 hb)))
 have HQ:Hid (∀w',Below W1.heap.size W1 w'->w'.cell? ⟨w.heap.size,1,none⟩=some (.int .i64 xh)/\w'.cell? ⟨w.heap.size,3,none⟩=some (.slice xa xl.length xc)):=hid fun w' hb=>⟨(hb.cell (lt_of_cell c1)).trans c1,(hb.cell (lt_of_cell c3)).trans c3⟩
 clear hl hb1
 generalize xl.length=XN at*
 generalize rightL xl=R at*
 generalize hasL xl xh=H at*
 cases n1:nameF xn with
 | false=>
  simp only[n1] at KN
  rw[Bool.false_and]
  go_enter Tryz.func94,Tryz.ntmps94
  go_upto_region 1 with fail
  rw[<-hW1]
  clear hW1
  go_wp2_with (go_at_call 153;refine(KN.out _).mono ?_;rintro e w2 ⟨rfl,rfl⟩)
  go_ret
  exact⟨rfl,HB.out⟩
 | true=>
 simp only[n1] at KN
 rw[Bool.true_and]
 by_cases e2:0<=xh
 case neg=>
  have d2:decide (0<=xh)=false:=decide_eq_false e2
  rw[d2,Bool.false_and]
  clear e2
  go_enter Tryz.func94,Tryz.ntmps94
  go_upto_region 1 with fail
  rw[<-hW1]
  clear hW1
  go_wp2_with (go_at_call 153;refine(KN.out _).mono ?_;rintro e w2 ⟨rfl,rfl⟩)
  go_ret
  exact⟨rfl,HB.out⟩
 have d2:decide (0<=xh)=true:=decide_eq_true e2
 rw[d2,Bool.true_and]
 clear e2
 by_cases e3:xh<8
 case neg=>
  have d3:decide (xh<8)=false:=decide_eq_false e3
  rw[d3,Bool.false_and]
  clear e3
  go_enter Tryz.func94,Tryz.ntmps94
  go_upto_region 1 with fail
  rw[<-hW1]
  clear hW1
  go_wp2_with (go_at_call 153;refine(KN.out _).mono ?_;rintro e w2 ⟨rfl,rfl⟩)
  go_ret
  exact⟨rfl,HB.out⟩
 have d3:decide (xh<8)=true:=decide_eq_true e3
 rw[d3,Bool.true_and]
 clear e3
 by_cases e4:1<=xt
 case neg=>
  have d4:decide (1<=xt)=false:=decide_eq_false e4
  rw[d4,Bool.false_and]
  clear e4
  go_enter Tryz.func94,Tryz.ntmps94
  go_upto_region 1 with fail
  rw[<-hW1]
  clear hW1
  go_wp2_with (go_at_call 153;refine(KN.out _).mono ?_;rintro e w2 ⟨rfl,rfl⟩)
  go_ret
  exact⟨rfl,HB.out⟩
 have d4:decide (1<=xt)=true:=decide_eq_true e4
 rw[d4,Bool.true_and]
 clear e4
 by_cases e5:xt<=2305843009213693952
 case neg=>
  have d5:decide (xt<=2305843009213693952)=false:=decide_eq_false e5
  rw[d5,Bool.false_and]
  clear e5
  go_enter Tryz.func94,Tryz.ntmps94
  go_upto_region 1 with fail
  rw[<-hW1]
  clear hW1
  go_wp2_with (go_at_call 153;refine(KN.out _).mono ?_;rintro e w2 ⟨rfl,rfl⟩)
  go_ret
  exact⟨rfl,HB.out⟩
 have d5:decide (xt<=2305843009213693952)=true:=decide_eq_true e5
 rw[d5,Bool.true_and]
 clear e5
 cases R with
 | false=>
  rw[Bool.false_and]
  go_enter Tryz.func94,Tryz.ntmps94
  go_upto_region 1 with fail
  rw[<-hW1]
  clear hW1
  go_wp2_with (first
   | (go_at_call 153;refine(KN.out _).mono ?_;rintro e w2 ⟨rfl,rfl⟩)
   | (go_at_call 154;refine KR.out.mono ?_;rintro e w3 ⟨rfl,hb3⟩))
  go_ret
  exact⟨rfl,step HB.out hb3⟩
 | true=>
  rw[Bool.true_and]
  go_enter Tryz.func94,Tryz.ntmps94
  go_upto_region 1 with fail
  rw[<-hW1]
  clear hW1
  go_wp2_with (first
   | (go_at_call 153;refine(KN.out _).mono ?_;rintro e w2 ⟨rfl,rfl⟩)
   | (go_at_call 154;refine KR.out.mono ?_;rintro e w3 ⟨rfl,hb3⟩;obtain⟨y1,y3⟩:=HQ.out _ hb3)
   | (go_at_call 132;refine(KH.out _ hb3).mono ?_;rintro e w4 ⟨rfl,rfl⟩))
  go_ret
  exact⟨rfl,step HB.out hb3⟩
end Cm
end Go.Proofs.YtclcgkpfcogcdaaGreat
