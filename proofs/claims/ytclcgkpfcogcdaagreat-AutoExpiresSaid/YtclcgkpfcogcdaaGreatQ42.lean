/- Texts laid together by program. -/
import Derived.Test.YtclcgkpfcogcdaaGreatQ41
import Derived.Deep.RegionHeld3
/- Contract: package auto's Apply (made by tools/gen_aucg.py). -/
set_option linter.unusedVariables false
set_option maxRecDepth 8000
set_option linter.unusedSimpArgs false
namespace Go.Proofs.YtclcgkpfcogcdaaGreat
open Lib (hid)
open List (getElem_toArray getElem_cons_succ getElem_cons_zero setIfInBounds_toArray set_cons_zero set_cons_succ)
open Go.RowKit Go.Shelf
namespace Cm

set_option maxHeartbeats 8000000 in
theorem AutoApply_arg (x:StC) (r:ReqV) (w:World) (h:RdSt w x) (hR:Rst x.v) (hma:mayR r=false):Calls Tryz.prog 15 #[stVal x,reqVal r] w (GetsAp (applyA x.v r) x w):=by
 obtain⟨W1,hW1⟩: ∃W1,W1=w.alloc (.cells #[.int .i64 x.time,.int .i64 x.num,.int .i64 x.token,x.sv,x.kv,x.mv] 26):=⟨_,rfl⟩
 have hb1:Below w.heap.size w W1:=by rw[hW1];exact newAlloc _ _
 have hB1:BoxS W1 w.heap.size x:=by rw[hW1];exact BoxS.new w x _
 have hs1:W1.heap.size=w.heap.size+1:=by rw[hW1];simp
 obtain⟨W2,hW2⟩: ∃W2,W2=W1.alloc (.cells #[.int .i64 r.client,.int .i64 r.seq,.int .i64 r.cmd.kind,.int .i64 r.cmd.session,.string (bstr r.cmd.name)] 30):=⟨_,rfl⟩
 have hb2:Below W1.heap.size W1 W2:=by rw[hW2];exact newAlloc _ _
 have hQ:BoxR W2 (w.heap.size+1) r:=by rw[<-hs1,hW2];exact BoxR.new W1 r _
 have hs2:W2.heap.size=w.heap.size+2:=by rw[hW2];simp [hs1]
 obtain⟨W3,hW3⟩: ∃W3,W3=W2.alloc (.cells #[.int .i64 0,.int .i64 0,.int .i64 0,.slice none 0 0,.slice none 0 0,.slice none 0 0] 26):=⟨_,rfl⟩
 have hb3:Below W2.heap.size W2 W3:=by rw[hW3];exact newAlloc _ _
 have hZ:BoxS W3 (w.heap.size+2) zeroC10:=by rw[<-hs2,hW3];exact BoxS.new W2 zeroC10 _
 have hs3:W3.heap.size=w.heap.size+3:=by rw[hW3];simp [hs2]
 obtain⟨W4,hW4⟩: ∃W4,W4=W3.alloc (.cells #[.int .i64 0,.int .i64 0,.int .i64 0,.slice none 0 0] 36):=⟨_,rfl⟩
 have hb4:Below W3.heap.size W3 W4:=by rw[hW4];exact newAlloc _ _
 have hER:EmptyR W4 (w.heap.size+3):=by rw[<-hs3,hW4];exact EmptyR.new W3
 have hs4:W4.heap.size=w.heap.size+4:=by rw[hW4];simp [hs3]
 have hCU:CurA w W4.heap.size w.heap.size r x x W4:=⟨Nat.le_refl _,hB1.later (step hb2 (step hb3 hb4)),hQ.later (step hb3 hb4),hZ.later hb4,hER,FromS.refl _ _ _,step hb1 (step hb2 (step hb3 hb4))⟩
 have HRD:Hid (∀W,Below w.heap.size w W->RdSt W x):=hid fun W hb=>h.later hb
 have HRR:=hid hR
 have HSM:=hid hR.small
 obtain⟨HI,hHI'⟩: ∃HI,W4.heap.size=HI:=⟨_,rfl⟩
 obtain⟨nb,hnb⟩: ∃nb,w.heap.size=nb:=⟨_,rfl⟩
 have HNB:=hid hnb
 have hlt3:nb+3<HI:=by omega
 have hHI:w.heap.size<=HI:=by omega
 rw[hHI'] at hCU
 have HC0:Hid (CurA w HI nb r x x W4):=hid (by rw[hnb] at hCU;exact hCU)
 clear hCU hnb h hR hb1 hb2 hb3 hb4 hB1 hZ hQ hER hs1 hs2 hs3 hs4 hHI'
 obtain⟨R,hRV⟩: ∃R,applyA x.v r=R:=⟨_,rfl⟩
 have HRV:=hid hRV
 rw[hRV]
 clear hRV
 have KM:=hid (fun W=>MayReq_any r W)
 have KCP:=hid (fun W (hb:Below w.heap.size w W)=>CopyA_any x W (HRD.out W hb) HSM.out)
 obtain⟨xt,xn,xk,xS,sa,sc,xK,ka,kc,xM,ma,mc⟩:=x
 obtain⟨rc,rs,⟨rk,rn,rm⟩⟩:=r
 unfold stVal reqVal
 unfold reqVal at KM
 simp only[StC.sv,StC.kv,StC.mv] at hW1 KCP ⊢
 dsimp only at hW2 KM
 obtain⟨c0,c1,c2,c3,c4,c5,cf⟩:=HC0.out.X
 simp only[StC.sv,StC.kv,StC.mv] at c0 c1 c2 c3 c4 c5
 obtain⟨q0,q1,q2,q3,q4⟩:=HC0.out.Q
 dsimp only at q0 q1 q2 q3 q4
 unfold stVal at KCP
 simp only[StC.sv,StC.kv,StC.mv] at KCP
 go_enter Tryz.func15,Tryz.ntmps15
 go_upto_region 1 with fail
 rw[<-hW1,<-hW2,<-hW3,<-hW4]
 rw[HNB.out]
 try rw[show nb+1+1+1=nb+3 from rfl]
 try rw[show nb+1+1=nb+2 from rfl]
 clear hW1 hW2 hW3 hW4
 go_upto_region 2 with (go_at_call 56;refine(KCP.out _ HC0.out.B).mono ?_;rintro e w5 ⟨⟨ut,un,uk,uS,ua,uc,uK,uka,ukc,uM,uma,umc⟩,he,hv5,hf5,hb5⟩;unfold stVal at he;simp only[StC.sv,StC.kv,StC.mv] at he;subst he;have HV5:=hid hv5;have HF5:=hid hf5;have HB45:=hid hb5;obtain⟨c0,c1,c2,c3,c4,c5,cf⟩:=HC0.out.X.later hb5;simp only[StC.sv,StC.kv,StC.mv] at c0 c1 c2 c3 c4 c5;clear hv5 hf5 hb5)
 have hC5:=(HC0.out.later HB45.out).put HNB.out hlt3 ⟨ut,un,uk,uS,ua,uc,uK,uka,ukc,uM,uma,umc⟩ HC0.out.sz HF5.out
 dsimp only at hC5
 obtain⟨W5,hW5⟩: ∃W5,W5=(((((w5.setCell ⟨nb,0,none⟩ (.int .i64 ut)).setCell ⟨nb,1,none⟩ (.int .i64 un)).setCell ⟨nb,2,none⟩ (.int .i64 uk)).setCell ⟨nb,3,none⟩ (.slice ua uS.length uc)).setCell ⟨nb,4,none⟩ (.slice uka uK.length ukc)).setCell ⟨nb,5,none⟩ (.slice uma uM.length umc):=⟨_,rfl⟩
 rw[<-hW5] at hC5 ⊢
 have HC5:=hid hC5
 have HRU:Hid (Rst (StC.v ⟨ut,un,uk,uS,ua,uc,uK,uka,ukc,uM,uma,umc⟩)):=hid (by rw[HV5.out];exact HRR.out)
 have HRV5:Hid (applyA (StC.v ⟨ut,un,uk,uS,ua,uc,uK,uka,ukc,uM,uma,umc⟩) ⟨rc,rs,⟨rk,rn,rm⟩⟩=R):=hid (by rw[HV5.out];exact HRV.out)
 have HRDU:Hid (∀W,Below W5.heap.size W5 W->RdSt W ⟨ut,un,uk,uS,ua,uc,uK,uka,ukc,uM,uma,umc⟩):=hid fun W hb=>(HC5.out.F.later hb).rd (HRD.out W (step HC5.out.B hb))
 clear hW5 hC5 HF5 KCP HRV
 clear c0 c1 c2 c3 c4 c5 cf q0 q1 q2 q3 q4
 obtain⟨c0,c1,c2,c3,c4,c5,cf⟩:=HC5.out.X
 simp only[StC.sv,StC.kv,StC.mv] at c0 c1 c2 c3 c4 c5
 obtain⟨q0,q1,q2,q3,q4⟩:=HC5.out.Q
 dsimp only at q0 q1 q2 q3 q4
 have hRR:R=(StC.v ⟨ut,un,uk,uS,ua,uc,uK,uka,ukc,uM,uma,umc⟩,⟨1,0,0,[]⟩,false):=by
  rw[<-HRV5.out]
  unfold applyA
  exact if_pos hma
 subst hRR
 obtain⟨mr,hmr⟩: ∃mr,mayR ⟨rc,rs,⟨rk,rn,rm⟩⟩=mr:=⟨_,rfl⟩
 rw[hmr] at KM
 have hm0:mr=false:=by rw[<-hmr];exact hma
 subst hm0
 go_upto_region 3 with (go_at_call 57;refine(KM.out W5).mono ?_;rintro e w6 ⟨rfl,hb6⟩;have HB56:=hid hb6;clear hb6)
 have HC6:=hid (HC5.out.later HB56.out)
 clear hmr KM
 clear c0 c1 c2 c3 c4 c5 cf q0 q1 q2 q3 q4
 obtain⟨c0,c1,c2,c3,c4,c5,cf⟩:=HC6.out.X
 simp only[StC.sv,StC.kv,StC.mv] at c0 c1 c2 c3 c4 c5
 obtain⟨q0,q1,q2,q3,q4⟩:=HC6.out.Q
 dsimp only at q0 q1 q2 q3 q4
 obtain⟨z0,z1,z2,z3,z4,z5,zf⟩:=HC6.out.Z
 simp only[zeroC10,StC.sv,StC.kv,StC.mv,List.length_nil] at z0 z1 z2 z3 z4 z5
 obtain⟨⟨r0,r1,r2,r3⟩,rf⟩:=HC6.out.R _ (Below.refl _ _)
 have HBE:=hid (set4k (below_set6 HC6.out.B (nb+2) (by have:=HNB.out;omega) (.int .i64 ut) (.int .i64 un) (.int .i64 uk) (.slice ua uS.length uc) (.slice uka uK.length ukc) (.slice uma uM.length umc)) (nb+3) (by have:=HNB.out;omega) (.int .i64 1) (.int .i64 0) (.int .i64 0) (.slice none 0 0))
 have HFE:=hid ((FromS.set4 (FromS.set6 HC6.out.F (show nb+2<HI from by omega) (.int .i64 ut) (.int .i64 un) (.int .i64 uk) (.slice ua uS.length uc) (.slice uka uK.length ukc) (.slice uma uM.length umc)) (show nb+3<HI from hlt3) (.int .i64 1) (.int .i64 0) (.int .i64 0) (.slice none 0 0)).lower hHI)
 go_wp2
 refine bodyPost_ret (by simp [results,Tryz.results15,go_sem,z0,z1,z2,z3,z4,z5,zf,r0,r1,r2,r3,rf]<;>rfl) rfl ?_
 exact⟨⟨ut,un,uk,uS,ua,uc,uK,uka,ukc,uM,uma,umc⟩,none,0,rfl,rfl,HFE.out,RdH.nil _,HBE.out⟩
set_option maxHeartbeats 8000000 in
theorem AutoApply_old (x:StC) (r:ReqV) (w:World) (h:RdSt w x) (hR:Rst x.v) (hma:mayR r=true) (hfo:freshM (valsM x.M) r.client r.seq<0):Calls Tryz.prog 15 #[stVal x,reqVal r] w (GetsAp (applyA x.v r) x w):=by
 obtain⟨W1,hW1⟩: ∃W1,W1=w.alloc (.cells #[.int .i64 x.time,.int .i64 x.num,.int .i64 x.token,x.sv,x.kv,x.mv] 26):=⟨_,rfl⟩
 have hb1:Below w.heap.size w W1:=by rw[hW1];exact newAlloc _ _
 have hB1:BoxS W1 w.heap.size x:=by rw[hW1];exact BoxS.new w x _
 have hs1:W1.heap.size=w.heap.size+1:=by rw[hW1];simp
 obtain⟨W2,hW2⟩: ∃W2,W2=W1.alloc (.cells #[.int .i64 r.client,.int .i64 r.seq,.int .i64 r.cmd.kind,.int .i64 r.cmd.session,.string (bstr r.cmd.name)] 30):=⟨_,rfl⟩
 have hb2:Below W1.heap.size W1 W2:=by rw[hW2];exact newAlloc _ _
 have hQ:BoxR W2 (w.heap.size+1) r:=by rw[<-hs1,hW2];exact BoxR.new W1 r _
 have hs2:W2.heap.size=w.heap.size+2:=by rw[hW2];simp [hs1]
 obtain⟨W3,hW3⟩: ∃W3,W3=W2.alloc (.cells #[.int .i64 0,.int .i64 0,.int .i64 0,.slice none 0 0,.slice none 0 0,.slice none 0 0] 26):=⟨_,rfl⟩
 have hb3:Below W2.heap.size W2 W3:=by rw[hW3];exact newAlloc _ _
 have hZ:BoxS W3 (w.heap.size+2) zeroC10:=by rw[<-hs2,hW3];exact BoxS.new W2 zeroC10 _
 have hs3:W3.heap.size=w.heap.size+3:=by rw[hW3];simp [hs2]
 obtain⟨W4,hW4⟩: ∃W4,W4=W3.alloc (.cells #[.int .i64 0,.int .i64 0,.int .i64 0,.slice none 0 0] 36):=⟨_,rfl⟩
 have hb4:Below W3.heap.size W3 W4:=by rw[hW4];exact newAlloc _ _
 have hER:EmptyR W4 (w.heap.size+3):=by rw[<-hs3,hW4];exact EmptyR.new W3
 have hs4:W4.heap.size=w.heap.size+4:=by rw[hW4];simp [hs3]
 have hCU:CurA w W4.heap.size w.heap.size r x x W4:=⟨Nat.le_refl _,hB1.later (step hb2 (step hb3 hb4)),hQ.later (step hb3 hb4),hZ.later hb4,hER,FromS.refl _ _ _,step hb1 (step hb2 (step hb3 hb4))⟩
 have HRD:Hid (∀W,Below w.heap.size w W->RdSt W x):=hid fun W hb=>h.later hb
 have HRR:=hid hR
 have HSM:=hid hR.small
 obtain⟨HI,hHI'⟩: ∃HI,W4.heap.size=HI:=⟨_,rfl⟩
 obtain⟨nb,hnb⟩: ∃nb,w.heap.size=nb:=⟨_,rfl⟩
 have HNB:=hid hnb
 have hlt3:nb+3<HI:=by omega
 have hHI:w.heap.size<=HI:=by omega
 rw[hHI'] at hCU
 have HC0:Hid (CurA w HI nb r x x W4):=hid (by rw[hnb] at hCU;exact hCU)
 clear hCU hnb h hR hb1 hb2 hb3 hb4 hB1 hZ hQ hER hs1 hs2 hs3 hs4 hHI'
 obtain⟨R,hRV⟩: ∃R,applyA x.v r=R:=⟨_,rfl⟩
 have HRV:=hid hRV
 rw[hRV]
 clear hRV
 have KM:=hid (fun W=>MayReq_any r W)
 have KCP:=hid (fun W (hb:Below w.heap.size w W)=>CopyA_any x W (HRD.out W hb) HSM.out)
 obtain⟨xt,xn,xk,xS,sa,sc,xK,ka,kc,xM,ma,mc⟩:=x
 obtain⟨rc,rs,⟨rk,rn,rm⟩⟩:=r
 unfold stVal reqVal
 unfold reqVal at KM
 simp only[StC.sv,StC.kv,StC.mv] at hW1 KCP ⊢
 dsimp only at hW2 KM
 obtain⟨c0,c1,c2,c3,c4,c5,cf⟩:=HC0.out.X
 simp only[StC.sv,StC.kv,StC.mv] at c0 c1 c2 c3 c4 c5
 obtain⟨q0,q1,q2,q3,q4⟩:=HC0.out.Q
 dsimp only at q0 q1 q2 q3 q4
 unfold stVal at KCP
 simp only[StC.sv,StC.kv,StC.mv] at KCP
 dsimp only at hfo
 go_enter Tryz.func15,Tryz.ntmps15
 go_upto_region 1 with fail
 rw[<-hW1,<-hW2,<-hW3,<-hW4]
 rw[HNB.out]
 try rw[show nb+1+1+1=nb+3 from rfl]
 try rw[show nb+1+1=nb+2 from rfl]
 clear hW1 hW2 hW3 hW4
 go_upto_region 2 with (go_at_call 56;refine(KCP.out _ HC0.out.B).mono ?_;rintro e w5 ⟨⟨ut,un,uk,uS,ua,uc,uK,uka,ukc,uM,uma,umc⟩,he,hv5,hf5,hb5⟩;unfold stVal at he;simp only[StC.sv,StC.kv,StC.mv] at he;subst he;have HV5:=hid hv5;have HF5:=hid hf5;have HB45:=hid hb5;obtain⟨c0,c1,c2,c3,c4,c5,cf⟩:=HC0.out.X.later hb5;simp only[StC.sv,StC.kv,StC.mv] at c0 c1 c2 c3 c4 c5;clear hv5 hf5 hb5)
 have hC5:=(HC0.out.later HB45.out).put HNB.out hlt3 ⟨ut,un,uk,uS,ua,uc,uK,uka,ukc,uM,uma,umc⟩ HC0.out.sz HF5.out
 dsimp only at hC5
 obtain⟨W5,hW5⟩: ∃W5,W5=(((((w5.setCell ⟨nb,0,none⟩ (.int .i64 ut)).setCell ⟨nb,1,none⟩ (.int .i64 un)).setCell ⟨nb,2,none⟩ (.int .i64 uk)).setCell ⟨nb,3,none⟩ (.slice ua uS.length uc)).setCell ⟨nb,4,none⟩ (.slice uka uK.length ukc)).setCell ⟨nb,5,none⟩ (.slice uma uM.length umc):=⟨_,rfl⟩
 rw[<-hW5] at hC5 ⊢
 have HC5:=hid hC5
 have HRU:Hid (Rst (StC.v ⟨ut,un,uk,uS,ua,uc,uK,uka,ukc,uM,uma,umc⟩)):=hid (by rw[HV5.out];exact HRR.out)
 have HRV5:Hid (applyA (StC.v ⟨ut,un,uk,uS,ua,uc,uK,uka,ukc,uM,uma,umc⟩) ⟨rc,rs,⟨rk,rn,rm⟩⟩=R):=hid (by rw[HV5.out];exact HRV.out)
 have HRDU:Hid (∀W,Below W5.heap.size W5 W->RdSt W ⟨ut,un,uk,uS,ua,uc,uK,uka,ukc,uM,uma,umc⟩):=hid fun W hb=>(HC5.out.F.later hb).rd (HRD.out W (step HC5.out.B hb))
 clear hW5 hC5 HF5 KCP HRV
 clear c0 c1 c2 c3 c4 c5 cf q0 q1 q2 q3 q4
 obtain⟨c0,c1,c2,c3,c4,c5,cf⟩:=HC5.out.X
 simp only[StC.sv,StC.kv,StC.mv] at c0 c1 c2 c3 c4 c5
 obtain⟨q0,q1,q2,q3,q4⟩:=HC5.out.Q
 dsimp only at q0 q1 q2 q3 q4
 have hum:valsM uM=valsM xM:=congrArg StV.memos HV5.out
 rw[<-hum] at hfo
 have hRR:R=(StC.v ⟨ut,un,uk,uS,ua,uc,uK,uka,ukc,uM,uma,umc⟩,⟨0,0,0,[]⟩,false):=by
  rw[<-HRV5.out]
  unfold applyA
  rw[if_neg (fun q=>Bool.noConfusion (hma.symm.trans q))]
  exact if_pos hfo
 subst hRR
 clear hum
 have KFU:=hid (fun W (hb:Below W5.heap.size W5 W)=>MemFresh_any (.slice uma uM.length umc) uM rc rs W (HRDU.out W hb).m HRU.out.memos)
 obtain⟨fr,hfr⟩: ∃fr,freshM (valsM uM) rc rs=fr:=⟨_,rfl⟩
 rw[hfr] at KFU
 have HFR:=hid hfr
 clear hfr
 obtain⟨mr,hmr⟩: ∃mr,mayR ⟨rc,rs,⟨rk,rn,rm⟩⟩=mr:=⟨_,rfl⟩
 rw[hmr] at KM
 have hm0:mr=true:=by rw[<-hmr];exact hma
 subst hm0
 go_upto_region 4 with (go_at_call 57;refine(KM.out W5).mono ?_;rintro e w6 ⟨rfl,hb6⟩;have HB56:=hid hb6;clear hb6)
 have HC6:=hid (HC5.out.later HB56.out)
 clear hmr KM
 clear c0 c1 c2 c3 c4 c5 cf q0 q1 q2 q3 q4
 obtain⟨c0,c1,c2,c3,c4,c5,cf⟩:=HC6.out.X
 simp only[StC.sv,StC.kv,StC.mv] at c0 c1 c2 c3 c4 c5
 obtain⟨q0,q1,q2,q3,q4⟩:=HC6.out.Q
 dsimp only at q0 q1 q2 q3 q4
 go_upto_region 5 with (go_at_call 58;refine(KFU.out w6 HB56.out).mono ?_;rintro e w7 ⟨rfl,hb7⟩;have HB67:=hid hb7;clear hb7)
 have HC7:=hid (HC6.out.later HB67.out)
 have HB57:=hid (step HB56.out HB67.out)
 clear KFU
 clear c0 c1 c2 c3 c4 c5 cf q0 q1 q2 q3 q4
 obtain⟨c0,c1,c2,c3,c4,c5,cf⟩:=HC7.out.X
 simp only[StC.sv,StC.kv,StC.mv] at c0 c1 c2 c3 c4 c5
 obtain⟨q0,q1,q2,q3,q4⟩:=HC7.out.Q
 dsimp only at q0 q1 q2 q3 q4
 have hfe:fr= -1:=by
  have:=fresh_vals (valsM uM) rc rs
  rw[HFR.out] at this hfo
  omega
 have g1:(fr==(-1:Int))=true:=by simpa using hfe
 clear hfo hma hfe
 obtain⟨z0,z1,z2,z3,z4,z5,zf⟩:=HC7.out.Z
 simp only[zeroC10,StC.sv,StC.kv,StC.mv,List.length_nil] at z0 z1 z2 z3 z4 z5
 obtain⟨⟨r0,r1,r2,r3⟩,rf⟩:=HC7.out.R _ (Below.refl _ _)
 have HBE:=hid (set4k (below_set6 HC7.out.B (nb+2) (by have:=HNB.out;omega) (.int .i64 ut) (.int .i64 un) (.int .i64 uk) (.slice ua uS.length uc) (.slice uka uK.length ukc) (.slice uma uM.length umc)) (nb+3) (by have:=HNB.out;omega) (.int .i64 0) (.int .i64 0) (.int .i64 0) (.slice none 0 0))
 have HFE:=hid ((FromS.set4 (FromS.set6 HC7.out.F (show nb+2<HI from by omega) (.int .i64 ut) (.int .i64 un) (.int .i64 uk) (.slice ua uS.length uc) (.slice uka uK.length ukc) (.slice uma uM.length umc)) (show nb+3<HI from hlt3) (.int .i64 0) (.int .i64 0) (.int .i64 0) (.slice none 0 0)).lower hHI)
 go_wp2
 refine bodyPost_ret (by simp [results,Tryz.results15,go_sem,z0,z1,z2,z3,z4,z5,zf,r0,r1,r2,r3,rf]<;>rfl) rfl ?_
 exact⟨⟨ut,un,uk,uS,ua,uc,uK,uka,ukc,uM,uma,umc⟩,none,0,rfl,rfl,HFE.out,RdH.nil _,HBE.out⟩
set_option maxHeartbeats 8000000 in
theorem AutoApply_same (x:StC) (r:ReqV) (w:World) (h:RdSt w x) (hR:Rst x.v) (hma:mayR r=true) (hfs:freshM (valsM x.M) r.client r.seq=0):Calls Tryz.prog 15 #[stVal x,reqVal r] w (GetsAp (applyA x.v r) x w):=by
 obtain⟨W1,hW1⟩: ∃W1,W1=w.alloc (.cells #[.int .i64 x.time,.int .i64 x.num,.int .i64 x.token,x.sv,x.kv,x.mv] 26):=⟨_,rfl⟩
 have hb1:Below w.heap.size w W1:=by rw[hW1];exact newAlloc _ _
 have hB1:BoxS W1 w.heap.size x:=by rw[hW1];exact BoxS.new w x _
 have hs1:W1.heap.size=w.heap.size+1:=by rw[hW1];simp
 obtain⟨W2,hW2⟩: ∃W2,W2=W1.alloc (.cells #[.int .i64 r.client,.int .i64 r.seq,.int .i64 r.cmd.kind,.int .i64 r.cmd.session,.string (bstr r.cmd.name)] 30):=⟨_,rfl⟩
 have hb2:Below W1.heap.size W1 W2:=by rw[hW2];exact newAlloc _ _
 have hQ:BoxR W2 (w.heap.size+1) r:=by rw[<-hs1,hW2];exact BoxR.new W1 r _
 have hs2:W2.heap.size=w.heap.size+2:=by rw[hW2];simp [hs1]
 obtain⟨W3,hW3⟩: ∃W3,W3=W2.alloc (.cells #[.int .i64 0,.int .i64 0,.int .i64 0,.slice none 0 0,.slice none 0 0,.slice none 0 0] 26):=⟨_,rfl⟩
 have hb3:Below W2.heap.size W2 W3:=by rw[hW3];exact newAlloc _ _
 have hZ:BoxS W3 (w.heap.size+2) zeroC10:=by rw[<-hs2,hW3];exact BoxS.new W2 zeroC10 _
 have hs3:W3.heap.size=w.heap.size+3:=by rw[hW3];simp [hs2]
 obtain⟨W4,hW4⟩: ∃W4,W4=W3.alloc (.cells #[.int .i64 0,.int .i64 0,.int .i64 0,.slice none 0 0] 36):=⟨_,rfl⟩
 have hb4:Below W3.heap.size W3 W4:=by rw[hW4];exact newAlloc _ _
 have hER:EmptyR W4 (w.heap.size+3):=by rw[<-hs3,hW4];exact EmptyR.new W3
 have hs4:W4.heap.size=w.heap.size+4:=by rw[hW4];simp [hs3]
 have hCU:CurA w W4.heap.size w.heap.size r x x W4:=⟨Nat.le_refl _,hB1.later (step hb2 (step hb3 hb4)),hQ.later (step hb3 hb4),hZ.later hb4,hER,FromS.refl _ _ _,step hb1 (step hb2 (step hb3 hb4))⟩
 have HRD:Hid (∀W,Below w.heap.size w W->RdSt W x):=hid fun W hb=>h.later hb
 have HRR:=hid hR
 have HSM:=hid hR.small
 obtain⟨HI,hHI'⟩: ∃HI,W4.heap.size=HI:=⟨_,rfl⟩
 obtain⟨nb,hnb⟩: ∃nb,w.heap.size=nb:=⟨_,rfl⟩
 have HNB:=hid hnb
 have hlt3:nb+3<HI:=by omega
 have hHI:w.heap.size<=HI:=by omega
 rw[hHI'] at hCU
 have HC0:Hid (CurA w HI nb r x x W4):=hid (by rw[hnb] at hCU;exact hCU)
 clear hCU hnb h hR hb1 hb2 hb3 hb4 hB1 hZ hQ hER hs1 hs2 hs3 hs4 hHI'
 obtain⟨R,hRV⟩: ∃R,applyA x.v r=R:=⟨_,rfl⟩
 have HRV:=hid hRV
 rw[hRV]
 clear hRV
 have KM:=hid (fun W=>MayReq_any r W)
 have KCP:=hid (fun W (hb:Below w.heap.size w W)=>CopyA_any x W (HRD.out W hb) HSM.out)
 obtain⟨xt,xn,xk,xS,sa,sc,xK,ka,kc,xM,ma,mc⟩:=x
 obtain⟨rc,rs,⟨rk,rn,rm⟩⟩:=r
 unfold stVal reqVal
 unfold reqVal at KM
 simp only[StC.sv,StC.kv,StC.mv] at hW1 KCP ⊢
 dsimp only at hW2 KM
 obtain⟨c0,c1,c2,c3,c4,c5,cf⟩:=HC0.out.X
 simp only[StC.sv,StC.kv,StC.mv] at c0 c1 c2 c3 c4 c5
 obtain⟨q0,q1,q2,q3,q4⟩:=HC0.out.Q
 dsimp only at q0 q1 q2 q3 q4
 unfold stVal at KCP
 simp only[StC.sv,StC.kv,StC.mv] at KCP
 dsimp only at hfs
 go_enter Tryz.func15,Tryz.ntmps15
 go_upto_region 1 with fail
 rw[<-hW1,<-hW2,<-hW3,<-hW4]
 rw[HNB.out]
 try rw[show nb+1+1+1=nb+3 from rfl]
 try rw[show nb+1+1=nb+2 from rfl]
 clear hW1 hW2 hW3 hW4
 go_upto_region 2 with (go_at_call 56;refine(KCP.out _ HC0.out.B).mono ?_;rintro e w5 ⟨⟨ut,un,uk,uS,ua,uc,uK,uka,ukc,uM,uma,umc⟩,he,hv5,hf5,hb5⟩;unfold stVal at he;simp only[StC.sv,StC.kv,StC.mv] at he;subst he;have HV5:=hid hv5;have HF5:=hid hf5;have HB45:=hid hb5;obtain⟨c0,c1,c2,c3,c4,c5,cf⟩:=HC0.out.X.later hb5;simp only[StC.sv,StC.kv,StC.mv] at c0 c1 c2 c3 c4 c5;clear hv5 hf5 hb5)
 have hC5:=(HC0.out.later HB45.out).put HNB.out hlt3 ⟨ut,un,uk,uS,ua,uc,uK,uka,ukc,uM,uma,umc⟩ HC0.out.sz HF5.out
 dsimp only at hC5
 obtain⟨W5,hW5⟩: ∃W5,W5=(((((w5.setCell ⟨nb,0,none⟩ (.int .i64 ut)).setCell ⟨nb,1,none⟩ (.int .i64 un)).setCell ⟨nb,2,none⟩ (.int .i64 uk)).setCell ⟨nb,3,none⟩ (.slice ua uS.length uc)).setCell ⟨nb,4,none⟩ (.slice uka uK.length ukc)).setCell ⟨nb,5,none⟩ (.slice uma uM.length umc):=⟨_,rfl⟩
 rw[<-hW5] at hC5 ⊢
 have HC5:=hid hC5
 have HRU:Hid (Rst (StC.v ⟨ut,un,uk,uS,ua,uc,uK,uka,ukc,uM,uma,umc⟩)):=hid (by rw[HV5.out];exact HRR.out)
 have HRV5:Hid (applyA (StC.v ⟨ut,un,uk,uS,ua,uc,uK,uka,ukc,uM,uma,umc⟩) ⟨rc,rs,⟨rk,rn,rm⟩⟩=R):=hid (by rw[HV5.out];exact HRV.out)
 have HRDU:Hid (∀W,Below W5.heap.size W5 W->RdSt W ⟨ut,un,uk,uS,ua,uc,uK,uka,ukc,uM,uma,umc⟩):=hid fun W hb=>(HC5.out.F.later hb).rd (HRD.out W (step HC5.out.B hb))
 clear hW5 hC5 HF5 KCP HRV
 clear c0 c1 c2 c3 c4 c5 cf q0 q1 q2 q3 q4
 obtain⟨c0,c1,c2,c3,c4,c5,cf⟩:=HC5.out.X
 simp only[StC.sv,StC.kv,StC.mv] at c0 c1 c2 c3 c4 c5
 obtain⟨q0,q1,q2,q3,q4⟩:=HC5.out.Q
 dsimp only at q0 q1 q2 q3 q4
 have hum:valsM uM=valsM xM:=congrArg StV.memos HV5.out
 rw[<-hum] at hfs
 clear hum
 have KFU:=hid (fun W (hb:Below W5.heap.size W5 W)=>MemFresh_any (.slice uma uM.length umc) uM rc rs W (HRDU.out W hb).m HRU.out.memos)
 obtain⟨fr,hfr⟩: ∃fr,freshM (valsM uM) rc rs=fr:=⟨_,rfl⟩
 rw[hfr] at KFU
 have HFR:=hid hfr
 clear hfr
 have hnlt: ¬freshM (valsM uM) rc rs<0:=by rw[hfs];omega
 have KL:=hid (fun W (hb:Below W5.heap.size W5 W)=>MemLast_x (.slice uma uM.length umc) uM rc W (HRDU.out W hb).m HRU.out.memos)
 have HLS:Hid (R=(StC.v ⟨ut,un,uk,uS,ua,uc,uK,uka,ukc,uM,uma,umc⟩,(lastM (valsM uM) rc).1.rep,false)):=hid (by
  rw[<-HRV5.out]
  unfold applyA
  exact(if_neg (fun q=>Bool.noConfusion (hma.symm.trans q))).trans ((if_neg hnlt).trans (if_pos hfs)))
 obtain⟨⟨lm,lb⟩,hlm⟩: ∃l,lastM (valsM uM) rc=l:=⟨_,rfl⟩
 rw[hlm] at KL HLS
 dsimp only at HLS
 clear hlm hnlt
 obtain⟨mr,hmr⟩: ∃mr,mayR ⟨rc,rs,⟨rk,rn,rm⟩⟩=mr:=⟨_,rfl⟩
 rw[hmr] at KM
 have hm0:mr=true:=by rw[<-hmr];exact hma
 subst hm0
 go_upto_region 4 with (go_at_call 57;refine(KM.out W5).mono ?_;rintro e w6 ⟨rfl,hb6⟩;have HB56:=hid hb6;clear hb6)
 have HC6:=hid (HC5.out.later HB56.out)
 clear hmr KM
 clear c0 c1 c2 c3 c4 c5 cf q0 q1 q2 q3 q4
 obtain⟨c0,c1,c2,c3,c4,c5,cf⟩:=HC6.out.X
 simp only[StC.sv,StC.kv,StC.mv] at c0 c1 c2 c3 c4 c5
 obtain⟨q0,q1,q2,q3,q4⟩:=HC6.out.Q
 dsimp only at q0 q1 q2 q3 q4
 go_upto_region 5 with (go_at_call 58;refine(KFU.out w6 HB56.out).mono ?_;rintro e w7 ⟨rfl,hb7⟩;have HB67:=hid hb7;clear hb7)
 have HC7:=hid (HC6.out.later HB67.out)
 have HB57:=hid (step HB56.out HB67.out)
 clear KFU
 clear c0 c1 c2 c3 c4 c5 cf q0 q1 q2 q3 q4
 obtain⟨c0,c1,c2,c3,c4,c5,cf⟩:=HC7.out.X
 simp only[StC.sv,StC.kv,StC.mv] at c0 c1 c2 c3 c4 c5
 obtain⟨q0,q1,q2,q3,q4⟩:=HC7.out.Q
 dsimp only at q0 q1 q2 q3 q4
 have hfe:fr=0:=by rw[<-HFR.out];exact hfs
 have g1:(fr==(-1:Int))=false:=by simp [hfe]
 have g2:(fr==(0:Int))=true:=by simpa using hfe
 clear hfe
 go_upto_region 9 with (go_at_call 59;refine(KL.out w7 HB57.out).mono ?_;rintro e w8 ⟨⟨⟨zc,zs,zk,zn,zd,zl⟩,za,zp⟩,he,hm8,ho8,hb8⟩;unfold memVal MemC.hv at he;dsimp only at he hm8;subst he;have HM8:=hid hm8;have HO8:=hid ho8;have HB78:=hid hb8;clear hm8 ho8 hb8)
 obtain⟨W9,hW9⟩: ∃W9,W9=w8.alloc (.cells #[.int .i64 zc,.int .i64 zs,.int .i64 zk,.int .i64 zn,.int .i64 zd,.slice za zl.length zp] 51):=⟨_,rfl⟩
 have HB89:Hid (Below w8.heap.size w8 W9):=hid (by rw[hW9];exact newAlloc _ _)
 have HB79:Hid (Below w7.heap.size w7 W9):=hid (step HB78.out HB89.out)
 have hm9:FourM W9 w8.heap.size (.int .i64 zk) (.int .i64 zn) (.int .i64 zd) (.slice za zl.length zp):=by
  rw[hW9]
  obtain⟨_,_,q2,q3,q4,q5⟩:=box6 (Below.refl _ (w8.alloc (.cells #[.int .i64 zc,.int .i64 zs,.int .i64 zk,.int .i64 zn,.int .i64 zd,.slice za zl.length zp] 51)))
  exact⟨q2,q3,q4,q5⟩
 rw[<-hW9]
 have HC9:=hid (HC7.out.later HB79.out)
 have HH9:Hid (HeldOk HI w W9 (.slice za zl.length zp) zl):=hid ((heldOk_of HC7.out.F HRD.out HB78.out HC7.out.sz HO8.out).later HB89.out)
 obtain⟨bt,hbt⟩: ∃bt,w8.heap.size=bt:=⟨_,rfl⟩
 have hltb:nb+3<bt:=by have:=HB78.out.size;have:=HC7.out.sz;omega
 have HM9:Hid (FourM W9 bt (.int .i64 zk) (.int .i64 zn) (.int .i64 zd) (.slice za zl.length zp)):=hid (by rw[<-hbt];exact hm9)
 rw[hbt]
 have HRF:Hid (R=(StC.v ⟨ut,un,uk,uS,ua,uc,uK,uka,ukc,uM,uma,umc⟩,⟨zk,zn,zd,zl⟩,false)):=hid (by rw[HLS.out,<-HM8.out])
 clear hW9 hbt hm9 hfs hma
 clear c0 c1 c2 c3 c4 c5 cf q0 q1 q2 q3 q4
 obtain⟨c0,c1,c2,c3,c4,c5,cf⟩:=HC9.out.X
 simp only[StC.sv,StC.kv,StC.mv] at c0 c1 c2 c3 c4 c5
 obtain⟨q0,q1,q2,q3,q4⟩:=HC9.out.Q
 dsimp only at q0 q1 q2 q3 q4
 obtain⟨z0,z1,z2,z3,z4,z5,zf⟩:=HC9.out.Z
 simp only[zeroC10,StC.sv,StC.kv,StC.mv,List.length_nil] at z0 z1 z2 z3 z4 z5
 obtain⟨⟨r0,r1,r2,r3⟩,rf⟩:=HC9.out.R _ (Below.refl _ _)
 refine wp_region_held_drew (S:=(fun W=>((W.cell? ⟨nb,0,none⟩=some (.int .i64 ut)/\W.cell? ⟨nb,1,none⟩=some (.int .i64 un)/\W.cell? ⟨nb,2,none⟩=some (.int .i64 uk))/\W.cell? ⟨nb,3,none⟩=some (.slice ua uS.length uc)/\W.cell? ⟨nb,4,none⟩=some (.slice uka uK.length ukc)/\W.cell? ⟨nb,5,none⟩=some (.slice uma uM.length umc))/\W.cell? ⟨bt,2,none⟩=some (.int .i64 zk)/\W.cell? ⟨bt,3,none⟩=some (.int .i64 zn)/\W.cell? ⟨bt,4,none⟩=some (.int .i64 zd)/\W.cell? ⟨bt,5,none⟩=some (.slice za zl.length zp))) (by kernel_rfl) (⟨(HC9.out.X.later (Below.refl _ W9).drew).cells,HM9.out.drew⟩) (fun hHeld=>?_)
 refine wpAnyH_take (i:=0) (v:=?_) rfl (by kernel_rfl) (by kernel_rfl) (by kernel_rfl) (fun _ _ _ h=>h) (Or.inl ⟨by rfl,?_⟩) (by assumption) ?_
 rotate_left
 ·intro w hSw;(try dsimp only at hSw);go_simp<;>with_reducible rfl
 try simp only[Act.put,getElem_toArray,getElem_cons_zero,setIfInBounds_toArray,set_cons_zero,set_cons_succ]
 refine wpAnyH_take (i:=1) (v:=?_) rfl (by kernel_rfl) (by kernel_rfl) (by kernel_rfl) (fun _ _ _ h=>h) (Or.inl ⟨by rfl,?_⟩) (by assumption) ?_
 rotate_left
 ·intro w hSw;(try dsimp only at hSw);go_simp<;>with_reducible rfl
 try simp only[Act.put,getElem_toArray,getElem_cons_succ,getElem_cons_zero,setIfInBounds_toArray,set_cons_zero,set_cons_succ]
 refine wpAnyH_take (i:=2) (v:=?_) rfl (by kernel_rfl) (by kernel_rfl) (by kernel_rfl) (fun _ _ _ h=>h) (Or.inl ⟨by rfl,?_⟩) (by assumption) ?_
 rotate_left
 ·intro w hSw;(try dsimp only at hSw);go_simp<;>with_reducible rfl
 try simp only[Act.put,getElem_toArray,getElem_cons_succ,getElem_cons_zero,setIfInBounds_toArray,set_cons_zero,set_cons_succ]
 refine wpAnyH_ready (rs:= [3]) (by kernel_rfl) (by simp) ?_
 refine AllReadyH.cons rfl (fun K hK=>?_) AllReadyH.nil
 go_simp
 refine hK.out _ _ ((⟨((HC9.out.X.other6 (show nb+2≠nb by omega) (.int .i64 ut) (.int .i64 un) (.int .i64 uk) (.slice ua uS.length uc) (.slice uka uK.length ukc) (.slice uma uM.length umc)).later (Below.refl _ _).drew).cells,(HM9.out.other6 (show nb+2≠bt by omega) (.int .i64 ut) (.int .i64 un) (.int .i64 uk) (.slice ua uS.length uc) (.slice uka uK.length ukc) (.slice uma uM.length umc)).drew⟩)) (fun hHeld=>?_)
 clear hK K
 try simp only[Act.put,getElem_toArray,getElem_cons_succ,getElem_cons_zero,setIfInBounds_toArray,set_cons_zero,set_cons_succ]
 refine wpAnyH_ready (rs:= [4]) (by kernel_rfl) (by simp) ?_
 refine AllReadyH.cons rfl (fun K hK=>?_) AllReadyH.nil
 go_simp
 refine hK.out _ _ ((⟨(((HC9.out.X.other6 (show nb+2≠nb by omega) (.int .i64 ut) (.int .i64 un) (.int .i64 uk) (.slice ua uS.length uc) (.slice uka uK.length ukc) (.slice uma uM.length umc)).other4 (show nb+3≠nb by omega) (.int .i64 zk) (.int .i64 zn) (.int .i64 zd) (.slice za zl.length zp)).later (Below.refl _ _).drew).cells,((HM9.out.other6 (show nb+2≠bt by omega) (.int .i64 ut) (.int .i64 un) (.int .i64 uk) (.slice ua uS.length uc) (.slice uka uK.length ukc) (.slice uma uM.length umc)).other4 (show nb+3≠bt by omega) (.int .i64 zk) (.int .i64 zn) (.int .i64 zd) (.slice za zl.length zp)).drew⟩)) (fun hHeld=>?_)
 clear hK K
 try simp only[Act.put,getElem_toArray,getElem_cons_succ,getElem_cons_zero,setIfInBounds_toArray,set_cons_zero,set_cons_succ]
 refine wpAnyH_take (i:=5) (v:=?_) rfl (by kernel_rfl) (by kernel_rfl) (by kernel_rfl) (fun _ _ _ h=>h) (Or.inl ⟨by rfl,?_⟩) (by assumption) ?_
 rotate_left
 ·intro w hSw;(try dsimp only at hSw);go_simp<;>with_reducible rfl
 try simp only[Act.put,getElem_toArray,getElem_cons_succ,getElem_cons_zero,setIfInBounds_toArray,set_cons_zero,set_cons_succ]
 refine wpAnyH_done (by kernel_rfl) ?_ _
 have HBE:=hid (set4k (below_set6 HC9.out.B (nb+2) (by have:=HNB.out;omega) (.int .i64 ut) (.int .i64 un) (.int .i64 uk) (.slice ua uS.length uc) (.slice uka uK.length ukc) (.slice uma uM.length umc)) (nb+3) (by have:=HNB.out;omega) (.int .i64 zk) (.int .i64 zn) (.int .i64 zd) (.slice za zl.length zp)).drew
 have HFE:=hid (((FromS.set4 (FromS.set6 HC9.out.F (show nb+2<HI from by omega) (.int .i64 ut) (.int .i64 un) (.int .i64 uk) (.slice ua uS.length uc) (.slice uka uK.length ukc) (.slice uma uM.length umc)) (show nb+3<HI from hlt3) (.int .i64 zk) (.int .i64 zn) (.int .i64 zd) (.slice za zl.length zp)).lower hHI).later (Below.refl _ _).drew)
 have HOE:=hid (((HH9.out.set6 (show nb+2<HI from by omega) (.int .i64 ut) (.int .i64 un) (.int .i64 uk) (.slice ua uS.length uc) (.slice uka uK.length ukc) (.slice uma uM.length umc)).set4 hlt3 (.int .i64 zk) (.int .i64 zn) (.int .i64 zd) (.slice za zl.length zp)).later (Below.refl _ _).drew)
 go_wp2
 refine bodyPost_ret (by simp [results,Tryz.results15,go_sem,z0,z1,z2,z3,z4,z5,zf,r0,r1,r2,r3,rf]<;>rfl) rfl ?_
 rw[HRF.out]
 exact⟨⟨ut,un,uk,uS,ua,uc,uK,uka,ukc,uM,uma,umc⟩,za,zp,rfl,rfl,HFE.out,HOE.out.rd HBE.out,HBE.out⟩
theorem heap_set4 (w:World) (b:Nat) (v0 v1 v2 v3:Value) {g:Nat} (hg:g≠b):((((w.setCell ⟨b,0,none⟩ v0).setCell ⟨b,1,none⟩ v1).setCell ⟨b,2,none⟩ v2).setCell ⟨b,3,none⟩ v3).heap[g]?=w.heap[g]?:=by
 rw[Below.heap_setCell _ ⟨b,3,none⟩ v3 g hg,Below.heap_setCell _ ⟨b,2,none⟩ v2 g hg,Below.heap_setCell _ ⟨b,1,none⟩ v1 g hg,Below.heap_setCell _ ⟨b,0,none⟩ v0 g hg]
theorem heap_set6 (w:World) (b:Nat) (v0 v1 v2 v3 v4 v5:Value) {g:Nat} (hg:g≠b):((((((w.setCell ⟨b,0,none⟩ v0).setCell ⟨b,1,none⟩ v1).setCell ⟨b,2,none⟩ v2).setCell ⟨b,3,none⟩ v3).setCell ⟨b,4,none⟩ v4).setCell ⟨b,5,none⟩ v5).heap[g]?=w.heap[g]?:=by
 rw[Below.heap_setCell _ ⟨b,5,none⟩ v5 g hg,Below.heap_setCell _ ⟨b,4,none⟩ v4 g hg,Below.heap_setCell _ ⟨b,3,none⟩ v3 g hg,Below.heap_setCell _ ⟨b,2,none⟩ v2 g hg,Below.heap_setCell _ ⟨b,1,none⟩ v1 g hg,Below.heap_setCell _ ⟨b,0,none⟩ v0 g hg]
theorem own_keepB {W V:World} {base:Nat} {e:TypeId} {size n:Nat} {v:Value} {xs:List Value} (h:W.ownsRow base e size v n xs) (hk: ∀g,base<=g->g<W.heap.size->V.heap[g]?=W.heap[g]?):V.ownsRow base e size v n xs:=
 Rw.own_keep h fun g hg=>hk g (Rw.own_lt h g hg).1 (Rw.own_lt h g hg).2
theorem FromS.keepB {base:Nat} {W V:World} {x y:StC} (h:FromS base W x y) (hk: ∀g,base<=g->g<W.heap.size->V.heap[g]?=W.heap[g]?):FromS base V x y:=by
 refine⟨h.s.imp id fun q=>own_keepB q hk,h.k.imp id fun q=>⟨own_keepB q.row hk,fun z hz=>?_⟩,h.m.imp id fun q=>⟨own_keepB q.1 hk,fun z hz=>(q.2 z hz).imp id fun r=>own_keepB r hk⟩⟩
 refine(q.line z hz).keep fun g hg=>?_
 obtain⟨h1,cs,h2⟩:=(q.line z hz).2 g hg
 exact hk g h1 (Array.getElem?_eq_some_iff.1 h2).1
def put2W (W:World) (o:Obj) (nb:Nat) (z:StC) (v0 v1 v2 v3:Value):World:=
 (((((((((((W.alloc o).setCell ⟨nb,0,none⟩ (.int .i64 z.time)).setCell ⟨nb,1,none⟩ (.int .i64 z.num)).setCell ⟨nb,2,none⟩ (.int .i64 z.token)).setCell ⟨nb,3,none⟩ (.slice z.sa z.S.length z.sc)).setCell ⟨nb,4,none⟩ (.slice z.ka z.K.length z.kc)).setCell ⟨nb,5,none⟩ (.slice z.ma z.M.length z.mc)).setCell ⟨W.heap.size,0,none⟩ v0).setCell ⟨W.heap.size,1,none⟩ v1).setCell ⟨W.heap.size,2,none⟩ v2).setCell ⟨W.heap.size,3,none⟩ v3)
theorem put2_heap (W:World) (o:Obj) (nb:Nat) (z:StC) (v0 v1 v2 v3:Value) {g:Nat} (h1:g<W.heap.size) (h2:g≠nb):(put2W W o nb z v0 v1 v2 v3).heap[g]?=W.heap[g]?:=by
 unfold put2W
 rw[heap_set4 _ _ _ _ _ _ (by omega),heap_set6 _ _ _ _ _ _ _ _ h2]
 exact(newAlloc W o).block g h1
theorem CurA.put2 {w W:World} {HI nb:Nat} {r:ReqV} {x y:StC} (h:CurA w HI nb r x y W) (hw:w.heap.size=nb) (hl:nb+3<HI) (z:StC) {base:Nat} (hb:HI<=base) (hF:FromS base W y z) (o:Obj) (v0 v1 v2 v3:Value):
  CurA w HI nb r x z (put2W W o nb z v0 v1 v2 v3):=by
 have hs:=h.sz
 have hN:W.heap.size≠nb/\W.heap.size≠nb+1/\W.heap.size≠nb+2/\W.heap.size≠nb+3:=by omega
 have hF2:=(h.F.trans (hF.lower hb)).keepB (V:=put2W W o nb z v0 v1 v2 v3) fun g h1 h2=>put2_heap W o nb z v0 v1 v2 v3 h2 (by omega)
 have hn:=newAlloc W o
 refine⟨?_,?_,?_,?_,?_,hF2,?_⟩
 ·unfold put2W;simp;omega
 ·exact((h.X.later hn).put _ _ _ _ _ _ _ _ _ _ _ _).other4 hN.1 _ _ _ _
 ·exact((h.Q.later hn).other6 (by omega) _ _ _ _ _ _).other4 hN.2.1 _ _ _ _
 ·exact((h.Z.later hn).other6 (by omega) _ _ _ _ _ _).other4 hN.2.2.1 _ _ _ _
 ·exact(((((h.R.later hn).other6 (by omega) _ _ _ _ _ _).other hN.2.2.2 0 _).other hN.2.2.2 1 _).other hN.2.2.2 2 _).other hN.2.2.2 3 _
 ·exact set4k (below_set6 (step h.B hn) nb (Nat.le_of_eq hw) _ _ _ _ _ _) W.heap.size (by omega) _ _ _ _
theorem four_set {w:World} {b:Nat} {u0 u1 u2 u3:Value} (h:Four w b u0 u1 u2 u3) (v0 v1 v2 v3:Value):Four ((((w.setCell ⟨b,0,none⟩ v0).setCell ⟨b,1,none⟩ v1).setCell ⟨b,2,none⟩ v2).setCell ⟨b,3,none⟩ v3) b v0 v1 v2 v3:=by
 obtain⟨e0,e1,e2,e3⟩:=h
 refine⟨?_,?_,?_,?_⟩<;>simp [go_sem,e0,e1,e2,e3]
theorem CurA.set5 {w W:World} {HI nb:Nat} {r:ReqV} {x y:StC} (h:CurA w HI nb r x y W) (hw:w.heap.size=nb) (hl:nb+3<HI) (M:List MemC) (a:Option Addr) (p:Nat) {base:Nat} (hb:HI<=base) (ho:OwnM base W (.slice a M.length p) M):
  CurA w HI nb r x { y with M:=M,ma:=a,mc:=p } (W.setCell ⟨nb,5,none⟩ (.slice a M.length p)):=
 ⟨by simpa using h.sz,h.X.set5 M a p,h.Q.other (by omega) 5 _,h.Z.other (by omega) 5 _,h.R.other (by omega) 5 _,FromS.setBelow (y:= { y with M:=M,ma:=a,mc:=p }) ⟨h.F.s,h.F.k,.inr ⟨own_lowerX ho.row hb,fun z hz=>.inr (own_lowerX (ho.held z hz) hb)⟩⟩ (by omega) 5 _,h.B.setCell (Nat.le_of_eq hw) _⟩
theorem put2_four {W:World} {nb:Nat} (hn:W.heap.size≠nb) {z:StC} {t:TypeId} {u0 u1 u2 u3 v0 v1 v2 v3:Value} :Four (put2W W (.cells #[u0,u1,u2,u3] t) nb z v0 v1 v2 v3) W.heap.size v0 v1 v2 v3:=by
 exact four_set (other6_four (show Four _ W.heap.size _ _ _ _ from box4 (Below.refl _ (W.alloc (.cells #[u0,u1,u2,u3] t)))) (fun q=>hn q.symm) _ _ _ _ _ _) _ _ _ _
set_option maxHeartbeats 8000000 in
theorem AutoApply_new (x:StC) (r:ReqV) (w:World) (h:RdSt w x) (hR:Rst x.v) (hn:x.num<2305843009213693900) (ht:x.token<2305843009213693900) (hma:mayR r=true) (hfo: ¬freshM (valsM x.M) r.client r.seq<0) (hfn: ¬freshM (valsM x.M) r.client r.seq=0):Calls Tryz.prog 15 #[stVal x,reqVal r] w (GetsAp (applyA x.v r) x w):=by
 obtain⟨W1,hW1⟩: ∃W1,W1=w.alloc (.cells #[.int .i64 x.time,.int .i64 x.num,.int .i64 x.token,x.sv,x.kv,x.mv] 26):=⟨_,rfl⟩
 have hb1:Below w.heap.size w W1:=by rw[hW1];exact newAlloc _ _
 have hB1:BoxS W1 w.heap.size x:=by rw[hW1];exact BoxS.new w x _
 have hs1:W1.heap.size=w.heap.size+1:=by rw[hW1];simp
 obtain⟨W2,hW2⟩: ∃W2,W2=W1.alloc (.cells #[.int .i64 r.client,.int .i64 r.seq,.int .i64 r.cmd.kind,.int .i64 r.cmd.session,.string (bstr r.cmd.name)] 30):=⟨_,rfl⟩
 have hb2:Below W1.heap.size W1 W2:=by rw[hW2];exact newAlloc _ _
 have hQ:BoxR W2 (w.heap.size+1) r:=by rw[<-hs1,hW2];exact BoxR.new W1 r _
 have hs2:W2.heap.size=w.heap.size+2:=by rw[hW2];simp [hs1]
 obtain⟨W3,hW3⟩: ∃W3,W3=W2.alloc (.cells #[.int .i64 0,.int .i64 0,.int .i64 0,.slice none 0 0,.slice none 0 0,.slice none 0 0] 26):=⟨_,rfl⟩
 have hb3:Below W2.heap.size W2 W3:=by rw[hW3];exact newAlloc _ _
 have hZ:BoxS W3 (w.heap.size+2) zeroC10:=by rw[<-hs2,hW3];exact BoxS.new W2 zeroC10 _
 have hs3:W3.heap.size=w.heap.size+3:=by rw[hW3];simp [hs2]
 obtain⟨W4,hW4⟩: ∃W4,W4=W3.alloc (.cells #[.int .i64 0,.int .i64 0,.int .i64 0,.slice none 0 0] 36):=⟨_,rfl⟩
 have hb4:Below W3.heap.size W3 W4:=by rw[hW4];exact newAlloc _ _
 have hER:EmptyR W4 (w.heap.size+3):=by rw[<-hs3,hW4];exact EmptyR.new W3
 have hs4:W4.heap.size=w.heap.size+4:=by rw[hW4];simp [hs3]
 have hCU:CurA w W4.heap.size w.heap.size r x x W4:=⟨Nat.le_refl _,hB1.later (step hb2 (step hb3 hb4)),hQ.later (step hb3 hb4),hZ.later hb4,hER,FromS.refl _ _ _,step hb1 (step hb2 (step hb3 hb4))⟩
 have HRD:Hid (∀W,Below w.heap.size w W->RdSt W x):=hid fun W hb=>h.later hb
 have HRR:=hid hR
 have HSM:=hid hR.small
 obtain⟨HI,hHI'⟩: ∃HI,W4.heap.size=HI:=⟨_,rfl⟩
 obtain⟨nb,hnb⟩: ∃nb,w.heap.size=nb:=⟨_,rfl⟩
 have HNB:=hid hnb
 have hlt3:nb+3<HI:=by omega
 have hHI:w.heap.size<=HI:=by omega
 rw[hHI'] at hCU
 have HC0:Hid (CurA w HI nb r x x W4):=hid (by rw[hnb] at hCU;exact hCU)
 clear hCU hnb h hR hb1 hb2 hb3 hb4 hB1 hZ hQ hER hs1 hs2 hs3 hs4 hHI'
 obtain⟨R,hRV⟩: ∃R,applyA x.v r=R:=⟨_,rfl⟩
 have HRV:=hid hRV
 rw[hRV]
 clear hRV
 have KM:=hid (fun W=>MayReq_any r W)
 have KCP:=hid (fun W (hb:Below w.heap.size w W)=>CopyA_any x W (HRD.out W hb) HSM.out)
 obtain⟨xt,xn,xk,xS,sa,sc,xK,ka,kc,xM,ma,mc⟩:=x
 obtain⟨rc,rs,⟨rk,rn,rm⟩⟩:=r
 unfold stVal reqVal
 unfold reqVal at KM
 simp only[StC.sv,StC.kv,StC.mv] at hW1 KCP ⊢
 dsimp only at hW2 KM
 obtain⟨c0,c1,c2,c3,c4,c5,cf⟩:=HC0.out.X
 simp only[StC.sv,StC.kv,StC.mv] at c0 c1 c2 c3 c4 c5
 obtain⟨q0,q1,q2,q3,q4⟩:=HC0.out.Q
 dsimp only at q0 q1 q2 q3 q4
 unfold stVal at KCP
 simp only[StC.sv,StC.kv,StC.mv] at KCP
 dsimp only at hfo hfn hn ht
 go_enter Tryz.func15,Tryz.ntmps15
 go_upto_region 1 with fail
 rw[<-hW1,<-hW2,<-hW3,<-hW4]
 rw[HNB.out]
 try rw[show nb+1+1+1=nb+3 from rfl]
 try rw[show nb+1+1=nb+2 from rfl]
 clear hW1 hW2 hW3 hW4
 go_upto_region 2 with (go_at_call 56;refine(KCP.out _ HC0.out.B).mono ?_;rintro e w5 ⟨⟨ut,un,uk,uS,ua,uc,uK,uka,ukc,uM,uma,umc⟩,he,hv5,hf5,hb5⟩;unfold stVal at he;simp only[StC.sv,StC.kv,StC.mv] at he;subst he;have HV5:=hid hv5;have HF5:=hid hf5;have HB45:=hid hb5;obtain⟨c0,c1,c2,c3,c4,c5,cf⟩:=HC0.out.X.later hb5;simp only[StC.sv,StC.kv,StC.mv] at c0 c1 c2 c3 c4 c5;clear hv5 hf5 hb5)
 have hC5:=(HC0.out.later HB45.out).put HNB.out hlt3 ⟨ut,un,uk,uS,ua,uc,uK,uka,ukc,uM,uma,umc⟩ HC0.out.sz HF5.out
 dsimp only at hC5
 obtain⟨W5,hW5⟩: ∃W5,W5=(((((w5.setCell ⟨nb,0,none⟩ (.int .i64 ut)).setCell ⟨nb,1,none⟩ (.int .i64 un)).setCell ⟨nb,2,none⟩ (.int .i64 uk)).setCell ⟨nb,3,none⟩ (.slice ua uS.length uc)).setCell ⟨nb,4,none⟩ (.slice uka uK.length ukc)).setCell ⟨nb,5,none⟩ (.slice uma uM.length umc):=⟨_,rfl⟩
 rw[<-hW5] at hC5 ⊢
 have HC5:=hid hC5
 have HRU:Hid (Rst (StC.v ⟨ut,un,uk,uS,ua,uc,uK,uka,ukc,uM,uma,umc⟩)):=hid (by rw[HV5.out];exact HRR.out)
 have HRV5:Hid (applyA (StC.v ⟨ut,un,uk,uS,ua,uc,uK,uka,ukc,uM,uma,umc⟩) ⟨rc,rs,⟨rk,rn,rm⟩⟩=R):=hid (by rw[HV5.out];exact HRV.out)
 have HRDU:Hid (∀W,Below W5.heap.size W5 W->RdSt W ⟨ut,un,uk,uS,ua,uc,uK,uka,ukc,uM,uma,umc⟩):=hid fun W hb=>(HC5.out.F.later hb).rd (HRD.out W (step HC5.out.B hb))
 clear hW5 hC5 HF5 KCP HRV
 clear c0 c1 c2 c3 c4 c5 cf q0 q1 q2 q3 q4
 obtain⟨c0,c1,c2,c3,c4,c5,cf⟩:=HC5.out.X
 simp only[StC.sv,StC.kv,StC.mv] at c0 c1 c2 c3 c4 c5
 obtain⟨q0,q1,q2,q3,q4⟩:=HC5.out.Q
 dsimp only at q0 q1 q2 q3 q4
 have hum:valsM uM=valsM xM:=congrArg StV.memos HV5.out
 have hun:un=xn:=congrArg StV.num HV5.out
 have huk:uk=xk:=congrArg StV.token HV5.out
 rw[<-hum] at hfo hfn
 have hfo': ¬freshM (valsM uM) rc rs<0:=by omega
 have hn':un<2305843009213693900:=by rw[hun];exact hn
 have ht':uk<2305843009213693900:=by rw[huk];exact ht
 obtain⟨hrc,hrs,hrm⟩:=mayR_bounds _ hma
 dsimp only at hrc hrs hrm
 have hcl:clientF rc=true:=by unfold clientF;simp;omega
 have hee:=exec_eq HRU.out ⟨rc,rs,⟨rk,rn,rm⟩⟩ hcl (by show un< _;omega)
 dsimp only at hee
 have HRE:Hid (R=(keptA (doesA (StC.v ⟨ut,un,uk,uS,ua,uc,uK,uka,ukc,uM,uma,umc⟩) ⟨rc,rs,⟨rk,rn,rm⟩⟩).1 ⟨rc,rs,(doesA (StC.v ⟨ut,un,uk,uS,ua,uc,uK,uka,ukc,uM,uma,umc⟩) ⟨rc,rs,⟨rk,rn,rm⟩⟩).2⟩,(doesA (StC.v ⟨ut,un,uk,uS,ua,uc,uK,uka,ukc,uM,uma,umc⟩) ⟨rc,rs,⟨rk,rn,rm⟩⟩).2,true)):=hid (by
  rw[<-HRV5.out]
  unfold applyA
  exact(if_neg (fun q=>Bool.noConfusion (hma.symm.trans q))).trans ((if_neg hfo').trans (if_neg hfn)))
 have KE:=hid (fun W (hb:Below W5.heap.size W5 W)=>AutoExec_any ⟨ut,un,uk,uS,ua,uc,uK,uka,ukc,uM,uma,umc⟩ rc ⟨rk,rn,rm⟩ W (HRDU.out W hb) HRU.out hcl hrm hn' ht')
 have HDN:Hid (Next (StC.v ⟨ut,un,uk,uS,ua,uc,uK,uka,ukc,uM,uma,umc⟩) (doesA (StC.v ⟨ut,un,uk,uS,ua,uc,uK,uka,ukc,uM,uma,umc⟩) ⟨rc,rs,⟨rk,rn,rm⟩⟩).1):=hid (does_next HRU.out hrm hn' ht')
 have HDM0:Hid ((doesA (StC.v ⟨ut,un,uk,uS,ua,uc,uK,uka,ukc,uM,uma,umc⟩) ⟨rc,rs,⟨rk,rn,rm⟩⟩).1.memos =valsM uM):=hid (does_memos _ _)
 have HDK0:Hid (mayA ⟨rc,rs,(doesA (StC.v ⟨ut,un,uk,uS,ua,uc,uK,uka,ukc,uM,uma,umc⟩) ⟨rc,rs,⟨rk,rn,rm⟩⟩).2⟩=true->(doesA (StC.v ⟨ut,un,uk,uS,ua,uc,uK,uka,ukc,uM,uma,umc⟩) ⟨rc,rs,⟨rk,rn,rm⟩⟩).2.held.length <=1000):=hid fun q=>by
  have:=(mayP_bounds _ (mayA_bounds _ q).2.2).2.2.2.1
  dsimp only at this
  omega
 have HHL0:Hid ((doesA (StC.v ⟨ut,un,uk,uS,ua,uc,uK,uka,ukc,uM,uma,umc⟩) ⟨rc,rs,⟨rk,rn,rm⟩⟩).2.held.length <=1000):=hid (does_held HRU.out hrm hn' ht')
 rw[hee] at KE
 obtain⟨⟨DS,⟨dc,dn,da,dh⟩⟩,hD⟩: ∃D,doesA (StC.v ⟨ut,un,uk,uS,ua,uc,uK,uka,ukc,uM,uma,umc⟩) ⟨rc,rs,⟨rk,rn,rm⟩⟩=D:=⟨_,rfl⟩
 rw[hD] at KE HRE HDN HDM0 HHL0
 dsimp only at HRE HDN HDM0 HHL0
 unfold stVal at KE
 simp only[StC.sv,StC.kv,StC.mv] at KE
 clear hfo' hum hun huk hn ht hn' ht' hrc hrs hrm hee hD HRV5 HDK0
 have KFU:=hid (fun W (hb:Below W5.heap.size W5 W)=>MemFresh_any (.slice uma uM.length umc) uM rc rs W (HRDU.out W hb).m HRU.out.memos)
 obtain⟨fr,hfr⟩: ∃fr,freshM (valsM uM) rc rs=fr:=⟨_,rfl⟩
 rw[hfr] at KFU
 have HFR:=hid hfr
 clear hfr
 obtain⟨mr,hmr⟩: ∃mr,mayR ⟨rc,rs,⟨rk,rn,rm⟩⟩=mr:=⟨_,rfl⟩
 rw[hmr] at KM
 have hm0:mr=true:=by rw[<-hmr];exact hma
 subst hm0
 go_upto_region 4 with (go_at_call 57;refine(KM.out W5).mono ?_;rintro e w6 ⟨rfl,hb6⟩;have HB56:=hid hb6;clear hb6)
 have HC6:=hid (HC5.out.later HB56.out)
 clear hmr KM
 clear c0 c1 c2 c3 c4 c5 cf q0 q1 q2 q3 q4
 obtain⟨c0,c1,c2,c3,c4,c5,cf⟩:=HC6.out.X
 simp only[StC.sv,StC.kv,StC.mv] at c0 c1 c2 c3 c4 c5
 obtain⟨q0,q1,q2,q3,q4⟩:=HC6.out.Q
 dsimp only at q0 q1 q2 q3 q4
 go_upto_region 5 with (go_at_call 58;refine(KFU.out w6 HB56.out).mono ?_;rintro e w7 ⟨rfl,hb7⟩;have HB67:=hid hb7;clear hb7)
 have HC7:=hid (HC6.out.later HB67.out)
 have HB57:=hid (step HB56.out HB67.out)
 clear KFU
 clear c0 c1 c2 c3 c4 c5 cf q0 q1 q2 q3 q4
 obtain⟨c0,c1,c2,c3,c4,c5,cf⟩:=HC7.out.X
 simp only[StC.sv,StC.kv,StC.mv] at c0 c1 c2 c3 c4 c5
 obtain⟨q0,q1,q2,q3,q4⟩:=HC7.out.Q
 dsimp only at q0 q1 q2 q3 q4
 have hfe:fr=1:=by
  have:=fresh_vals (valsM uM) rc rs
  rw[HFR.out] at this hfo hfn
  omega
 have g1:(fr==(-1:Int))=false:=by simp [hfe]
 have g2:(fr==(0:Int))=false:=by simp [hfe]
 clear hfo hfn hma hfe hcl
 go_upto_region 11 with (go_at_call 60;refine(KE.out w7 HB57.out).mono ?_;rintro e w8 ⟨⟨yt,yn,yk,yS,ya,yc,yK,yka,ykc,yM,yma,ymc⟩,a8,p8,he,hv8,hf8,ho8,hb8⟩;unfold stVal at he;simp only[StC.sv,StC.kv,StC.mv] at he;dsimp only at ho8;subst he;have HV8:=hid hv8;have HF8:=hid hf8;have HO8:=hid ho8;have HB78:=hid hb8;have HA8:Hid (Below w8.heap.size w8 (w8.alloc (.cells #[.int .i64 0,.int .i64 0,.int .i64 0,.slice none 0 0] 36))):=hid (newAlloc _ _);obtain⟨e0,e1,e2,e3⟩:=box4 (Below.refl _ (w8.alloc (.cells #[.int .i64 0,.int .i64 0,.int .i64 0,.slice none 0 0] 36)));have ef:=free4k (Below.refl _ (w8.alloc (.cells #[.int .i64 0,.int .i64 0,.int .i64 0,.slice none 0 0] 36)));obtain⟨b0,b1,b2,b3,b4,b5,bf⟩:=(HC7.out.X.later hb8).later HA8.out;simp only[StC.sv,StC.kv,StC.mv] at b0 b1 b2 b3 b4 b5;have hltb:nb+3<w8.heap.size:=(by have:=hb8.size;have:=HC7.out.sz;omega);have hn1:w8.heap.size≠nb:=(by omega);have hn2:nb≠w8.heap.size:=(by omega);clear hv8 hf8 ho8 hb8)
 obtain⟨W9,hW9⟩: ∃W9,W9=put2W w8 (.cells #[.int .i64 0,.int .i64 0,.int .i64 0,.slice none 0 0] 36) nb ⟨yt,yn,yk,yS,ya,yc,yK,yka,ykc,yM,yma,ymc⟩ (.int .i64 dc) (.int .i64 dn) (.int .i64 da) (.slice a8 dh.length p8):=⟨_,rfl⟩
 have hsz7:=HC7.out.sz
 have HC8:=HC7.out.later HB78.out
 have HC9:Hid (CurA w HI nb ⟨rc,rs,⟨rk,rn,rm⟩⟩ ⟨xt,xn,xk,xS,sa,sc,xK,ka,kc,xM,ma,mc⟩ ⟨yt,yn,yk,yS,ya,yc,yK,yka,ykc,yM,yma,ymc⟩ W9):=hid (by rw[hW9];exact HC8.put2 HNB.out hlt3 ⟨yt,yn,yk,yS,ya,yc,yK,yka,ykc,yM,yma,ymc⟩ hsz7 HF8.out _ _ _ _ _)
 have HO9:Hid (W9.ownsRow w7.heap.size 57 2 (.slice a8 dh.length p8) dh.length (flatX cellsG dh)):=hid (by rw[hW9];exact own_keepB HO8.out fun g h1 h2=>put2_heap _ _ _ _ _ _ _ _ h2 (by omega))
 have hg9:Four W9 w8.heap.size (.int .i64 dc) (.int .i64 dn) (.int .i64 da) (.slice a8 dh.length p8):=by rw[hW9];exact put2_four hn1
 unfold put2W at hW9
 dsimp only at hW9
 rw[<-hW9]
 have hRY:Rst (StC.v ⟨yt,yn,yk,yS,ya,yc,yK,yka,ykc,yM,yma,ymc⟩):=by rw[HV8.out];exact HDN.out.right
 have hmy:valsM yM=DS.memos:=congrArg StV.memos HV8.out
 have KK:=hid (MemKeep_own (.slice yma yM.length ymc) (.slice a8 dh.length p8) yM ⟨rc,rs,⟨dc,dn,da,dh⟩⟩ W9 (HC9.out.F.rd (HRD.out W9 HC9.out.B)).m hRY.memos hRY.small.m (RdH.of (RdX.own cellsG_length HO9.out)) HHL0.out)
 unfold ansVal at KK
 rw[hmy] at KK
 dsimp only at KK
 have HMY:=hid hmy
 obtain⟨bt,hbt⟩: ∃bt,w8.heap.size=bt:=⟨_,rfl⟩
 rw[hbt] at hltb hn1 hn2 hg9 ⊢
 have HG9:=hid hg9
 clear hbt hW9 hg9 hRY hmy b0 b1 b2 b3 b4 b5 bf e0 e1 e2 e3 ef HC8 HA8
 clear c0 c1 c2 c3 c4 c5 cf q0 q1 q2 q3 q4
 obtain⟨c0,c1,c2,c3,c4,c5,cf⟩:=HC9.out.X
 simp only[StC.sv,StC.kv,StC.mv] at c0 c1 c2 c3 c4 c5
 obtain⟨q0,q1,q2,q3,q4⟩:=HC9.out.Q
 dsimp only at q0 q1 q2 q3 q4
 obtain⟨g0,g1',g2',g3⟩:=HG9.out
 go_upto_region 12 with (go_at_call 61;refine KK.out.mono ?_;rintro e w10 ⟨a10,p10,M10,rfl,hm10,ho10,hb10⟩;have HM10:=hid hm10;have HO10:=hid ho10;have HB10:=hid hb10;obtain⟨d0,d1,d2,d3,d4,d5,df⟩:=HC9.out.X.later hb10;simp only[StC.sv,StC.kv,StC.mv] at d0 d1 d2 d3 d4 d5;clear hm10 ho10 hb10)
 have hC11:=(HC9.out.later HB10.out).set5 HNB.out hlt3 M10 a10 p10 HC9.out.sz HO10.out
 have hG11:=other_four (show Four w10 bt (.int .i64 dc) (.int .i64 dn) (.int .i64 da) (.slice a8 dh.length p8) from⟨(HB10.out.cell (lt_of_cell g0)).trans g0,(HB10.out.cell (lt_of_cell g1')).trans g1',(HB10.out.cell (lt_of_cell g2')).trans g2',(HB10.out.cell (lt_of_cell g3)).trans g3⟩) hn2 5 (.slice a10 M10.length p10)
 have hO11:=ownsRow_setCell_below (a:=⟨nb,5,none⟩) (Rw.own_below HO9.out HB10.out) (show nb<w7.heap.size by omega) (.slice a10 M10.length p10)
 dsimp only at hC11
 obtain⟨W11,hW11⟩: ∃W11,W11=w10.setCell ⟨nb,5,none⟩ (.slice a10 M10.length p10):=⟨_,rfl⟩
 rw[<-hW11] at hC11 hG11 hO11 ⊢
 have HC11:=hid hC11
 have HG11:=hid hG11
 have HO11:=hid hO11
 clear hW11 hC11 hG11 hO11 d0 d1 d2 d3 d4 d5 df g0 g1' g2' g3 c0 c1 c2 c3 c4 c5 cf q0 q1 q2 q3 q4
 obtain⟨z0,z1,z2,z3,z4,z5,zf⟩:=HC11.out.Z
 simp only[zeroC10,StC.sv,StC.kv,StC.mv,List.length_nil] at z0 z1 z2 z3 z4 z5
 obtain⟨⟨r0,r1,r2,r3⟩,rf⟩:=HC11.out.R _ (Below.refl _ _)
 refine wp_region_held_drew (S:=(fun W=>((W.cell? ⟨nb,0,none⟩=some (.int .i64 yt)/\W.cell? ⟨nb,1,none⟩=some (.int .i64 yn)/\W.cell? ⟨nb,2,none⟩=some (.int .i64 yk))/\W.cell? ⟨nb,3,none⟩=some (.slice ya yS.length yc)/\W.cell? ⟨nb,4,none⟩=some (.slice yka yK.length ykc)/\W.cell? ⟨nb,5,none⟩=some (.slice a10 M10.length p10))/\W.cell? ⟨bt,0,none⟩=some (.int .i64 dc)/\W.cell? ⟨bt,1,none⟩=some (.int .i64 dn)/\W.cell? ⟨bt,2,none⟩=some (.int .i64 da)/\W.cell? ⟨bt,3,none⟩=some (.slice a8 dh.length p8))) (by kernel_rfl) (⟨(HC11.out.X.later (Below.refl _ W11).drew).cells,HG11.out.drew⟩) (fun hHeld=>?_)
 refine wpAnyH_take (i:=0) (v:=?_) rfl (by kernel_rfl) (by kernel_rfl) (by kernel_rfl) (fun _ _ _ h=>h) (Or.inl ⟨by rfl,?_⟩) (by assumption) ?_
 rotate_left
 ·intro w hSw;(try dsimp only at hSw);go_simp<;>with_reducible rfl
 try simp only[Act.put,getElem_toArray,getElem_cons_zero,setIfInBounds_toArray,set_cons_zero,set_cons_succ]
 refine wpAnyH_take (i:=1) (v:=?_) rfl (by kernel_rfl) (by kernel_rfl) (by kernel_rfl) (fun _ _ _ h=>h) (Or.inl ⟨by rfl,?_⟩) (by assumption) ?_
 rotate_left
 ·intro w hSw;(try dsimp only at hSw);go_simp<;>with_reducible rfl
 try simp only[Act.put,getElem_toArray,getElem_cons_succ,getElem_cons_zero,setIfInBounds_toArray,set_cons_zero,set_cons_succ]
 refine wpAnyH_ready (rs:= [2]) (by kernel_rfl) (by simp) ?_
 refine AllReadyH.cons rfl (fun K hK=>?_) AllReadyH.nil
 go_simp
 refine hK.out _ _ ((⟨((HC11.out.X.other6 (show nb+2≠nb by omega) (.int .i64 yt) (.int .i64 yn) (.int .i64 yk) (.slice ya yS.length yc) (.slice yka yK.length ykc) (.slice a10 M10.length p10)).later (Below.refl _ _).drew).cells,(other6_four HG11.out (show nb+2≠bt by omega) (.int .i64 yt) (.int .i64 yn) (.int .i64 yk) (.slice ya yS.length yc) (.slice yka yK.length ykc) (.slice a10 M10.length p10)).drew⟩)) (fun hHeld=>?_)
 clear hK K
 try simp only[Act.put,getElem_toArray,getElem_cons_succ,getElem_cons_zero,setIfInBounds_toArray,set_cons_zero,set_cons_succ]
 refine wpAnyH_ready (rs:= [3]) (by kernel_rfl) (by simp) ?_
 refine AllReadyH.cons rfl (fun K hK=>?_) AllReadyH.nil
 go_simp
 refine hK.out _ _ ((⟨(((HC11.out.X.other6 (show nb+2≠nb by omega) (.int .i64 yt) (.int .i64 yn) (.int .i64 yk) (.slice ya yS.length yc) (.slice yka yK.length ykc) (.slice a10 M10.length p10)).other4 (show nb+3≠nb by omega) (.int .i64 dc) (.int .i64 dn) (.int .i64 da) (.slice a8 dh.length p8)).later (Below.refl _ _).drew).cells,(other4_four (other6_four HG11.out (show nb+2≠bt by omega) (.int .i64 yt) (.int .i64 yn) (.int .i64 yk) (.slice ya yS.length yc) (.slice yka yK.length ykc) (.slice a10 M10.length p10)) (show nb+3≠bt by omega) (.int .i64 dc) (.int .i64 dn) (.int .i64 da) (.slice a8 dh.length p8)).drew⟩)) (fun hHeld=>?_)
 clear hK K
 try simp only[Act.put,getElem_toArray,getElem_cons_succ,getElem_cons_zero,setIfInBounds_toArray,set_cons_zero,set_cons_succ]
 refine wpAnyH_take (i:=4) (v:=?_) rfl (by kernel_rfl) (by kernel_rfl) (by kernel_rfl) (fun _ _ _ h=>h) (Or.inl ⟨by rfl,?_⟩) (by assumption) ?_
 rotate_left
 ·intro w hSw;(try dsimp only at hSw);go_simp<;>with_reducible rfl
 try simp only[Act.put,getElem_toArray,getElem_cons_succ,getElem_cons_zero,setIfInBounds_toArray,set_cons_zero,set_cons_succ]
 refine wpAnyH_done (by kernel_rfl) ?_ _
 have HBE:=hid (set4k (below_set6 HC11.out.B (nb+2) (by have:=HNB.out;omega) (.int .i64 yt) (.int .i64 yn) (.int .i64 yk) (.slice ya yS.length yc) (.slice yka yK.length ykc) (.slice a10 M10.length p10)) (nb+3) (by have:=HNB.out;omega) (.int .i64 dc) (.int .i64 dn) (.int .i64 da) (.slice a8 dh.length p8)).drew
 have HFE:=hid (((FromS.set4 (FromS.set6 HC11.out.F (show nb+2<HI from by omega) (.int .i64 yt) (.int .i64 yn) (.int .i64 yk) (.slice ya yS.length yc) (.slice yka yK.length ykc) (.slice a10 M10.length p10)) (show nb+3<HI from hlt3) (.int .i64 dc) (.int .i64 dn) (.int .i64 da) (.slice a8 dh.length p8)).lower hHI).later (Below.refl _ _).drew)
 have HOE:=hid (Rw.own_below (own_set4z (own_set6z HO11.out (show nb+2<w7.heap.size by omega) (.int .i64 yt) (.int .i64 yn) (.int .i64 yk) (.slice ya yS.length yc) (.slice yka yK.length ykc) (.slice a10 M10.length p10)) (show nb+3<w7.heap.size by omega) (.int .i64 dc) (.int .i64 dn) (.int .i64 da) (.slice a8 dh.length p8)) (Below.refl _ _).drew)
 go_wp2
 refine bodyPost_ret (by simp [results,Tryz.results15,go_sem,z0,z1,z2,z3,z4,z5,zf,r0,r1,r2,r3,rf]<;>rfl) rfl ?_
 rw[HRE.out]
 exact⟨⟨yt,yn,yk,yS,ya,yc,yK,yka,ykc,M10,a10,p10⟩,a8,p8,rfl,by rw[<-HV8.out];unfold keptA StC.v;dsimp only;rw[HM10.out,HMY.out],HFE.out,RdH.of (RdX.own cellsG_length HOE.out),HBE.out⟩
theorem AutoApply_any (x:StC) (r:ReqV) (w:World) (h:RdSt w x) (hR:Rst x.v) (hn:x.num<2305843009213693900) (ht:x.token<2305843009213693900):Calls Tryz.prog 15 #[stVal x,reqVal r] w (GetsAp (applyA x.v r) x w):=by
 cases hma:mayR r with
 | false=>exact AutoApply_arg x r w h hR hma
 | true=>
  by_cases hfo:freshM (valsM x.M) r.client r.seq<0
  ·exact AutoApply_old x r w h hR hma hfo
  by_cases hfn:freshM (valsM x.M) r.client r.seq=0
  ·exact AutoApply_same x r w h hR hma hfn
  ·exact AutoApply_new x r w h hR hn ht hma hfo hfn
end Cm
end Go.Proofs.YtclcgkpfcogcdaaGreat
