/- Texts laid together by program. -/
import Derived.Test.YtlnbmblbeaodcaaGreatQS36
import Derived.Test.YtlnbmblbeaodcaaGreatQS42
/- Contract: padlockref6's Apply (made by tools/gen_auth.py). -/
set_option linter.unusedVariables false
set_option maxRecDepth 8000
set_option linter.unusedSimpArgs false
namespace Go.Proofs.YtlnbmblbeaodcaaGreat
open Lib (hid)
open List (getElem_toArray getElem_cons_succ getElem_cons_zero setIfInBounds_toArray set_cons_zero set_cons_succ)
open Go.RowKit
namespace Cm

def GetsAp (r:StV × ReplyV × Bool) (x:StC) (w:World) (e:Ending) (w':World):Prop:=
 ∃(y:StC) (a:Option Addr) (p:Nat),e= .returned (.tuple #[stVal y,.agg #[.int .i64 r.2.1.code,.int .i64 r.2.1.session,.int .i64 r.2.1.ahead,.slice a r.2.1.held.length p],.bool r.2.2])/\y.v=r.1/\FromS w.heap.size w' x y/\RdH w' (.slice a r.2.1.held.length p) r.2.1.held/\Below w.heap.size w w'
def Four (w:World) (b:Nat) (v0 v1 v2 v3:Value):Prop:=w.cell? ⟨b,0,none⟩=some v0/\w.cell? ⟨b,1,none⟩=some v1/\w.cell? ⟨b,2,none⟩=some v2/\w.cell? ⟨b,3,none⟩=some v3
theorem Four.drew {w:World} {b:Nat} {v0 v1 v2 v3:Value} (h:Four w b v0 v1 v2 v3):Four w.drew b v0 v1 v2 v3:=h
theorem other_four {w:World} {b g:Nat} {v0 v1 v2 v3:Value} (h:Four w b v0 v1 v2 v3) (hg:g≠b) (j:Nat) (v:Value):Four (w.setCell ⟨g,j,none⟩ v) b v0 v1 v2 v3:=by
 have hn: ∀k,(w.setCell ⟨g,j,none⟩ v).cell? ⟨b,k,none⟩=w.cell? ⟨b,k,none⟩:=fun k=>by
  simp only[World.cell?]
  rw[Below.heap_setCell w ⟨g,j,none⟩ v b (fun q=>hg (by have:b=g:=q;exact this.symm))]
 exact⟨(hn 0).trans h.1,(hn 1).trans h.2.1,(hn 2).trans h.2.2.1,(hn 3).trans h.2.2.2⟩
theorem other4_four {w:World} {b g:Nat} {v0 v1 v2 v3:Value} (h:Four w b v0 v1 v2 v3) (hg:g≠b) (x0 x1 x2 x3:Value):Four ((((w.setCell ⟨g,0,none⟩ x0).setCell ⟨g,1,none⟩ x1).setCell ⟨g,2,none⟩ x2).setCell ⟨g,3,none⟩ x3) b v0 v1 v2 v3:=
 other_four (other_four (other_four (other_four h hg 0 x0) hg 1 x1) hg 2 x2) hg 3 x3
theorem other6_four {w:World} {b g:Nat} {v0 v1 v2 v3:Value} (h:Four w b v0 v1 v2 v3) (hg:g≠b) (x0 x1 x2 x3 x4 x5:Value):Four ((((((w.setCell ⟨g,0,none⟩ x0).setCell ⟨g,1,none⟩ x1).setCell ⟨g,2,none⟩ x2).setCell ⟨g,3,none⟩ x3).setCell ⟨g,4,none⟩ x4).setCell ⟨g,5,none⟩ x5) b v0 v1 v2 v3:=
 other_four (other_four (other_four (other_four (other_four (other_four h hg 0 x0) hg 1 x1) hg 2 x2) hg 3 x3) hg 4 x4) hg 5 x5
theorem open_memos (s:StV) (c:Int):(openA s c).1.memos =s.memos:=by
 unfold openA
 split
 ·rfl
 ·split<;>rfl
theorem does_memos (s:StV) (r:ReqV):(doesA s r).1.memos =s.memos:=by
 unfold doesA
 split
 ·exact open_memos s r.client
 ·split
  ·rfl
  ·unfold cmdA
   split
   ·rfl
   ·split
    ·rfl
    ·split<;>rfl
set_option maxHeartbeats 8000000 in
theorem Apply_arg (x:StC) (r:ReqV) (w:World) (h:RdSt w x) (hs:Small x) (hk9:x.K.length<=900) (hn:0<=x.num/\x.num<=2305843009213693952) (hrm:Rm (valsM x.M)) (hma:mayR r=false):Calls Tryz.prog 15 #[stVal x,reqVal r] w (GetsAp (applyA x.v r) x w):=by
 obtain⟨W1,hW1⟩: ∃W1,W1=w.alloc (.cells #[.int .i64 x.time,.int .i64 x.num,.int .i64 x.token,x.sv,x.kv,x.mv] 26):=⟨_,rfl⟩
 have hb1:Below w.heap.size w W1:=by rw[hW1];exact newAlloc _ _
 have hB1:BoxS W1 w.heap.size x:=by rw[hW1];exact BoxS.new w x _
 have hs1:W1.heap.size=w.heap.size+1:=by rw[hW1];simp
 obtain⟨W2,hW2⟩: ∃W2,W2=W1.alloc (.cells #[.int .i64 r.client,.int .i64 r.seq,.int .i64 r.cmd.kind,.int .i64 r.cmd.session,.string (bstr r.cmd.name)] 30):=⟨_,rfl⟩
 have hb2:Below W1.heap.size W1 W2:=by rw[hW2];exact newAlloc _ _
 have hQ:BoxR W2 (w.heap.size+1) r:=by rw[<-hs1,hW2];exact BoxR.new W1 r _
 have hs2:W2.heap.size=w.heap.size+2:=by rw[hW2];simp [hs1]
 obtain⟨W3,hW3⟩: ∃W3,W3=W2.alloc (.cells #[.int .i64 0,.int .i64 0,.int .i64 0,.slice none 0 0,.slice none 0 0,.slice none 0 0] 26):=⟨_,rfl⟩
 have hb3:Below W2.heap.size W2 W3:=by rw[hW3];exact newAlloc _ _
 have hZ:BoxS W3 (w.heap.size+2) zeroC10:=by rw[<-hs2,hW3];exact BoxS.new W2 zeroC10 _
 have hs3:W3.heap.size=w.heap.size+3:=by rw[hW3];simp [hs2]
 obtain⟨W4,hW4⟩: ∃W4,W4=W3.alloc (.cells #[.int .i64 0,.int .i64 0,.int .i64 0,.slice none 0 0] 36):=⟨_,rfl⟩
 have hb4:Below W3.heap.size W3 W4:=by rw[hW4];exact newAlloc _ _
 have hR:EmptyR W4 (w.heap.size+3):=by rw[<-hs3,hW4];exact EmptyR.new W3
 have hs4:W4.heap.size=w.heap.size+4:=by rw[hW4];simp [hs3]
 have HX0:=hid (hB1.later (step hb2 (step hb3 hb4)))
 have HQ0:=hid (hQ.later (step hb3 hb4))
 have HZ0:=hid (hZ.later hb4)
 have HR0:=hid hR
 have HB0:=hid (step hb1 (step hb2 (step hb3 hb4)))
 have HRD:Hid (∀W,Below w.heap.size w W->RdSt W x):=hid fun W hb=>h.later hb
 have HSM:=hid hs
 obtain⟨HI,hHI'⟩: ∃HI,W4.heap.size=HI:=⟨_,rfl⟩
 obtain⟨nb,hnb⟩: ∃nb,w.heap.size=nb:=⟨_,rfl⟩
 have HNB:=hid hnb
 have hlt3:nb+3<HI:=by omega
 have hHI:w.heap.size<=HI:=by omega
 have hsz0:HI<=W4.heap.size:=Nat.le_of_eq hHI'.symm
 rw[hnb] at HX0 HZ0 HR0 HQ0
 clear hnb h hs hb1 hb2 hb3 hb4 hB1 hZ hQ hR hs1 hs2 hs3 hs4 hHI'
 have KM:=hid (fun W=>RefMayReq_any r W)
 obtain⟨xt,xn,xk,xS,sa,sc,xK,ka,kc,xM,ma,mc⟩:=x
 obtain⟨rc,rs,⟨rk,rn,rm⟩⟩:=r
 unfold stVal reqVal
 simp only[StC.sv,StC.kv,StC.mv] at hW1 ⊢
 dsimp only at hW2 hk9 hn hrm hma
 obtain⟨c0,c1,c2,c3,c4,c5,cf⟩:=HX0.out
 simp only[StC.sv,StC.kv,StC.mv] at c0 c1 c2 c3 c4 c5
 obtain⟨q0,q1,q2,q3,q4⟩:=HQ0.out
 dsimp only at q0 q1 q2 q3 q4
 obtain⟨R,hR⟩: ∃R,applyA (StC.v ⟨xt,xn,xk,xS,sa,sc,xK,ka,kc,xM,ma,mc⟩) ⟨rc,rs,⟨rk,rn,rm⟩⟩=R:=⟨_,rfl⟩
 have HRR:=hid hR
 rw[hR]
 clear hR
 obtain⟨mr,hmr⟩: ∃mr,mayR ⟨rc,rs,⟨rk,rn,rm⟩⟩=mr:=⟨_,rfl⟩
 rw[hmr] at KM
 have HMR:=hid hmr
 clear hmr
 unfold reqVal at KM
 dsimp only at KM
 have hm0:mr=false:=by rw[<-HMR.out];exact hma
 have hRR:R=(⟨xt,xn,xk,xS,vals xK,valsM xM⟩,⟨1,0,0,[]⟩,false):=by
  rw[<-HRR.out]
  unfold applyA
  exact if_pos hma
 clear HRR HMR hma
 subst hRR hm0
 go_enter Tryz.func15,Tryz.ntmps15
 go_upto_region 1 with fail
 rw[<-hW1,<-hW2,<-hW3,<-hW4]
 rw[HNB.out]
 try rw[show nb+1+1+1=nb+3 from rfl]
 try rw[show nb+1+1=nb+2 from rfl]
 clear hW1 hW2 hW3 hW4
 go_upto_region 2 with (go_at_call 56;refine(KM.out W4).mono ?_;rintro e w5 ⟨rfl,hb5⟩;have HB45:=hid hb5;clear hb5)
 have HBN5:=hid (step HB0.out HB45.out)
 have HX5:=hid (HX0.out.later HB45.out)
 have HQ5:=hid (HQ0.out.later HB45.out)
 have HZ5:=hid (HZ0.out.later HB45.out)
 have HR5:=hid (HR0.out.later HB45.out)
 have hsz5:HI<=w5.heap.size:=Nat.le_trans hsz0 HB45.out.size
 clear c0 c1 c2 c3 c4 c5 cf q0 q1 q2 q3 q4 HX0 HZ0 HR0 HQ0
 obtain⟨c0,c1,c2,c3,c4,c5,cf⟩:=HX5.out
 simp only[StC.sv,StC.kv,StC.mv] at c0 c1 c2 c3 c4 c5
 obtain⟨q0,q1,q2,q3,q4⟩:=HQ5.out
 dsimp only at q0 q1 q2 q3 q4
 obtain⟨z0,z1,z2,z3,z4,z5,zf⟩:=HZ5.out
 simp only[zeroC10,StC.sv,StC.kv,StC.mv,List.length_nil] at z0 z1 z2 z3 z4 z5
 obtain⟨⟨r0,r1,r2,r3⟩,rf⟩:=HR5.out _ (Below.refl _ _)
 have HBE:=hid (set4k (below_set6 HBN5.out (nb+2) (by have:=HNB.out;omega) (.int .i64 xt) (.int .i64 xn) (.int .i64 xk) (.slice sa xS.length sc) (.slice ka xK.length kc) (.slice ma xM.length mc)) (nb+3) (by have:=HNB.out;omega) (.int .i64 1) (.int .i64 0) (.int .i64 0) (.slice none 0 0))
 go_wp2
 refine bodyPost_ret (by simp [results,Tryz.results15,go_sem,z0,z1,z2,z3,z4,z5,zf,r0,r1,r2,r3,rf]<;>rfl) rfl ?_
 exact⟨⟨xt,xn,xk,xS,sa,sc,xK,ka,kc,xM,ma,mc⟩,none,0,rfl,rfl,FromS.refl _ _ _,RdH.nil _,HBE.out⟩
set_option maxHeartbeats 8000000 in
theorem Apply_old (x:StC) (r:ReqV) (w:World) (h:RdSt w x) (hs:Small x) (hk9:x.K.length<=900) (hn:0<=x.num/\x.num<=2305843009213693952) (hrm:Rm (valsM x.M)) (hma:mayR r=true) (hfo:freshM (valsM x.M) r.client r.seq<0):Calls Tryz.prog 15 #[stVal x,reqVal r] w (GetsAp (applyA x.v r) x w):=by
 obtain⟨W1,hW1⟩: ∃W1,W1=w.alloc (.cells #[.int .i64 x.time,.int .i64 x.num,.int .i64 x.token,x.sv,x.kv,x.mv] 26):=⟨_,rfl⟩
 have hb1:Below w.heap.size w W1:=by rw[hW1];exact newAlloc _ _
 have hB1:BoxS W1 w.heap.size x:=by rw[hW1];exact BoxS.new w x _
 have hs1:W1.heap.size=w.heap.size+1:=by rw[hW1];simp
 obtain⟨W2,hW2⟩: ∃W2,W2=W1.alloc (.cells #[.int .i64 r.client,.int .i64 r.seq,.int .i64 r.cmd.kind,.int .i64 r.cmd.session,.string (bstr r.cmd.name)] 30):=⟨_,rfl⟩
 have hb2:Below W1.heap.size W1 W2:=by rw[hW2];exact newAlloc _ _
 have hQ:BoxR W2 (w.heap.size+1) r:=by rw[<-hs1,hW2];exact BoxR.new W1 r _
 have hs2:W2.heap.size=w.heap.size+2:=by rw[hW2];simp [hs1]
 obtain⟨W3,hW3⟩: ∃W3,W3=W2.alloc (.cells #[.int .i64 0,.int .i64 0,.int .i64 0,.slice none 0 0,.slice none 0 0,.slice none 0 0] 26):=⟨_,rfl⟩
 have hb3:Below W2.heap.size W2 W3:=by rw[hW3];exact newAlloc _ _
 have hZ:BoxS W3 (w.heap.size+2) zeroC10:=by rw[<-hs2,hW3];exact BoxS.new W2 zeroC10 _
 have hs3:W3.heap.size=w.heap.size+3:=by rw[hW3];simp [hs2]
 obtain⟨W4,hW4⟩: ∃W4,W4=W3.alloc (.cells #[.int .i64 0,.int .i64 0,.int .i64 0,.slice none 0 0] 36):=⟨_,rfl⟩
 have hb4:Below W3.heap.size W3 W4:=by rw[hW4];exact newAlloc _ _
 have hR:EmptyR W4 (w.heap.size+3):=by rw[<-hs3,hW4];exact EmptyR.new W3
 have hs4:W4.heap.size=w.heap.size+4:=by rw[hW4];simp [hs3]
 have HX0:=hid (hB1.later (step hb2 (step hb3 hb4)))
 have HQ0:=hid (hQ.later (step hb3 hb4))
 have HZ0:=hid (hZ.later hb4)
 have HR0:=hid hR
 have HB0:=hid (step hb1 (step hb2 (step hb3 hb4)))
 have HRD:Hid (∀W,Below w.heap.size w W->RdSt W x):=hid fun W hb=>h.later hb
 have HSM:=hid hs
 obtain⟨HI,hHI'⟩: ∃HI,W4.heap.size=HI:=⟨_,rfl⟩
 obtain⟨nb,hnb⟩: ∃nb,w.heap.size=nb:=⟨_,rfl⟩
 have HNB:=hid hnb
 have hlt3:nb+3<HI:=by omega
 have hHI:w.heap.size<=HI:=by omega
 have hsz0:HI<=W4.heap.size:=Nat.le_of_eq hHI'.symm
 rw[hnb] at HX0 HZ0 HR0 HQ0
 clear hnb h hs hb1 hb2 hb3 hb4 hB1 hZ hQ hR hs1 hs2 hs3 hs4 hHI'
 have KM:=hid (fun W=>RefMayReq_any r W)
 have KF:=hid (fun W (hb:Below w.heap.size w W)=>RefFresh_any x.mv x.M r.client r.seq W (HRD.out W hb).m)
 obtain⟨xt,xn,xk,xS,sa,sc,xK,ka,kc,xM,ma,mc⟩:=x
 obtain⟨rc,rs,⟨rk,rn,rm⟩⟩:=r
 unfold stVal reqVal
 simp only[StC.sv,StC.kv,StC.mv] at hW1 KF ⊢
 dsimp only at hW2 hk9 hn hrm hma hfo KF
 obtain⟨c0,c1,c2,c3,c4,c5,cf⟩:=HX0.out
 simp only[StC.sv,StC.kv,StC.mv] at c0 c1 c2 c3 c4 c5
 obtain⟨q0,q1,q2,q3,q4⟩:=HQ0.out
 dsimp only at q0 q1 q2 q3 q4
 obtain⟨R,hR⟩: ∃R,applyA (StC.v ⟨xt,xn,xk,xS,sa,sc,xK,ka,kc,xM,ma,mc⟩) ⟨rc,rs,⟨rk,rn,rm⟩⟩=R:=⟨_,rfl⟩
 have HRR:=hid hR
 rw[hR]
 clear hR
 obtain⟨mr,hmr⟩: ∃mr,mayR ⟨rc,rs,⟨rk,rn,rm⟩⟩=mr:=⟨_,rfl⟩
 rw[hmr] at KM
 have HMR:=hid hmr
 clear hmr
 unfold reqVal at KM
 dsimp only at KM
 have hRR:R=(⟨xt,xn,xk,xS,vals xK,valsM xM⟩,⟨0,0,0,[]⟩,false):=by
  rw[<-HRR.out]
  unfold applyA
  rw[if_neg (fun q=>Bool.noConfusion (hma.symm.trans q))]
  exact if_pos hfo
 clear HRR
 subst hRR
 have hm1:mr=true:=by rw[<-HMR.out];exact hma
 subst hm1
 go_enter Tryz.func15,Tryz.ntmps15
 go_upto_region 1 with fail
 rw[<-hW1,<-hW2,<-hW3,<-hW4]
 rw[HNB.out]
 try rw[show nb+1+1+1=nb+3 from rfl]
 try rw[show nb+1+1=nb+2 from rfl]
 clear hW1 hW2 hW3 hW4
 go_upto_region 3 with (go_at_call 56;refine(KM.out W4).mono ?_;rintro e w5 ⟨rfl,hb5⟩;have HB45:=hid hb5;clear hb5)
 have HBN5:=hid (step HB0.out HB45.out)
 have HX5:=hid (HX0.out.later HB45.out)
 have HQ5:=hid (HQ0.out.later HB45.out)
 have HZ5:=hid (HZ0.out.later HB45.out)
 have HR5:=hid (HR0.out.later HB45.out)
 have hsz5:HI<=w5.heap.size:=Nat.le_trans hsz0 HB45.out.size
 clear c0 c1 c2 c3 c4 c5 cf q0 q1 q2 q3 q4 HX0 HZ0 HR0 HQ0
 obtain⟨c0,c1,c2,c3,c4,c5,cf⟩:=HX5.out
 simp only[StC.sv,StC.kv,StC.mv] at c0 c1 c2 c3 c4 c5
 obtain⟨q0,q1,q2,q3,q4⟩:=HQ5.out
 dsimp only at q0 q1 q2 q3 q4
 obtain⟨fr,hfr⟩: ∃fr,freshM (valsM xM) rc rs=fr:=⟨_,rfl⟩
 rw[hfr] at KF
 have HFR:=hid hfr
 clear hfr
 go_upto_region 4 with (go_at_call 57;refine(KF.out w5 HBN5.out).mono ?_;rintro e w6 ⟨rfl,hb6⟩;have HB56:=hid hb6;clear hb6)
 have HBN6:=hid (step HBN5.out HB56.out)
 have HX6:=hid (HX5.out.later HB56.out)
 have HQ6:=hid (HQ5.out.later HB56.out)
 have HZ6:=hid (HZ5.out.later HB56.out)
 have HR6:=hid (HR5.out.later HB56.out)
 have hsz6:HI<=w6.heap.size:=Nat.le_trans hsz5 HB56.out.size
 clear c0 c1 c2 c3 c4 c5 cf q0 q1 q2 q3 q4 HX5 HZ5 HR5 HQ5 KF
 obtain⟨c0,c1,c2,c3,c4,c5,cf⟩:=HX6.out
 simp only[StC.sv,StC.kv,StC.mv] at c0 c1 c2 c3 c4 c5
 obtain⟨q0,q1,q2,q3,q4⟩:=HQ6.out
 dsimp only at q0 q1 q2 q3 q4
 have g1:decide (fr<0)=true:=decide_eq_true (by rw[<-HFR.out];exact hfo)
 clear hfo hma
 obtain⟨z0,z1,z2,z3,z4,z5,zf⟩:=HZ6.out
 simp only[zeroC10,StC.sv,StC.kv,StC.mv,List.length_nil] at z0 z1 z2 z3 z4 z5
 obtain⟨⟨r0,r1,r2,r3⟩,rf⟩:=HR6.out _ (Below.refl _ _)
 have HBE:=hid (set4k (below_set6 HBN6.out (nb+2) (by have:=HNB.out;omega) (.int .i64 xt) (.int .i64 xn) (.int .i64 xk) (.slice sa xS.length sc) (.slice ka xK.length kc) (.slice ma xM.length mc)) (nb+3) (by have:=HNB.out;omega) (.int .i64 0) (.int .i64 0) (.int .i64 0) (.slice none 0 0))
 go_wp2
 refine bodyPost_ret (by simp [results,Tryz.results15,go_sem,z0,z1,z2,z3,z4,z5,zf,r0,r1,r2,r3,rf]<;>rfl) rfl ?_
 exact⟨⟨xt,xn,xk,xS,sa,sc,xK,ka,kc,xM,ma,mc⟩,none,0,rfl,rfl,FromS.refl _ _ _,RdH.nil _,HBE.out⟩
set_option maxHeartbeats 8000000 in
theorem Apply_new (x:StC) (r:ReqV) (w:World) (h:RdSt w x) (hs:Small x) (hk9:x.K.length<=900) (hn:0<=x.num/\x.num<=2305843009213693952) (hrm:Rm (valsM x.M)) (hma:mayR r=true) (hfo: ¬freshM (valsM x.M) r.client r.seq<0) (hfn: ¬freshM (valsM x.M) r.client r.seq=0):Calls Tryz.prog 15 #[stVal x,reqVal r] w (GetsAp (applyA x.v r) x w):=by
 obtain⟨W1,hW1⟩: ∃W1,W1=w.alloc (.cells #[.int .i64 x.time,.int .i64 x.num,.int .i64 x.token,x.sv,x.kv,x.mv] 26):=⟨_,rfl⟩
 have hb1:Below w.heap.size w W1:=by rw[hW1];exact newAlloc _ _
 have hB1:BoxS W1 w.heap.size x:=by rw[hW1];exact BoxS.new w x _
 have hs1:W1.heap.size=w.heap.size+1:=by rw[hW1];simp
 obtain⟨W2,hW2⟩: ∃W2,W2=W1.alloc (.cells #[.int .i64 r.client,.int .i64 r.seq,.int .i64 r.cmd.kind,.int .i64 r.cmd.session,.string (bstr r.cmd.name)] 30):=⟨_,rfl⟩
 have hb2:Below W1.heap.size W1 W2:=by rw[hW2];exact newAlloc _ _
 have hQ:BoxR W2 (w.heap.size+1) r:=by rw[<-hs1,hW2];exact BoxR.new W1 r _
 have hs2:W2.heap.size=w.heap.size+2:=by rw[hW2];simp [hs1]
 obtain⟨W3,hW3⟩: ∃W3,W3=W2.alloc (.cells #[.int .i64 0,.int .i64 0,.int .i64 0,.slice none 0 0,.slice none 0 0,.slice none 0 0] 26):=⟨_,rfl⟩
 have hb3:Below W2.heap.size W2 W3:=by rw[hW3];exact newAlloc _ _
 have hZ:BoxS W3 (w.heap.size+2) zeroC10:=by rw[<-hs2,hW3];exact BoxS.new W2 zeroC10 _
 have hs3:W3.heap.size=w.heap.size+3:=by rw[hW3];simp [hs2]
 obtain⟨W4,hW4⟩: ∃W4,W4=W3.alloc (.cells #[.int .i64 0,.int .i64 0,.int .i64 0,.slice none 0 0] 36):=⟨_,rfl⟩
 have hb4:Below W3.heap.size W3 W4:=by rw[hW4];exact newAlloc _ _
 have hR:EmptyR W4 (w.heap.size+3):=by rw[<-hs3,hW4];exact EmptyR.new W3
 have hs4:W4.heap.size=w.heap.size+4:=by rw[hW4];simp [hs3]
 have HX0:=hid (hB1.later (step hb2 (step hb3 hb4)))
 have HQ0:=hid (hQ.later (step hb3 hb4))
 have HZ0:=hid (hZ.later hb4)
 have HR0:=hid hR
 have HB0:=hid (step hb1 (step hb2 (step hb3 hb4)))
 have HRD:Hid (∀W,Below w.heap.size w W->RdSt W x):=hid fun W hb=>h.later hb
 have HSM:=hid hs
 obtain⟨HI,hHI'⟩: ∃HI,W4.heap.size=HI:=⟨_,rfl⟩
 obtain⟨nb,hnb⟩: ∃nb,w.heap.size=nb:=⟨_,rfl⟩
 have HNB:=hid hnb
 have hlt3:nb+3<HI:=by omega
 have hHI:w.heap.size<=HI:=by omega
 have hsz0:HI<=W4.heap.size:=Nat.le_of_eq hHI'.symm
 rw[hnb] at HX0 HZ0 HR0 HQ0
 clear hnb h hs hb1 hb2 hb3 hb4 hB1 hZ hQ hR hs1 hs2 hs3 hs4 hHI'
 have KM:=hid (fun W=>RefMayReq_any r W)
 have KF:=hid (fun W (hb:Below w.heap.size w W)=>RefFresh_any x.mv x.M r.client r.seq W (HRD.out W hb).m)
 have KD:=hid (fun W (hb:Below w.heap.size w W)=>RefDoes_any x r W (HRD.out W hb) HSM.out hk9 hn)
 have hm1000:=HSM.out.m
 obtain⟨xt,xn,xk,xS,sa,sc,xK,ka,kc,xM,ma,mc⟩:=x
 obtain⟨rc,rs,⟨rk,rn,rm⟩⟩:=r
 unfold stVal reqVal
 simp only[StC.sv,StC.kv,StC.mv] at hW1 KF KD ⊢
 dsimp only at hW2 hk9 hn hrm hma hfo hfn KF KD hm1000
 obtain⟨c0,c1,c2,c3,c4,c5,cf⟩:=HX0.out
 simp only[StC.sv,StC.kv,StC.mv] at c0 c1 c2 c3 c4 c5
 obtain⟨q0,q1,q2,q3,q4⟩:=HQ0.out
 dsimp only at q0 q1 q2 q3 q4
 obtain⟨R,hR⟩: ∃R,applyA (StC.v ⟨xt,xn,xk,xS,sa,sc,xK,ka,kc,xM,ma,mc⟩) ⟨rc,rs,⟨rk,rn,rm⟩⟩=R:=⟨_,rfl⟩
 have HRR:=hid hR
 rw[hR]
 clear hR
 obtain⟨mr,hmr⟩: ∃mr,mayR ⟨rc,rs,⟨rk,rn,rm⟩⟩=mr:=⟨_,rfl⟩
 rw[hmr] at KM
 have HMR:=hid hmr
 clear hmr
 unfold reqVal at KM
 dsimp only at KM
 have hRR:R=(keptA (doesA (StC.v ⟨xt,xn,xk,xS,sa,sc,xK,ka,kc,xM,ma,mc⟩) ⟨rc,rs,⟨rk,rn,rm⟩⟩).1 ⟨rc,rs,(doesA (StC.v ⟨xt,xn,xk,xS,sa,sc,xK,ka,kc,xM,ma,mc⟩) ⟨rc,rs,⟨rk,rn,rm⟩⟩).2⟩,(doesA (StC.v ⟨xt,xn,xk,xS,sa,sc,xK,ka,kc,xM,ma,mc⟩) ⟨rc,rs,⟨rk,rn,rm⟩⟩).2,true):=by
  rw[<-HRR.out]
  unfold applyA
  exact(if_neg (fun q=>Bool.noConfusion (hma.symm.trans q))).trans ((if_neg hfo).trans (if_neg hfn))
 clear HRR
 obtain⟨⟨DS,⟨dc,dn,da,dh⟩⟩,hD⟩: ∃D,doesA (StC.v ⟨xt,xn,xk,xS,sa,sc,xK,ka,kc,xM,ma,mc⟩) ⟨rc,rs,⟨rk,rn,rm⟩⟩=D:=⟨_,rfl⟩
 rw[hD] at hRR KD
 dsimp only at hRR
 have HRV:=hid hRR
 have HDM:Hid (DS.memos=valsM xM):=hid (by
  have:=does_memos (StC.v ⟨xt,xn,xk,xS,sa,sc,xK,ka,kc,xM,ma,mc⟩) ⟨rc,rs,⟨rk,rn,rm⟩⟩
  rw[hD] at this
  exact this)
 clear hRR hD
 unfold stVal reqVal at KD
 simp only[StC.sv,StC.kv,StC.mv] at KD
 have hm1:mr=true:=by rw[<-HMR.out];exact hma
 subst hm1
 go_enter Tryz.func15,Tryz.ntmps15
 go_upto_region 1 with fail
 rw[<-hW1,<-hW2,<-hW3,<-hW4]
 rw[HNB.out]
 try rw[show nb+1+1+1=nb+3 from rfl]
 try rw[show nb+1+1=nb+2 from rfl]
 clear hW1 hW2 hW3 hW4
 go_upto_region 3 with (go_at_call 56;refine(KM.out W4).mono ?_;rintro e w5 ⟨rfl,hb5⟩;have HB45:=hid hb5;clear hb5)
 have HBN5:=hid (step HB0.out HB45.out)
 have HX5:=hid (HX0.out.later HB45.out)
 have HQ5:=hid (HQ0.out.later HB45.out)
 have HZ5:=hid (HZ0.out.later HB45.out)
 have HR5:=hid (HR0.out.later HB45.out)
 have hsz5:HI<=w5.heap.size:=Nat.le_trans hsz0 HB45.out.size
 clear c0 c1 c2 c3 c4 c5 cf q0 q1 q2 q3 q4 HX0 HZ0 HR0 HQ0
 obtain⟨c0,c1,c2,c3,c4,c5,cf⟩:=HX5.out
 simp only[StC.sv,StC.kv,StC.mv] at c0 c1 c2 c3 c4 c5
 obtain⟨q0,q1,q2,q3,q4⟩:=HQ5.out
 dsimp only at q0 q1 q2 q3 q4
 obtain⟨fr,hfr⟩: ∃fr,freshM (valsM xM) rc rs=fr:=⟨_,rfl⟩
 rw[hfr] at KF
 have HFR:=hid hfr
 clear hfr
 go_upto_region 4 with (go_at_call 57;refine(KF.out w5 HBN5.out).mono ?_;rintro e w6 ⟨rfl,hb6⟩;have HB56:=hid hb6;clear hb6)
 have HBN6:=hid (step HBN5.out HB56.out)
 have HX6:=hid (HX5.out.later HB56.out)
 have HQ6:=hid (HQ5.out.later HB56.out)
 have HZ6:=hid (HZ5.out.later HB56.out)
 have HR6:=hid (HR5.out.later HB56.out)
 have hsz6:HI<=w6.heap.size:=Nat.le_trans hsz5 HB56.out.size
 clear c0 c1 c2 c3 c4 c5 cf q0 q1 q2 q3 q4 HX5 HZ5 HR5 HQ5 KF
 obtain⟨c0,c1,c2,c3,c4,c5,cf⟩:=HX6.out
 simp only[StC.sv,StC.kv,StC.mv] at c0 c1 c2 c3 c4 c5
 obtain⟨q0,q1,q2,q3,q4⟩:=HQ6.out
 dsimp only at q0 q1 q2 q3 q4
 have g1:decide (fr<0)=false:=decide_eq_false (by have:=HFR.out;omega)
 have hfr0: ¬fr=0:=fun q=>hfn (HFR.out.trans q)
 have g2:(fr==0)=false:=by simpa using hfr0
 clear hfr0
 clear hfo hma hfn
 go_upto_region 10 with (go_at_call 59;refine(KD.out w6 HBN6.out).mono ?_;rintro e w7 ⟨⟨yt,yn,yk,yS,ya,yc,yK,yka,ykc,yM,yma,ymc⟩,a7,p7,he,hv7,hf7,ho7,hb7⟩;unfold stVal at he;simp only[StC.sv,StC.kv,StC.mv] at he;dsimp only at ho7;subst he;have HV7:=hid hv7;have HF7:=hid hf7;have HO7:=hid ho7;have HB67:=hid hb7;clear hv7 hf7 ho7 hb7)
 have hmy:valsM yM=valsM xM:=(congrArg StV.memos HV7.out).trans HDM.out
 have hly:yM.length<=1000:=by rw[<-valsM_length yM,hmy,valsM_length];exact hm1000
 obtain⟨W8,hW8⟩: ∃W8,W8=(w7.alloc (.cells #[.int .i64 yt,.int .i64 yn,.int .i64 yk,.slice ya yS.length yc,.slice yka yK.length ykc,.slice yma yM.length ymc] 26)).alloc (.cells #[.int .i64 dc,.int .i64 dn,.int .i64 da,.slice a7 dh.length p7] 36):=⟨_,rfl⟩
 have HB78:Hid (Below w7.heap.size w7 W8):=hid (by rw[hW8];exact step (newAlloc _ _) (newAlloc _ _))
 have HX8:Hid (BoxS W8 w7.heap.size ⟨yt,yn,yk,yS,ya,yc,yK,yka,ykc,yM,yma,ymc⟩):=hid (by rw[hW8];exact(BoxS.new w7 ⟨yt,yn,yk,yS,ya,yc,yK,yka,ykc,yM,yma,ymc⟩ _).later (newAlloc _ _))
 have HP8:Hid (∀W,Below W8.heap.size W8 W->W.cell? ⟨w7.heap.size+1,0,none⟩=some (.int .i64 dc)/\W.cell? ⟨w7.heap.size+1,1,none⟩=some (.int .i64 dn)/\W.cell? ⟨w7.heap.size+1,2,none⟩=some (.int .i64 da)/\W.cell? ⟨w7.heap.size+1,3,none⟩=some (.slice a7 dh.length p7)):=hid fun W hb=>by
  rw[hW8] at hb
  have q:=box4 hb
  rw[show(w7.alloc (.cells #[.int .i64 yt,.int .i64 yn,.int .i64 yk,.slice ya yS.length yc,.slice yka yK.length ykc,.slice yma yM.length ymc] 26)).heap.size =w7.heap.size+1 by simp] at q
  exact q
 obtain⟨bt,hbt⟩: ∃bt,w7.heap.size=bt:=⟨_,rfl⟩
 have HBT:=hid hbt
 have hs67:=HB67.out.size
 have hltb:nb+3<bt:=by omega
 have HBN7:=hid (step HBN6.out HB67.out)
 have HBN8:=hid (step HBN7.out HB78.out)
 rw[hbt] at HX8 HP8 ⊢
 rw[show bt+1=bt+1 from rfl,<-hW8]
 have HF8:=hid ((HF7.out.lower hsz6).later HB78.out)
 have HO8:=hid (Rw.own_below HO7.out HB78.out)
 have KK:=hid (fun W (hb:Below W8.heap.size W8 W)=>RefKeepP_any (fun z=>z∈yM\/z=(⟨⟨rc,rs,⟨dc,dn,da,dh⟩⟩,a7,p7⟩:MemC)) (.slice yma yM.length ymc) (.slice a7 dh.length p7) yM ⟨rc,rs,⟨dc,dn,da,dh⟩⟩ W ((HF8.out.later hb).rd (HRD.out W (step HBN8.out hb))).m (by omega) (RdH.of (RdX.own cellsG_length (Rw.own_below HO8.out hb))) (fun z hz=>Or.inl hz) (fun ua uc q=>Or.inr (by cases q;rfl)) (by rw[hmy];exact hrm))
 unfold ansVal at KK
 dsimp only at KK
 have HMY:=hid hmy
 have hsz8:W8.heap.size=bt+2:=by rw[hW8];simp [hbt]
 have HS8:=hid hsz8
 have hq8:BoxR W8 (nb+1) ⟨rc,rs,⟨rk,rn,rm⟩⟩:=HQ6.out.later (step HB67.out HB78.out)
 clear hW8 hbt hsz8 hmy hly hs67 c0 c1 c2 c3 c4 c5 cf q0 q1 q2 q3 q4 HX6
 obtain⟨c0,c1,c2,c3,c4,c5,cf⟩:=HX8.out
 simp only[StC.sv,StC.kv,StC.mv] at c0 c1 c2 c3 c4 c5
 obtain⟨q0,q1,q2,q3,q4⟩:=hq8
 dsimp only at q0 q1 q2 q3 q4
 obtain⟨j0,j1,j2,j3⟩:=HP8.out _ (Below.refl _ W8)
 go_upto_region 11 with (go_at_call 60;refine(KK.out W8 (Below.refl _ _)).mono ?_;rintro e w9 ⟨a9,p9,M9,rfl,hm9,ho9,hp9,hb9⟩;have HM9:=hid hm9;have HO9:=hid ho9;have HP9:=hid hp9;have HB89:=hid hb9;obtain⟨d0,d1,d2,d3,d4,d5,df⟩:=HX8.out.later hb9;simp only[StC.sv,StC.kv,StC.mv] at d0 d1 d2 d3 d4 d5;clear hm9 ho9 hp9 hb9)
 have HX10':=(HX8.out.later HB89.out).set5 M9 a9 p9
 have HZ10':=(HZ6.out.later (step HB67.out (step HB78.out HB89.out))).other (show bt≠nb+2 by omega) 5 (.slice a9 M9.length p9)
 have HR10':=(HR6.out.later (step HB67.out (step HB78.out HB89.out))).other (show bt≠nb+3 by omega) 5 (.slice a9 M9.length p9)
 have HB10':Below w7.heap.size w7 (w9.setCell ⟨bt,5,none⟩ (.slice a9 M9.length p9)):=(step HB78.out HB89.out).setCell (Nat.le_of_eq HBT.out) _
 have hlt8:bt<W8.heap.size:=by rw[HS8.out];omega
 have HO10a:=ownsRow_setCell_below (a:=⟨bt,5,none⟩) HO9.out hlt8 (.slice a9 M9.length p9)
 have HO10':=own_lowerX HO10a (Nat.le_trans hsz6 (Nat.le_trans HB67.out.size HB78.out.size))
 have hbp: ∀k,(w9.setCell ⟨bt,5,none⟩ (.slice a9 M9.length p9)).cell? ⟨bt+1,k,none⟩=w9.cell? ⟨bt+1,k,none⟩:=fun k=>by simp [go_sem]
 obtain⟨i0,i1,i2,i3⟩:=HP8.out _ HB89.out
 have u0:=(hbp 0).trans i0
 have u1:=(hbp 1).trans i1
 have u2:=(hbp 2).trans i2
 have u3:=(hbp 3).trans i3
 obtain⟨W10,hW10⟩: ∃W10,W10=w9.setCell ⟨bt,5,none⟩ (.slice a9 M9.length p9):=⟨_,rfl⟩
 rw[<-hW10] at HX10' HZ10' HR10' HB10' HO10' u0 u1 u2 u3 ⊢
 have HX10:=hid HX10'
 have HZ10:=hid HZ10'
 have HR10:=hid HR10'
 have HB10:=hid HB10'
 have HBN10:=hid (step HBN7.out HB10.out)
 have HF10:Hid (FromS HI W10 ⟨xt,xn,xk,xS,sa,sc,xK,ka,kc,xM,ma,mc⟩ ⟨yt,yn,yk,yS,ya,yc,yK,yka,ykc,M9,a9,p9⟩):=hid (FromS.trans ((HF7.out.lower hsz6).later HB10.out) ⟨.inl ⟨rfl,rfl,rfl⟩,.inl ⟨rfl,rfl,rfl⟩,.inr ⟨HO10',fun z hz=>(HP9.out z hz).imp id (fun e=>by
  subst e
  exact own_lowerX (Rw.own_below HO7.out HB10.out) hsz6)⟩⟩)
 have HH10:Hid (∀W,Below W10.heap.size W10 W->W.cell? ⟨bt+1,0,none⟩=some (.int .i64 dc)/\W.cell? ⟨bt+1,1,none⟩=some (.int .i64 dn)/\W.cell? ⟨bt+1,2,none⟩=some (.int .i64 da)/\W.cell? ⟨bt+1,3,none⟩=some (.slice a7 dh.length p7)):=hid fun W hb=>⟨(hb.cell (lt_of_cell u0)).trans u0,(hb.cell (lt_of_cell u1)).trans u1,(hb.cell (lt_of_cell u2)).trans u2,(hb.cell (lt_of_cell u3)).trans u3⟩
 have HO7E:=hid (Rw.own_below HO7.out HB10.out)
 have HZD:=hid (HZ10.out.later (Below.refl _ W10).drew)
 have HRD2:=hid (HR10.out _ (Below.refl _ W10).drew)
 have hsz6':nb+3<w6.heap.size:=by omega
 clear hW10 HX10' HZ10' HR10' HB10' HO10' HO10a hbp i0 i1 i2 i3 u0 u1 u2 u3 c0 c1 c2 c3 c4 c5 cf d0 d1 d2 d3 d4 d5 df q0 q1 q2 q3 q4 j0 j1 j2 j3 HX8 HP8
 obtain⟨z0,z1,z2,z3,z4,z5,zf⟩:=HZ10.out
 simp only[zeroC10,StC.sv,StC.kv,StC.mv,List.length_nil] at z0 z1 z2 z3 z4 z5
 obtain⟨⟨r0,r1,r2,r3⟩,rf⟩:=HR10.out _ (Below.refl _ _)
 refine wp_region_held_drew (S:=(fun W=>((W.cell? ⟨bt,0,none⟩=some (.int .i64 yt)/\W.cell? ⟨bt,1,none⟩=some (.int .i64 yn)/\W.cell? ⟨bt,2,none⟩=some (.int .i64 yk))/\W.cell? ⟨bt,3,none⟩=some (.slice ya yS.length yc)/\W.cell? ⟨bt,4,none⟩=some (.slice yka yK.length ykc)/\W.cell? ⟨bt,5,none⟩=some (.slice a9 M9.length p9))/\W.cell? ⟨bt+1,0,none⟩=some (.int .i64 dc)/\W.cell? ⟨bt+1,1,none⟩=some (.int .i64 dn)/\W.cell? ⟨bt+1,2,none⟩=some (.int .i64 da)/\W.cell? ⟨bt+1,3,none⟩=some (.slice a7 dh.length p7))) (by kernel_rfl) (⟨(HX10.out.later (Below.refl _ W10).drew).cells,HH10.out _ (Below.refl _ W10).drew⟩) (fun hHeld=>?_)
 refine wpAnyH_take (i:=0) (v:=?_) rfl (by kernel_rfl) (by kernel_rfl) (by kernel_rfl) (fun _ _ _ h=>h) (Or.inl ⟨by rfl,?_⟩) (by assumption) ?_
 rotate_left
 ·intro w hSw;(try dsimp only at hSw);go_simp<;>with_reducible rfl
 try simp only[Act.put,getElem_toArray,getElem_cons_zero,setIfInBounds_toArray,set_cons_zero,set_cons_succ]
 refine wpAnyH_take (i:=1) (v:=?_) rfl (by kernel_rfl) (by kernel_rfl) (by kernel_rfl) (fun _ _ _ h=>h) (Or.inl ⟨by rfl,?_⟩) (by assumption) ?_
 rotate_left
 ·intro w hSw;(try dsimp only at hSw);go_simp<;>with_reducible rfl
 try simp only[Act.put,getElem_toArray,getElem_cons_succ,getElem_cons_zero,setIfInBounds_toArray,set_cons_zero,set_cons_succ]
 refine wpAnyH_ready (rs:= [2]) (by kernel_rfl) (by simp) ?_
 refine AllReadyH.cons rfl (fun K hK=>?_) AllReadyH.nil
 go_simp
 refine hK.out _ _ ((⟨((HX10.out.other6 (show nb+2≠bt by omega) (.int .i64 yt) (.int .i64 yn) (.int .i64 yk) (.slice ya yS.length yc) (.slice yka yK.length ykc) (.slice a9 M9.length p9)).later (Below.refl _ _).drew).cells,(other6_four (HH10.out _ (Below.refl _ W10)) (show nb+2≠bt+1 by omega) (.int .i64 yt) (.int .i64 yn) (.int .i64 yk) (.slice ya yS.length yc) (.slice yka yK.length ykc) (.slice a9 M9.length p9)).drew⟩)) (fun hHeld=>?_)
 clear hK K
 try simp only[Act.put,getElem_toArray,getElem_cons_succ,getElem_cons_zero,setIfInBounds_toArray,set_cons_zero,set_cons_succ]
 refine wpAnyH_ready (rs:= [3]) (by kernel_rfl) (by simp) ?_
 refine AllReadyH.cons rfl (fun K hK=>?_) AllReadyH.nil
 go_simp
 refine hK.out _ _ ((⟨(((HX10.out.other6 (show nb+2≠bt by omega) (.int .i64 yt) (.int .i64 yn) (.int .i64 yk) (.slice ya yS.length yc) (.slice yka yK.length ykc) (.slice a9 M9.length p9)).other4 (show nb+3≠bt by omega) (.int .i64 dc) (.int .i64 dn) (.int .i64 da) (.slice a7 dh.length p7)).later (Below.refl _ _).drew).cells,(other4_four (other6_four (HH10.out _ (Below.refl _ W10)) (show nb+2≠bt+1 by omega) (.int .i64 yt) (.int .i64 yn) (.int .i64 yk) (.slice ya yS.length yc) (.slice yka yK.length ykc) (.slice a9 M9.length p9)) (show nb+3≠bt+1 by omega) (.int .i64 dc) (.int .i64 dn) (.int .i64 da) (.slice a7 dh.length p7)).drew⟩)) (fun hHeld=>?_)
 clear hK K
 try simp only[Act.put,getElem_toArray,getElem_cons_succ,getElem_cons_zero,setIfInBounds_toArray,set_cons_zero,set_cons_succ]
 refine wpAnyH_take (i:=4) (v:=?_) rfl (by kernel_rfl) (by kernel_rfl) (by kernel_rfl) (fun _ _ _ h=>h) (Or.inl ⟨by rfl,?_⟩) (by assumption) ?_
 rotate_left
 ·intro w hSw;(try dsimp only at hSw);go_simp<;>with_reducible rfl
 try simp only[Act.put,getElem_toArray,getElem_cons_succ,getElem_cons_zero,setIfInBounds_toArray,set_cons_zero,set_cons_succ]
 refine wpAnyH_done (by kernel_rfl) ?_ _
 have HBE:=hid (set4k (below_set6 (HBN10.out) (nb+2) (by have:=HNB.out;omega) (.int .i64 yt) (.int .i64 yn) (.int .i64 yk) (.slice ya yS.length yc) (.slice yka yK.length ykc) (.slice a9 M9.length p9)) (nb+3) (by have:=HNB.out;omega) (.int .i64 dc) (.int .i64 dn) (.int .i64 da) (.slice a7 dh.length p7)).drew
 have HFE:=hid (((FromS.set4 (FromS.set6 (HF10.out) (show nb+2<HI from by omega) (.int .i64 yt) (.int .i64 yn) (.int .i64 yk) (.slice ya yS.length yc) (.slice yka yK.length ykc) (.slice a9 M9.length p9)) (show nb+3<HI from hlt3) (.int .i64 dc) (.int .i64 dn) (.int .i64 da) (.slice a7 dh.length p7)).lower hHI).later (Below.refl _ _).drew)
 have HOE:=hid (own_set4z (own_set6z HO7E.out (Nat.lt_of_succ_lt hsz6') (.int .i64 yt) (.int .i64 yn) (.int .i64 yk) (.slice ya yS.length yc) (.slice yka yK.length ykc) (.slice a9 M9.length p9)) hsz6' (.int .i64 dc) (.int .i64 dn) (.int .i64 da) (.slice a7 dh.length p7))
 have HOE2:=hid (Rw.own_below HOE.out (Below.refl _ _).drew)
 go_wp2
 refine bodyPost_ret (by simp [results,Tryz.results15,go_sem,z0,z1,z2,z3,z4,z5,zf,r0,r1,r2,r3,rf]<;>rfl) rfl ?_
 rw[HRV.out]
 exact⟨⟨yt,yn,yk,yS,ya,yc,yK,yka,ykc,M9,a9,p9⟩,a7,p7,rfl,by rw[<-HV7.out];unfold keptA StC.v;dsimp only;rw[HM9.out,HMY.out],HFE.out,RdH.of (RdX.own cellsG_length HOE2.out),HBE.out⟩
end Cm
end Go.Proofs.YtlnbmblbeaodcaaGreat
