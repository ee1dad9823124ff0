/- Texts laid together by program. -/
import Derived.Test.YtlnbmblbeaodcaaGreatQS35
/- Contract: padlockref6's does (made by tools/gen_autg.py). -/
set_option linter.unusedVariables false
set_option maxRecDepth 8000
set_option linter.unusedSimpArgs false
namespace Go.Proofs.YtlnbmblbeaodcaaGreat
open Lib (hid)
open List (getElem_toArray getElem_cons_succ getElem_cons_zero setIfInBounds_toArray set_cons_zero set_cons_succ)
open Go.RowKit
namespace Cm

structure BoxR (w:World) (b:Nat) (r:ReqV):Prop where
 c0:w.cell? ⟨b,0,none⟩=some (.int .i64 r.client)
 c1:w.cell? ⟨b,1,none⟩=some (.int .i64 r.seq)
 c2:w.cell? ⟨b,2,none⟩=some (.int .i64 r.cmd.kind)
 c3:w.cell? ⟨b,3,none⟩=some (.int .i64 r.cmd.session)
 c4:w.cell? ⟨b,4,none⟩=some (.string (bstr r.cmd.name))
theorem BoxR.later {w w':World} {b:Nat} {r:ReqV} (h:BoxR w b r) (hb:Below w.heap.size w w'):BoxR w' b r:=
 ⟨(hb.cell (lt_of_cell h.c0)).trans h.c0,(hb.cell (lt_of_cell h.c1)).trans h.c1,(hb.cell (lt_of_cell h.c2)).trans h.c2,(hb.cell (lt_of_cell h.c3)).trans h.c3,(hb.cell (lt_of_cell h.c4)).trans h.c4⟩
theorem BoxR.new (w:World) (r:ReqV) (t:TypeId):BoxR (w.alloc (.cells #[.int .i64 r.client,.int .i64 r.seq,.int .i64 r.cmd.kind,.int .i64 r.cmd.session,.string (bstr r.cmd.name)] t)) w.heap.size r:=by
 refine⟨?_,?_,?_,?_,?_⟩<;>simp [go_sem]
theorem BoxR.other {w:World} {b g:Nat} {r:ReqV} (h:BoxR w b r) (hg:g≠b) (j:Nat) (v:Value):BoxR (w.setCell ⟨g,j,none⟩ v) b r:=by
 obtain⟨c0,c1,c2,c3,c4⟩:=h
 have hn: ∀k,(w.setCell ⟨g,j,none⟩ v).cell? ⟨b,k,none⟩=w.cell? ⟨b,k,none⟩:=fun k=>by
  simp only[World.cell?]
  rw[Below.heap_setCell w ⟨g,j,none⟩ v b (fun q=>hg (by have:b=g:=q;exact this.symm))]
 exact⟨(hn 0).trans c0,(hn 1).trans c1,(hn 2).trans c2,(hn 3).trans c3,(hn 4).trans c4⟩
theorem BoxR.other4 {w:World} {b g:Nat} {r:ReqV} (h:BoxR w b r) (hg:g≠b) (v0 v1 v2 v3:Value):BoxR ((((w.setCell ⟨g,0,none⟩ v0).setCell ⟨g,1,none⟩ v1).setCell ⟨g,2,none⟩ v2).setCell ⟨g,3,none⟩ v3) b r:=
 (((h.other hg 0 v0).other hg 1 v1).other hg 2 v2).other hg 3 v3
theorem BoxR.other6 {w:World} {b g:Nat} {r:ReqV} (h:BoxR w b r) (hg:g≠b) (v0 v1 v2 v3 v4 v5:Value):BoxR ((((((w.setCell ⟨g,0,none⟩ v0).setCell ⟨g,1,none⟩ v1).setCell ⟨g,2,none⟩ v2).setCell ⟨g,3,none⟩ v3).setCell ⟨g,4,none⟩ v4).setCell ⟨g,5,none⟩ v5) b r:=
 (((((h.other hg 0 v0).other hg 1 v1).other hg 2 v2).other hg 3 v3).other hg 4 v4).other hg 5 v5
def EmptyR (w:World) (b:Nat):Prop:= ∀W,Below w.heap.size w W->(W.cell? ⟨b,0,none⟩=some (.int .i64 0)/\W.cell? ⟨b,1,none⟩=some (.int .i64 0)/\W.cell? ⟨b,2,none⟩=some (.int .i64 0)/\W.cell? ⟨b,3,none⟩=some (.slice none 0 0))/\ ∀k,W.frozen? ⟨b,k,none⟩=false
theorem EmptyR.of {w:World} {b:Nat} (k0:w.cell? ⟨b,0,none⟩=some (.int .i64 0)) (k1:w.cell? ⟨b,1,none⟩=some (.int .i64 0)) (k2:w.cell? ⟨b,2,none⟩=some (.int .i64 0)) (k3:w.cell? ⟨b,3,none⟩=some (.slice none 0 0)) (kf: ∀k,w.frozen? ⟨b,k,none⟩=false):EmptyR w b:=
 fun W hb=>⟨⟨(hb.cell (lt_of_cell k0)).trans k0,(hb.cell (lt_of_cell k1)).trans k1,(hb.cell (lt_of_cell k2)).trans k2,(hb.cell (lt_of_cell k3)).trans k3⟩,fun k=>(hb.frozen (p:=⟨b,k,none⟩) (show b< _ from lt_of_cell k0)).trans (kf k)⟩
theorem EmptyR.later {w w':World} {b:Nat} (h:EmptyR w b) (hb:Below w.heap.size w w'):EmptyR w' b:=fun W hb2=>h W (step hb hb2)
theorem EmptyR.other {w:World} {b g:Nat} (h:EmptyR w b) (hg:g≠b) (j:Nat) (v:Value):EmptyR (w.setCell ⟨g,j,none⟩ v) b:=by
 obtain⟨⟨k0,k1,k2,k3⟩,kf⟩:=h w (Below.refl _ _)
 have hn: ∀k,(w.setCell ⟨g,j,none⟩ v).cell? ⟨b,k,none⟩=w.cell? ⟨b,k,none⟩:=fun k=>by
  simp only[World.cell?]
  rw[Below.heap_setCell w ⟨g,j,none⟩ v b (fun q=>hg (by have:b=g:=q;exact this.symm))]
 exact EmptyR.of ((hn 0).trans k0) ((hn 1).trans k1) ((hn 2).trans k2) ((hn 3).trans k3) (fun k=>by rw[<-kf k];simp [go_sem])
theorem EmptyR.new (w:World):EmptyR (w.alloc (.cells #[.int .i64 0,.int .i64 0,.int .i64 0,.slice none 0 0] 36)) w.heap.size:=fun W hb=>⟨box4 hb,free4k hb⟩
theorem renew_len (l:List SesV) (c t:Int):(renewS l c t).1.length <=l.length:=by
 unfold renewS
 split
 ·simp
 ·split<;>simp
theorem take_len (l:List LockV) (n:List UInt8) (c t:Int) (wt:Bool):(takeK l n c t wt).1.length <=l.length+1:=by
 unfold takeK
 split
 ·split
  ·simp
  ·rw[putK_length];exact Nat.le_refl _
 ·split
  ·simp
  ·split
   ·simp
   ·split
    ·simp
    ·split
     ·simp
     ·simp
theorem free_givenA (l:List LockV) (n:List UInt8) (c t:Int):0<=(freeK l n c t).2.1/\(freeK l n c t).2.1<=1:=by
 unfold freeK
 split
 ·simp
 ·split
  ·split<;>simp
  ·split<;>simp
theorem free_len (l:List LockV) (n:List UInt8) (c t:Int):(freeK l n c t).1.length <=l.length:=by
 unfold freeK
 split
 ·simp
 ·split
  ·split<;>simp
  ·split
   ·simp;omega
   ·simp
set_option maxHeartbeats 8000000 in
theorem Does_open (x:StC) (r:ReqV) (w:World) (h:RdSt w x) (hs:Small x) (hk9:x.K.length<=900) (hn:0<=x.num/\x.num<=2305843009213693952) (hk:r.cmd.kind=1):Calls Tryz.prog 59 #[stVal x,reqVal r] w (GetsSR (doesA x.v r) x w):=by
 obtain⟨W1,hW1⟩: ∃W1,W1=w.alloc (.cells #[.int .i64 x.time,.int .i64 x.num,.int .i64 x.token,x.sv,x.kv,x.mv] 26):=⟨_,rfl⟩
 have hb1:Below w.heap.size w W1:=by rw[hW1];exact newAlloc _ _
 have hB1:BoxS W1 w.heap.size x:=by rw[hW1];exact BoxS.new w x _
 have hs1:W1.heap.size=w.heap.size+1:=by rw[hW1];simp
 obtain⟨W2,hW2⟩: ∃W2,W2=W1.alloc (.cells #[.int .i64 r.client,.int .i64 r.seq,.int .i64 r.cmd.kind,.int .i64 r.cmd.session,.string (bstr r.cmd.name)] 30):=⟨_,rfl⟩
 have hb2:Below W1.heap.size W1 W2:=by rw[hW2];exact newAlloc _ _
 have hQ:BoxR W2 (w.heap.size+1) r:=by rw[<-hs1,hW2];exact BoxR.new W1 r _
 have hs2:W2.heap.size=w.heap.size+2:=by rw[hW2];simp [hs1]
 obtain⟨W3,hW3⟩: ∃W3,W3=W2.alloc (.cells #[.int .i64 0,.int .i64 0,.int .i64 0,.slice none 0 0,.slice none 0 0,.slice none 0 0] 26):=⟨_,rfl⟩
 have hb3:Below W2.heap.size W2 W3:=by rw[hW3];exact newAlloc _ _
 have hZ:BoxS W3 (w.heap.size+2) zeroC10:=by rw[<-hs2,hW3];exact BoxS.new W2 zeroC10 _
 have hs3:W3.heap.size=w.heap.size+3:=by rw[hW3];simp [hs2]
 obtain⟨W4,hW4⟩: ∃W4,W4=W3.alloc (.cells #[.int .i64 0,.int .i64 0,.int .i64 0,.slice none 0 0] 36):=⟨_,rfl⟩
 have hb4:Below W3.heap.size W3 W4:=by rw[hW4];exact newAlloc _ _
 have hR:EmptyR W4 (w.heap.size+3):=by rw[<-hs3,hW4];exact EmptyR.new W3
 have hs4:W4.heap.size=w.heap.size+4:=by rw[hW4];simp [hs3]
 have HX0:=hid (hB1.later (step hb2 (step hb3 hb4)))
 have HQ0:=hid (hQ.later (step hb3 hb4))
 have HZ0:=hid (hZ.later hb4)
 have HR0:=hid hR
 have HB0:=hid (step hb1 (step hb2 (step hb3 hb4)))
 have HRD:Hid (∀W,Below w.heap.size w W->RdSt W x):=hid fun W hb=>h.later hb
 have HSM:=hid hs
 obtain⟨HI,hHI'⟩: ∃HI,W4.heap.size=HI:=⟨_,rfl⟩
 obtain⟨nb,hnb⟩: ∃nb,w.heap.size=nb:=⟨_,rfl⟩
 have HNB:=hid hnb
 have hlt3:nb+3<HI:=by omega
 have hHI:w.heap.size<=HI:=by omega
 have hsz0:HI<=W4.heap.size:=Nat.le_of_eq hHI'.symm
 rw[hnb] at HX0 HZ0 HR0 HQ0
 clear hnb h hs hb1 hb2 hb3 hb4 hB1 hZ hQ hR hs1 hs2 hs3 hs4 hHI'
 have KO:=hid (fun W (hb:Below w.heap.size w W)=>RefOpen_any x r.client W (HRD.out W hb) HSM.out hn)
 obtain⟨xt,xn,xk,xS,sa,sc,xK,ka,kc,xM,ma,mc⟩:=x
 obtain⟨rc,rs,⟨rk,rn,rm⟩⟩:=r
 unfold stVal reqVal
 simp only[StC.sv,StC.kv,StC.mv] at hW1 KO ⊢
 dsimp only at hW2 hk9 hn hk KO
 obtain⟨c0,c1,c2,c3,c4,c5,cf⟩:=HX0.out
 simp only[StC.sv,StC.kv,StC.mv] at c0 c1 c2 c3 c4 c5
 obtain⟨q0,q1,q2,q3,q4⟩:=HQ0.out
 dsimp only at q0 q1 q2 q3 q4
 obtain⟨R,hR⟩: ∃R,doesA (StC.v ⟨xt,xn,xk,xS,sa,sc,xK,ka,kc,xM,ma,mc⟩) ⟨rc,rs,⟨rk,rn,rm⟩⟩=R:=⟨_,rfl⟩
 have HRR:=hid hR
 rw[hR]
 clear hR
 have d1:(rk==(1:Int))=true:=by simpa using hk
 have hRR:R=openA (StC.v ⟨xt,xn,xk,xS,sa,sc,xK,ka,kc,xM,ma,mc⟩) rc:=by
  rw[<-HRR.out]
  unfold doesA
  exact if_pos hk
 clear HRR hk
 subst hRR
 unfold stVal at KO
 simp only[StC.sv,StC.kv,StC.mv] at KO
 go_enter Tryz.func59,Tryz.ntmps59
 go_upto_region 1 with fail
 rw[<-hW1,<-hW2,<-hW3,<-hW4]
 rw[HNB.out]
 clear hW1 hW2 hW3 hW4
 go_upto_region 2 with fail
 obtain⟨z0,z1,z2,z3,z4,z5,zf⟩:=HZ0.out
 simp only[zeroC10,StC.sv,StC.kv,StC.mv,List.length_nil] at z0 z1 z2 z3 z4 z5
 clear z0 z1 z2 z3 z4 z5 zf
 go_wp2_with (go_at_call 123;refine(KO.out W4 HB0.out).mono ?_;rintro e w5 ⟨⟨yt,yn,yk,yS,ya,yc,yK,yka,ykc,yM,yma,ymc⟩,a5,p5,he,hv5,hf5,ho5,hb5⟩;unfold stVal at he;simp only[StC.sv,StC.kv,StC.mv] at he;subst he;have HV5:=hid hv5;have HF5:=hid hf5;have HO5:=hid ho5;have HB5:=hid hb5;obtain⟨z0,z1,z2,z3,z4,z5,zf⟩:=HZ0.out.later hb5;simp only[zeroC10,StC.sv,StC.kv,StC.mv,List.length_nil] at z0 z1 z2 z3 z4 z5;obtain⟨⟨r0,r1,r2,r3⟩,rf⟩:=HR0.out _ hb5;clear hv5 hf5 ho5 hb5)
 generalize openA (StC.v ⟨xt,xn,xk,xS,sa,sc,xK,ka,kc,xM,ma,mc⟩) rc=oo at HV5 HO5 ⊢
 have hl5:nb+3<W4.heap.size:=Nat.lt_of_lt_of_le hlt3 hsz0
 refine bodyPost_ret (by simp [results,Tryz.results59,go_sem,z0,z1,z2,z3,z4,z5,zf,r0,r1,r2,r3,rf]<;>rfl) rfl ?_
 exact⟨⟨yt,yn,yk,yS,ya,yc,yK,yka,ykc,yM,yma,ymc⟩,a5,p5,rfl,HV5.out,(FromS.set4 (FromS.set6 HF5.out (Nat.lt_of_succ_lt hl5) _ _ _ _ _ _) hl5 _ _ _ _).lower HB0.out.size,own_lowerX (own_set4z (own_set6z HO5.out (Nat.lt_of_succ_lt hl5) _ _ _ _ _ _) hl5 _ _ _ _) HB0.out.size,set4k (below_set6 (step HB0.out HB5.out) (nb+2) (by have:=HNB.out;omega) _ _ _ _ _ _) (nb+3) (by have:=HNB.out;omega) _ _ _ _⟩
set_option maxHeartbeats 8000000 in
theorem Does_no (x:StC) (r:ReqV) (w:World) (h:RdSt w x) (hs:Small x) (hk9:x.K.length<=900) (hn:0<=x.num/\x.num<=2305843009213693952) (hk:r.cmd.kind≠1) (hno:(findS x.S r.client).2=false\/(findS x.S r.client).1.num ≠r.cmd.session):Calls Tryz.prog 59 #[stVal x,reqVal r] w (GetsSR (doesA x.v r) x w):=by
 obtain⟨W1,hW1⟩: ∃W1,W1=w.alloc (.cells #[.int .i64 x.time,.int .i64 x.num,.int .i64 x.token,x.sv,x.kv,x.mv] 26):=⟨_,rfl⟩
 have hb1:Below w.heap.size w W1:=by rw[hW1];exact newAlloc _ _
 have hB1:BoxS W1 w.heap.size x:=by rw[hW1];exact BoxS.new w x _
 have hs1:W1.heap.size=w.heap.size+1:=by rw[hW1];simp
 obtain⟨W2,hW2⟩: ∃W2,W2=W1.alloc (.cells #[.int .i64 r.client,.int .i64 r.seq,.int .i64 r.cmd.kind,.int .i64 r.cmd.session,.string (bstr r.cmd.name)] 30):=⟨_,rfl⟩
 have hb2:Below W1.heap.size W1 W2:=by rw[hW2];exact newAlloc _ _
 have hQ:BoxR W2 (w.heap.size+1) r:=by rw[<-hs1,hW2];exact BoxR.new W1 r _
 have hs2:W2.heap.size=w.heap.size+2:=by rw[hW2];simp [hs1]
 obtain⟨W3,hW3⟩: ∃W3,W3=W2.alloc (.cells #[.int .i64 0,.int .i64 0,.int .i64 0,.slice none 0 0,.slice none 0 0,.slice none 0 0] 26):=⟨_,rfl⟩
 have hb3:Below W2.heap.size W2 W3:=by rw[hW3];exact newAlloc _ _
 have hZ:BoxS W3 (w.heap.size+2) zeroC10:=by rw[<-hs2,hW3];exact BoxS.new W2 zeroC10 _
 have hs3:W3.heap.size=w.heap.size+3:=by rw[hW3];simp [hs2]
 obtain⟨W4,hW4⟩: ∃W4,W4=W3.alloc (.cells #[.int .i64 0,.int .i64 0,.int .i64 0,.slice none 0 0] 36):=⟨_,rfl⟩
 have hb4:Below W3.heap.size W3 W4:=by rw[hW4];exact newAlloc _ _
 have hR:EmptyR W4 (w.heap.size+3):=by rw[<-hs3,hW4];exact EmptyR.new W3
 have hs4:W4.heap.size=w.heap.size+4:=by rw[hW4];simp [hs3]
 have HX0:=hid (hB1.later (step hb2 (step hb3 hb4)))
 have HQ0:=hid (hQ.later (step hb3 hb4))
 have HZ0:=hid (hZ.later hb4)
 have HR0:=hid hR
 have HB0:=hid (step hb1 (step hb2 (step hb3 hb4)))
 have HRD:Hid (∀W,Below w.heap.size w W->RdSt W x):=hid fun W hb=>h.later hb
 have HSM:=hid hs
 obtain⟨HI,hHI'⟩: ∃HI,W4.heap.size=HI:=⟨_,rfl⟩
 obtain⟨nb,hnb⟩: ∃nb,w.heap.size=nb:=⟨_,rfl⟩
 have HNB:=hid hnb
 have hlt3:nb+3<HI:=by omega
 have hHI:w.heap.size<=HI:=by omega
 have hsz0:HI<=W4.heap.size:=Nat.le_of_eq hHI'.symm
 rw[hnb] at HX0 HZ0 HR0 HQ0
 clear hnb h hs hb1 hb2 hb3 hb4 hB1 hZ hQ hR hs1 hs2 hs3 hs4 hHI'
 have KF:=hid (Find_any x.sv x.S r.client W4 (HRD.out W4 HB0.out).s)
 obtain⟨xt,xn,xk,xS,sa,sc,xK,ka,kc,xM,ma,mc⟩:=x
 obtain⟨rc,rs,⟨rk,rn,rm⟩⟩:=r
 unfold stVal reqVal
 simp only[StC.sv,StC.kv,StC.mv] at hW1 KF ⊢
 dsimp only at hW2 hk9 hn hk hno KF
 obtain⟨c0,c1,c2,c3,c4,c5,cf⟩:=HX0.out
 simp only[StC.sv,StC.kv,StC.mv] at c0 c1 c2 c3 c4 c5
 obtain⟨q0,q1,q2,q3,q4⟩:=HQ0.out
 dsimp only at q0 q1 q2 q3 q4
 obtain⟨R,hR⟩: ∃R,doesA (StC.v ⟨xt,xn,xk,xS,sa,sc,xK,ka,kc,xM,ma,mc⟩) ⟨rc,rs,⟨rk,rn,rm⟩⟩=R:=⟨_,rfl⟩
 have HRR:=hid hR
 rw[hR]
 clear hR
 have d1:(rk==(1:Int))=false:=by simpa using hk
 have hRR:R=(⟨xt,xn,xk,xS,vals xK,valsM xM⟩,⟨9,0,0,[]⟩):=by
  rw[<-HRR.out]
  unfold doesA
  rw[if_neg hk]
  exact if_pos hno
 clear HRR hk
 subst hRR
 go_enter Tryz.func59,Tryz.ntmps59
 go_upto_region 1 with fail
 rw[<-hW1,<-hW2,<-hW3,<-hW4]
 rw[HNB.out]
 clear hW1 hW2 hW3 hW4
 obtain⟨⟨⟨fc,fn,fe⟩,fb⟩,hfr⟩: ∃p,findS xS rc=p:=⟨_,rfl⟩
 rw[hfr] at KF
 have HFR:=hid hfr
 clear hfr
 go_upto_region 4 with (go_at_call 49;refine KF.out.mono ?_;rintro e w5 ⟨rfl,hb5⟩;unfold sesVal;dsimp only;have HB5:=hid hb5;clear hb5)
 obtain⟨W5,hW5⟩: ∃W5,W5=w5.alloc (.cells #[.int .i64 fc,.int .i64 fn,.int .i64 fe] 73):=⟨_,rfl⟩
 have HB45:Hid (Below W4.heap.size W4 W5):=hid (by rw[hW5];exact stepAlloc HB5.out _)
 have hy5:W5.cell? ⟨w5.heap.size,1,none⟩=some (.int .i64 fn):=by rw[hW5];exact(box3s (Below.refl _ _)).2.1
 rw[<-hW5]
 clear hW5
 have HBN5:=hid (step HB0.out HB45.out)
 have HX5:=hid (HX0.out.later HB45.out)
 have HQ5:=hid (HQ0.out.later HB45.out)
 have HZ5:=hid (HZ0.out.later HB45.out)
 have HR5:=hid (HR0.out.later HB45.out)
 have hsz5:HI<=W5.heap.size:=Nat.le_trans hsz0 HB45.out.size
 have HF5:Hid (FromS HI W5 ⟨xt,xn,xk,xS,sa,sc,xK,ka,kc,xM,ma,mc⟩ ⟨xt,xn,xk,xS,sa,sc,xK,ka,kc,xM,ma,mc⟩):=hid (FromS.refl _ _ _)
 clear c0 c1 c2 c3 c4 c5 cf q0 q1 q2 q3 q4 HX0 HZ0 HR0 HQ0 KF
 obtain⟨c0,c1,c2,c3,c4,c5,cf⟩:=HX5.out
 simp only[StC.sv,StC.kv,StC.mv] at c0 c1 c2 c3 c4 c5
 obtain⟨q0,q1,q2,q3,q4⟩:=HQ5.out
 dsimp only at q0 q1 q2 q3 q4
 obtain⟨z0,z1,z2,z3,z4,z5,zf⟩:=HZ5.out
 simp only[zeroC10,StC.sv,StC.kv,StC.mv,List.length_nil] at z0 z1 z2 z3 z4 z5
 obtain⟨⟨r0,r1,r2,r3⟩,rf⟩:=HR5.out _ (Below.refl _ _)
 have HBE:=hid (set4k (below_set6 HBN5.out (nb+2) (by have:=HNB.out;omega) (.int .i64 xt) (.int .i64 xn) (.int .i64 xk) (.slice sa xS.length sc) (.slice ka xK.length kc) (.slice ma xM.length mc)) (nb+3) (by have:=HNB.out;omega) (.int .i64 9) (.int .i64 0) (.int .i64 0) (.slice none 0 0))
 have hor:fb=false\/(fb=true/\(fn != rn)=true):=by
  rw[HFR.out] at hno
  cases fb
  ·exact .inl rfl
  ·refine .inr ⟨rfl,?_⟩
   rcases hno with q | q
   ·cases q
   ·simpa using q
 clear hno
 rcases hor with hfb | ⟨hfb,d2⟩
 all_goals
  subst hfb
  go_wp2
  refine bodyPost_ret (by simp [results,Tryz.results59,go_sem,z0,z1,z2,z3,z4,z5,zf,r0,r1,r2,r3,rf]<;>rfl) rfl ?_
  exact⟨⟨xt,xn,xk,xS,sa,sc,xK,ka,kc,xM,ma,mc⟩,none,0,rfl,rfl,FromS.refl _ _ _,World.ownsRow_nil _ _ _ _,HBE.out⟩
set_option maxHeartbeats 8000000 in
theorem Does_keep (x:StC) (r:ReqV) (w:World) (h:RdSt w x) (hs:Small x) (hk9:x.K.length<=900) (hn:0<=x.num/\x.num<=2305843009213693952) (hk1:r.cmd.kind≠1) (hk3:r.cmd.kind≠3) (hk4:r.cmd.kind≠4) (hk5:r.cmd.kind≠5) (hk6:r.cmd.kind≠6) (hyes:(findS x.S r.client).2=true/\(findS x.S r.client).1.num =r.cmd.session):Calls Tryz.prog 59 #[stVal x,reqVal r] w (GetsSR (doesA x.v r) x w):=by
 obtain⟨W1,hW1⟩: ∃W1,W1=w.alloc (.cells #[.int .i64 x.time,.int .i64 x.num,.int .i64 x.token,x.sv,x.kv,x.mv] 26):=⟨_,rfl⟩
 have hb1:Below w.heap.size w W1:=by rw[hW1];exact newAlloc _ _
 have hB1:BoxS W1 w.heap.size x:=by rw[hW1];exact BoxS.new w x _
 have hs1:W1.heap.size=w.heap.size+1:=by rw[hW1];simp
 obtain⟨W2,hW2⟩: ∃W2,W2=W1.alloc (.cells #[.int .i64 r.client,.int .i64 r.seq,.int .i64 r.cmd.kind,.int .i64 r.cmd.session,.string (bstr r.cmd.name)] 30):=⟨_,rfl⟩
 have hb2:Below W1.heap.size W1 W2:=by rw[hW2];exact newAlloc _ _
 have hQ:BoxR W2 (w.heap.size+1) r:=by rw[<-hs1,hW2];exact BoxR.new W1 r _
 have hs2:W2.heap.size=w.heap.size+2:=by rw[hW2];simp [hs1]
 obtain⟨W3,hW3⟩: ∃W3,W3=W2.alloc (.cells #[.int .i64 0,.int .i64 0,.int .i64 0,.slice none 0 0,.slice none 0 0,.slice none 0 0] 26):=⟨_,rfl⟩
 have hb3:Below W2.heap.size W2 W3:=by rw[hW3];exact newAlloc _ _
 have hZ:BoxS W3 (w.heap.size+2) zeroC10:=by rw[<-hs2,hW3];exact BoxS.new W2 zeroC10 _
 have hs3:W3.heap.size=w.heap.size+3:=by rw[hW3];simp [hs2]
 obtain⟨W4,hW4⟩: ∃W4,W4=W3.alloc (.cells #[.int .i64 0,.int .i64 0,.int .i64 0,.slice none 0 0] 36):=⟨_,rfl⟩
 have hb4:Below W3.heap.size W3 W4:=by rw[hW4];exact newAlloc _ _
 have hR:EmptyR W4 (w.heap.size+3):=by rw[<-hs3,hW4];exact EmptyR.new W3
 have hs4:W4.heap.size=w.heap.size+4:=by rw[hW4];simp [hs3]
 have HX0:=hid (hB1.later (step hb2 (step hb3 hb4)))
 have HQ0:=hid (hQ.later (step hb3 hb4))
 have HZ0:=hid (hZ.later hb4)
 have HR0:=hid hR
 have HB0:=hid (step hb1 (step hb2 (step hb3 hb4)))
 have HRD:Hid (∀W,Below w.heap.size w W->RdSt W x):=hid fun W hb=>h.later hb
 have HSM:=hid hs
 obtain⟨HI,hHI'⟩: ∃HI,W4.heap.size=HI:=⟨_,rfl⟩
 obtain⟨nb,hnb⟩: ∃nb,w.heap.size=nb:=⟨_,rfl⟩
 have HNB:=hid hnb
 have hlt3:nb+3<HI:=by omega
 have hHI:w.heap.size<=HI:=by omega
 have hsz0:HI<=W4.heap.size:=Nat.le_of_eq hHI'.symm
 rw[hnb] at HX0 HZ0 HR0 HQ0
 clear hnb h hs hb1 hb2 hb3 hb4 hB1 hZ hQ hR hs1 hs2 hs3 hs4 hHI'
 have KF:=hid (Find_any x.sv x.S r.client W4 (HRD.out W4 HB0.out).s)
 have KR:=hid (fun W (hb:Below w.heap.size w W)=>Renew_any x.sv x.S r.client x.time W (HRD.out W hb).s HSM.out.s)
 have hrl:=renew_len x.S r.client x.time
 have hs1000:=HSM.out.s
 obtain⟨xt,xn,xk,xS,sa,sc,xK,ka,kc,xM,ma,mc⟩:=x
 obtain⟨rc,rs,⟨rk,rn,rm⟩⟩:=r
 unfold stVal reqVal
 simp only[StC.sv,StC.kv,StC.mv] at hW1 KF KR ⊢
 dsimp only at hW2 hk9 hn hk1 hk3 hk4 hk5 hk6 hyes KF KR hrl hs1000
 obtain⟨c0,c1,c2,c3,c4,c5,cf⟩:=HX0.out
 simp only[StC.sv,StC.kv,StC.mv] at c0 c1 c2 c3 c4 c5
 obtain⟨q0,q1,q2,q3,q4⟩:=HQ0.out
 dsimp only at q0 q1 q2 q3 q4
 obtain⟨R,hR⟩: ∃R,doesA (StC.v ⟨xt,xn,xk,xS,sa,sc,xK,ka,kc,xM,ma,mc⟩) ⟨rc,rs,⟨rk,rn,rm⟩⟩=R:=⟨_,rfl⟩
 have HRR:=hid hR
 rw[hR]
 clear hR
 have d1:(rk==(1:Int))=false:=by simpa using hk1
 have d3:(rk==(3:Int))=false:=by simpa using hk3
 have d4:(rk==(4:Int))=false:=by simpa using hk4
 have d5:(rk==(5:Int))=false:=by simpa using hk5
 have d6:(rk==(6:Int))=false:=by simpa using hk6
 have hRR:R=(⟨xt,xn,xk,(renewS xS rc xt).1,vals xK,valsM xM⟩,⟨0,(findS (renewS xS rc xt).1 rc).1.num,0,heldK (vals xK) rc⟩):=by
  rw[<-HRR.out]
  unfold doesA
  rw[if_neg hk1,if_neg (fun q=>q.elim (fun q=>Bool.noConfusion (hyes.1.symm.trans q)) (fun q=>q hyes.2))]
  show cmdA (renewedA ⟨xt,xn,xk,xS,vals xK,valsM xM⟩ rc) rc ⟨rk,rn,rm⟩= _
  unfold cmdA
  rw[if_neg (by dsimp only;omega),if_neg hk5,if_neg hk6];rfl
 clear HRR
 subst hRR
 clear hk1 hk3 hk4 hk5 hk6
 go_enter Tryz.func59,Tryz.ntmps59
 go_upto_region 1 with fail
 rw[<-hW1,<-hW2,<-hW3,<-hW4]
 rw[HNB.out]
 clear hW1 hW2 hW3 hW4
 obtain⟨⟨⟨fc,fn,fe⟩,fb⟩,hfr⟩: ∃p,findS xS rc=p:=⟨_,rfl⟩
 rw[hfr] at KF
 have HFR:=hid hfr
 clear hfr
 go_upto_region 4 with (go_at_call 49;refine KF.out.mono ?_;rintro e w5 ⟨rfl,hb5⟩;unfold sesVal;dsimp only;have HB5:=hid hb5;clear hb5)
 obtain⟨W5,hW5⟩: ∃W5,W5=w5.alloc (.cells #[.int .i64 fc,.int .i64 fn,.int .i64 fe] 73):=⟨_,rfl⟩
 have HB45:Hid (Below W4.heap.size W4 W5):=hid (by rw[hW5];exact stepAlloc HB5.out _)
 have hy5:W5.cell? ⟨w5.heap.size,1,none⟩=some (.int .i64 fn):=by rw[hW5];exact(box3s (Below.refl _ _)).2.1
 rw[<-hW5]
 clear hW5
 have HBN5:=hid (step HB0.out HB45.out)
 have HX5:=hid (HX0.out.later HB45.out)
 have HQ5:=hid (HQ0.out.later HB45.out)
 have HZ5:=hid (HZ0.out.later HB45.out)
 have HR5:=hid (HR0.out.later HB45.out)
 have hsz5:HI<=W5.heap.size:=Nat.le_trans hsz0 HB45.out.size
 have HF5:Hid (FromS HI W5 ⟨xt,xn,xk,xS,sa,sc,xK,ka,kc,xM,ma,mc⟩ ⟨xt,xn,xk,xS,sa,sc,xK,ka,kc,xM,ma,mc⟩):=hid (FromS.refl _ _ _)
 clear c0 c1 c2 c3 c4 c5 cf q0 q1 q2 q3 q4 HX0 HZ0 HR0 HQ0 KF
 obtain⟨c0,c1,c2,c3,c4,c5,cf⟩:=HX5.out
 simp only[StC.sv,StC.kv,StC.mv] at c0 c1 c2 c3 c4 c5
 obtain⟨q0,q1,q2,q3,q4⟩:=HQ5.out
 dsimp only at q0 q1 q2 q3 q4
 have hfb:fb=true:=by have:=hyes.1;rw[HFR.out] at this;exact this
 have hfn:fn=rn:=by have:=hyes.2;rw[HFR.out] at this;exact this
 subst hfb
 have d2:(fn != rn)=false:=by simp [hfn]
 obtain⟨⟨rl,rcd⟩,hrn⟩: ∃p,renewS xS rc xt=p:=⟨_,rfl⟩
 rw[hrn] at KR hrl
 dsimp only at hrl
 have HRN:=hid hrn
 clear hrn hfn hyes
 go_upto_region 7 with (go_at_call 124;refine(KR.out W5 HBN5.out).mono ?_;rintro e w6 ⟨v6,rfl,ho6,hb6⟩;dsimp only at ho6;obtain⟨a6,p6,rfl⟩:=Rw.own_form ho6;have HO6:=hid ho6;have HB56:=hid hb6;clear ho6 hb6)
 have HBN6:=hid (step HBN5.out HB56.out)
 have hX7:=(HX5.out.later HB56.out).set3 rl a6 p6
 have hQ7:=(HQ5.out.later HB56.out).other (show nb≠nb+1 by omega) 3 (.slice a6 rl.length p6)
 have hZ7:=(HZ5.out.later HB56.out).other (show nb≠nb+2 by omega) 3 (.slice a6 rl.length p6)
 have hR7:=(HR5.out.later HB56.out).other (show nb≠nb+3 by omega) 3 (.slice a6 rl.length p6)
 have hf6:FromS HI w6 ⟨xt,xn,xk,xS,sa,sc,xK,ka,kc,xM,ma,mc⟩ ⟨xt,xn,xk,rl,a6,p6,xK,ka,kc,xM,ma,mc⟩:=⟨.inr (own_lowerX HO6.out hsz5),.inl ⟨rfl,rfl,rfl⟩,.inl ⟨rfl,rfl,rfl⟩⟩
 have hF7:=hf6.setBelow (show nb<HI by omega) 3 (.slice a6 rl.length p6)
 have hB7:Below w.heap.size w (w6.setCell ⟨nb,3,none⟩ (.slice a6 rl.length p6)):=HBN6.out.setCell (Nat.le_of_eq HNB.out) _
 have hsz7:HI<=(w6.setCell ⟨nb,3,none⟩ (.slice a6 rl.length p6)).heap.size :=by simpa using Nat.le_trans hsz5 HB56.out.size
 obtain⟨c3',cf'⟩:(w6.cell? ⟨nb,3,none⟩=some (.slice sa xS.length sc))/\ ∀k,w6.frozen? ⟨nb,k,none⟩=false:=⟨(HX5.out.later HB56.out).c3,(HX5.out.later HB56.out).fr⟩
 go_upto_region 8 with fail
 obtain⟨W7,hW7⟩: ∃W7,W7=w6.setCell ⟨nb,3,none⟩ (.slice a6 rl.length p6):=⟨_,rfl⟩
 rw[<-hW7] at hX7 hQ7 hZ7 hR7 hF7 hB7 hsz7 ⊢
 have HX7:=hid hX7
 have HQ7:=hid hQ7
 have HZ7:=hid hZ7
 have HR7:=hid hR7
 have HF7:=hid hF7
 have HB7:=hid hB7
 have HRD7:Hid (∀W,Below W7.heap.size W7 W->RdSt W ⟨xt,xn,xk,rl,a6,p6,xK,ka,kc,xM,ma,mc⟩):=hid fun W hb=>(HF7.out.later hb).rd (HRD.out W (step HB7.out hb))
 clear hW7 hX7 hQ7 hZ7 hR7 hF7 hB7 hf6 c3' cf' c0 c1 c2 c3 c4 c5 cf q0 q1 q2 q3 q4 HX5 HQ5 HZ5 HR5 HF5 KR
 obtain⟨c0,c1,c2,c3,c4,c5,cf⟩:=HX7.out
 simp only[StC.sv,StC.kv,StC.mv] at c0 c1 c2 c3 c4 c5
 obtain⟨q0,q1,q2,q3,q4⟩:=HQ7.out
 dsimp only at q0 q1 q2 q3 q4
 have KT:=hid (fun W (hb:Below W7.heap.size W7 W)=>RefTold_any ⟨xt,xn,xk,rl,a6,p6,xK,ka,kc,xM,ma,mc⟩ rc 0 0 W (HRD7.out W hb) (by show xK.length<=1000;omega))
 unfold toldA GetsTold stVal at KT
 simp only[StC.sv,StC.kv,StC.mv,StC.v] at KT
 go_upto_region 25 with fail
 refine wp_region_held_drew (S:=(fun W=>((W.cell? ⟨nb,0,none⟩=some (.int .i64 xt)/\W.cell? ⟨nb,1,none⟩=some (.int .i64 xn)/\W.cell? ⟨nb,2,none⟩=some (.int .i64 xk))/\W.cell? ⟨nb,3,none⟩=some (.slice a6 rl.length p6)/\W.cell? ⟨nb,4,none⟩=some (.slice ka xK.length kc)/\W.cell? ⟨nb,5,none⟩=some (.slice ma xM.length mc))/\W.cell? ⟨nb+1,0,none⟩=some (.int .i64 rc))) (by kernel_rfl) (⟨(HX7.out.later (Below.refl _ W7).drew).cells,(HQ7.out.later (Below.refl _ W7).drew).c0⟩) (fun hHeld=>?_)
 refine wpAnyH_take (i:=0) (v:=?_) rfl (by kernel_rfl) (by kernel_rfl) (by kernel_rfl) (fun _ _ _ h=>h) (Or.inl ⟨by rfl,?_⟩) (by assumption) ?_
 rotate_left
 ·intro w hSw;(try dsimp only at hSw);go_simp<;>with_reducible rfl
 try simp only[Act.put,getElem_toArray,getElem_cons_zero,setIfInBounds_toArray,set_cons_zero,set_cons_succ]
 refine wpAnyH_take (i:=1) (v:=?_) rfl (by kernel_rfl) (by kernel_rfl) (by kernel_rfl) (fun _ _ _ h=>h) (Or.inl ⟨by rfl,?_⟩) (by assumption) ?_
 rotate_left
 ·intro w hSw;(try dsimp only at hSw);go_simp<;>with_reducible rfl
 try simp only[Act.put,getElem_toArray,getElem_cons_succ,getElem_cons_zero,setIfInBounds_toArray,set_cons_zero,set_cons_succ]
 refine wpAnyH_take (i:=2) (v:=?_) rfl (by kernel_rfl) (by kernel_rfl) (by kernel_rfl) (fun _ _ _ h=>h) (Or.inl ⟨by rfl,?_⟩) (by assumption) ?_
 rotate_left
 ·intro w hSw;(try dsimp only at hSw);go_simp<;>with_reducible rfl
 try simp only[Act.put,getElem_toArray,getElem_cons_succ,getElem_cons_zero,setIfInBounds_toArray,set_cons_zero,set_cons_succ]
 refine wpAnyH_take (i:=3) (v:=?_) rfl (by kernel_rfl) (by kernel_rfl) (by kernel_rfl) (fun _ _ _ h=>h) (Or.inl ⟨by rfl,?_⟩) (by assumption) ?_
 rotate_left
 ·intro w hSw;(try dsimp only at hSw);go_simp<;>with_reducible rfl
 try simp only[Act.put,getElem_toArray,getElem_cons_succ,getElem_cons_zero,setIfInBounds_toArray,set_cons_zero,set_cons_succ]
 refine wpAnyH_ready (rs:= [4]) (by kernel_rfl) (by simp) ?_
 refine AllReadyH.cons rfl (fun K hK=>?_) AllReadyH.nil
 go_simp
 go_at_call 126
 refine(KT.out W7.drew (Below.refl _ W7).drew).mono ?_
 rintro e w5 ⟨a5,p5,rfl,ho5,hb5⟩
 have HO5:=hid ho5
 have HB5:Hid (Below W7.heap.size W7 w5):=hid (step (Below.refl W7.heap.size W7).drew hb5)
 obtain⟨z0,z1,z2,z3,z4,z5,zf⟩:=HZ7.out.later HB5.out
 simp only[zeroC10,StC.sv,StC.kv,StC.mv,List.length_nil] at z0 z1 z2 z3 z4 z5
 obtain⟨⟨r0,r1,r2,r3⟩,rf⟩:=HR7.out _ HB5.out
 clear ho5 hb5
 refine hK.out _ _ (⟨(HX7.out.later HB5.out).cells,(HQ7.out.later HB5.out).c0⟩) (fun hHeld=>?_)
 clear hK K
 try simp only[Act.put,getElem_toArray,getElem_cons_succ,getElem_cons_zero,setIfInBounds_toArray,set_cons_zero,set_cons_succ]
 refine wpAnyH_ready (rs:= [5]) (by kernel_rfl) (by simp) ?_
 refine AllReadyH.cons rfl (fun K hK=>?_) AllReadyH.nil
 go_simp
 refine hK.out _ _ (⟨((HX7.out.later HB5.out).other6 (show nb+2≠nb by omega) _ _ _ _ _ _).cells,((HQ7.out.later HB5.out).other6 (show nb+2≠nb+1 by omega) _ _ _ _ _ _).c0⟩) (fun hHeld=>?_)
 clear hK K
 try simp only[Act.put,getElem_toArray,getElem_cons_succ,getElem_cons_zero,setIfInBounds_toArray,set_cons_zero,set_cons_succ]
 refine wpAnyH_ready (rs:= [6]) (by kernel_rfl) (by simp) ?_
 refine AllReadyH.cons rfl (fun K hK=>?_) AllReadyH.nil
 go_simp
 refine hK.out _ _ (⟨(((HX7.out.later HB5.out).other6 (show nb+2≠nb by omega) _ _ _ _ _ _).other4 (show nb+3≠nb by omega) _ _ _ _).cells,(((HQ7.out.later HB5.out).other6 (show nb+2≠nb+1 by omega) _ _ _ _ _ _).other4 (show nb+3≠nb+1 by omega) _ _ _ _).c0⟩) (fun hHeld=>?_)
 clear hK K
 try simp only[Act.put,getElem_toArray,getElem_cons_succ,getElem_cons_zero,setIfInBounds_toArray,set_cons_zero,set_cons_succ]
 refine wpAnyH_done (by kernel_rfl) ?_ _
 have hl5:nb+3<W7.drew.heap.size:=Nat.lt_of_lt_of_le hlt3 hsz7
 have HOE:=hid (own_lowerX (own_set4z (own_set6z HO5.out (Nat.lt_of_succ_lt hl5) (.int .i64 xt) (.int .i64 xn) (.int .i64 xk) (.slice a6 rl.length p6) (.slice ka xK.length kc) (.slice ma xM.length mc)) hl5 (.int .i64 0) (.int .i64 (findS rl rc).1.num) (.int .i64 0) (.slice a5 (heldK (vals xK) rc).length p5)) (show w.heap.size<=W7.drew.heap.size from by have:=HNB.out;omega))
 have HBE:=hid (set4k (below_set6 (step HB7.out HB5.out) (nb+2) (by have:=HNB.out;omega) (.int .i64 xt) (.int .i64 xn) (.int .i64 xk) (.slice a6 rl.length p6) (.slice ka xK.length kc) (.slice ma xM.length mc)) (nb+3) (by have:=HNB.out;omega) (.int .i64 0) (.int .i64 (findS rl rc).1.num) (.int .i64 0) (.slice a5 (heldK (vals xK) rc).length p5))
 have HFE:=hid ((FromS.set4 (FromS.set6 (HF7.out.later HB5.out) (show nb+2<HI from by omega) (.int .i64 xt) (.int .i64 xn) (.int .i64 xk) (.slice a6 rl.length p6) (.slice ka xK.length kc) (.slice ma xM.length mc)) (show nb+3<HI from hlt3) (.int .i64 0) (.int .i64 (findS rl rc).1.num) (.int .i64 0) (.slice a5 (heldK (vals xK) rc).length p5)).lower hHI)
 go_wp2
 refine bodyPost_ret (by simp [results,Tryz.results59,go_sem,z0,z1,z2,z3,z4,z5,zf,r0,r1,r2,r3,rf]<;>rfl) rfl ?_
 exact⟨⟨xt,xn,xk,rl,a6,p6,xK,ka,kc,xM,ma,mc⟩,a5,p5,by rw[HRN.out];rfl,by rw[HRN.out];rfl,HFE.out,HOE.out,HBE.out⟩
set_option maxHeartbeats 8000000 in
theorem Does_close (x:StC) (r:ReqV) (w:World) (h:RdSt w x) (hs:Small x) (hk9:x.K.length<=900) (hn:0<=x.num/\x.num<=2305843009213693952) (hk6:r.cmd.kind=6) (hyes:(findS x.S r.client).2=true/\(findS x.S r.client).1.num =r.cmd.session):Calls Tryz.prog 59 #[stVal x,reqVal r] w (GetsSR (doesA x.v r) x w):=by
 obtain⟨W1,hW1⟩: ∃W1,W1=w.alloc (.cells #[.int .i64 x.time,.int .i64 x.num,.int .i64 x.token,x.sv,x.kv,x.mv] 26):=⟨_,rfl⟩
 have hb1:Below w.heap.size w W1:=by rw[hW1];exact newAlloc _ _
 have hB1:BoxS W1 w.heap.size x:=by rw[hW1];exact BoxS.new w x _
 have hs1:W1.heap.size=w.heap.size+1:=by rw[hW1];simp
 obtain⟨W2,hW2⟩: ∃W2,W2=W1.alloc (.cells #[.int .i64 r.client,.int .i64 r.seq,.int .i64 r.cmd.kind,.int .i64 r.cmd.session,.string (bstr r.cmd.name)] 30):=⟨_,rfl⟩
 have hb2:Below W1.heap.size W1 W2:=by rw[hW2];exact newAlloc _ _
 have hQ:BoxR W2 (w.heap.size+1) r:=by rw[<-hs1,hW2];exact BoxR.new W1 r _
 have hs2:W2.heap.size=w.heap.size+2:=by rw[hW2];simp [hs1]
 obtain⟨W3,hW3⟩: ∃W3,W3=W2.alloc (.cells #[.int .i64 0,.int .i64 0,.int .i64 0,.slice none 0 0,.slice none 0 0,.slice none 0 0] 26):=⟨_,rfl⟩
 have hb3:Below W2.heap.size W2 W3:=by rw[hW3];exact newAlloc _ _
 have hZ:BoxS W3 (w.heap.size+2) zeroC10:=by rw[<-hs2,hW3];exact BoxS.new W2 zeroC10 _
 have hs3:W3.heap.size=w.heap.size+3:=by rw[hW3];simp [hs2]
 obtain⟨W4,hW4⟩: ∃W4,W4=W3.alloc (.cells #[.int .i64 0,.int .i64 0,.int .i64 0,.slice none 0 0] 36):=⟨_,rfl⟩
 have hb4:Below W3.heap.size W3 W4:=by rw[hW4];exact newAlloc _ _
 have hR:EmptyR W4 (w.heap.size+3):=by rw[<-hs3,hW4];exact EmptyR.new W3
 have hs4:W4.heap.size=w.heap.size+4:=by rw[hW4];simp [hs3]
 have HX0:=hid (hB1.later (step hb2 (step hb3 hb4)))
 have HQ0:=hid (hQ.later (step hb3 hb4))
 have HZ0:=hid (hZ.later hb4)
 have HR0:=hid hR
 have HB0:=hid (step hb1 (step hb2 (step hb3 hb4)))
 have HRD:Hid (∀W,Below w.heap.size w W->RdSt W x):=hid fun W hb=>h.later hb
 have HSM:=hid hs
 obtain⟨HI,hHI'⟩: ∃HI,W4.heap.size=HI:=⟨_,rfl⟩
 obtain⟨nb,hnb⟩: ∃nb,w.heap.size=nb:=⟨_,rfl⟩
 have HNB:=hid hnb
 have hlt3:nb+3<HI:=by omega
 have hHI:w.heap.size<=HI:=by omega
 have hsz0:HI<=W4.heap.size:=Nat.le_of_eq hHI'.symm
 rw[hnb] at HX0 HZ0 HR0 HQ0
 clear hnb h hs hb1 hb2 hb3 hb4 hB1 hZ hQ hR hs1 hs2 hs3 hs4 hHI'
 have KF:=hid (Find_any x.sv x.S r.client W4 (HRD.out W4 HB0.out).s)
 have KR:=hid (fun W (hb:Below w.heap.size w W)=>Renew_any x.sv x.S r.client x.time W (HRD.out W hb).s HSM.out.s)
 have hrl:=renew_len x.S r.client x.time
 have hs1000:=HSM.out.s
 obtain⟨xt,xn,xk,xS,sa,sc,xK,ka,kc,xM,ma,mc⟩:=x
 obtain⟨rc,rs,⟨rk,rn,rm⟩⟩:=r
 unfold stVal reqVal
 simp only[StC.sv,StC.kv,StC.mv] at hW1 KF KR ⊢
 dsimp only at hW2 hk9 hn hk6 hyes KF KR hrl hs1000
 obtain⟨c0,c1,c2,c3,c4,c5,cf⟩:=HX0.out
 simp only[StC.sv,StC.kv,StC.mv] at c0 c1 c2 c3 c4 c5
 obtain⟨q0,q1,q2,q3,q4⟩:=HQ0.out
 dsimp only at q0 q1 q2 q3 q4
 obtain⟨R,hR⟩: ∃R,doesA (StC.v ⟨xt,xn,xk,xS,sa,sc,xK,ka,kc,xM,ma,mc⟩) ⟨rc,rs,⟨rk,rn,rm⟩⟩=R:=⟨_,rfl⟩
 have HRR:=hid hR
 rw[hR]
 clear hR
 have hk1:rk≠1:=by omega
 have hk3:rk≠3:=by omega
 have hk4:rk≠4:=by omega
 have hk5:rk≠5:=by omega
 have d1:(rk==(1:Int))=false:=by simpa using hk1
 have d3:(rk==(3:Int))=false:=by simpa using hk3
 have d4:(rk==(4:Int))=false:=by simpa using hk4
 have d5:(rk==(5:Int))=false:=by simpa using hk5
 have d6:(rk==(6:Int))=true:=by simpa using hk6
 have hRR:R=(dropA ⟨xt,xn,xk,(renewS xS rc xt).1,vals xK,valsM xM⟩ [rc],⟨0,0,0,[]⟩):=by
  rw[<-HRR.out]
  unfold doesA
  rw[if_neg hk1,if_neg (fun q=>q.elim (fun q=>Bool.noConfusion (hyes.1.symm.trans q)) (fun q=>q hyes.2))]
  show cmdA (renewedA ⟨xt,xn,xk,xS,vals xK,valsM xM⟩ rc) rc ⟨rk,rn,rm⟩= _
  unfold cmdA
  rw[if_neg (by dsimp only;omega),if_neg hk5,if_pos hk6];rfl
 clear HRR
 subst hRR
 clear hk1 hk3 hk4 hk5 hk6
 go_enter Tryz.func59,Tryz.ntmps59
 go_upto_region 1 with fail
 rw[<-hW1,<-hW2,<-hW3,<-hW4]
 rw[HNB.out]
 clear hW1 hW2 hW3 hW4
 obtain⟨⟨⟨fc,fn,fe⟩,fb⟩,hfr⟩: ∃p,findS xS rc=p:=⟨_,rfl⟩
 rw[hfr] at KF
 have HFR:=hid hfr
 clear hfr
 go_upto_region 4 with (go_at_call 49;refine KF.out.mono ?_;rintro e w5 ⟨rfl,hb5⟩;unfold sesVal;dsimp only;have HB5:=hid hb5;clear hb5)
 obtain⟨W5,hW5⟩: ∃W5,W5=w5.alloc (.cells #[.int .i64 fc,.int .i64 fn,.int .i64 fe] 73):=⟨_,rfl⟩
 have HB45:Hid (Below W4.heap.size W4 W5):=hid (by rw[hW5];exact stepAlloc HB5.out _)
 have hy5:W5.cell? ⟨w5.heap.size,1,none⟩=some (.int .i64 fn):=by rw[hW5];exact(box3s (Below.refl _ _)).2.1
 rw[<-hW5]
 clear hW5
 have HBN5:=hid (step HB0.out HB45.out)
 have HX5:=hid (HX0.out.later HB45.out)
 have HQ5:=hid (HQ0.out.later HB45.out)
 have HZ5:=hid (HZ0.out.later HB45.out)
 have HR5:=hid (HR0.out.later HB45.out)
 have hsz5:HI<=W5.heap.size:=Nat.le_trans hsz0 HB45.out.size
 have HF5:Hid (FromS HI W5 ⟨xt,xn,xk,xS,sa,sc,xK,ka,kc,xM,ma,mc⟩ ⟨xt,xn,xk,xS,sa,sc,xK,ka,kc,xM,ma,mc⟩):=hid (FromS.refl _ _ _)
 clear c0 c1 c2 c3 c4 c5 cf q0 q1 q2 q3 q4 HX0 HZ0 HR0 HQ0 KF
 obtain⟨c0,c1,c2,c3,c4,c5,cf⟩:=HX5.out
 simp only[StC.sv,StC.kv,StC.mv] at c0 c1 c2 c3 c4 c5
 obtain⟨q0,q1,q2,q3,q4⟩:=HQ5.out
 dsimp only at q0 q1 q2 q3 q4
 have hfb:fb=true:=by have:=hyes.1;rw[HFR.out] at this;exact this
 have hfn:fn=rn:=by have:=hyes.2;rw[HFR.out] at this;exact this
 subst hfb
 have d2:(fn != rn)=false:=by simp [hfn]
 obtain⟨⟨rl,rcd⟩,hrn⟩: ∃p,renewS xS rc xt=p:=⟨_,rfl⟩
 rw[hrn] at KR hrl
 dsimp only at hrl
 have HRN:=hid hrn
 clear hrn hfn hyes
 go_upto_region 7 with (go_at_call 124;refine(KR.out W5 HBN5.out).mono ?_;rintro e w6 ⟨v6,rfl,ho6,hb6⟩;dsimp only at ho6;obtain⟨a6,p6,rfl⟩:=Rw.own_form ho6;have HO6:=hid ho6;have HB56:=hid hb6;clear ho6 hb6)
 have HBN6:=hid (step HBN5.out HB56.out)
 have hX7:=(HX5.out.later HB56.out).set3 rl a6 p6
 have hQ7:=(HQ5.out.later HB56.out).other (show nb≠nb+1 by omega) 3 (.slice a6 rl.length p6)
 have hZ7:=(HZ5.out.later HB56.out).other (show nb≠nb+2 by omega) 3 (.slice a6 rl.length p6)
 have hR7:=(HR5.out.later HB56.out).other (show nb≠nb+3 by omega) 3 (.slice a6 rl.length p6)
 have hf6:FromS HI w6 ⟨xt,xn,xk,xS,sa,sc,xK,ka,kc,xM,ma,mc⟩ ⟨xt,xn,xk,rl,a6,p6,xK,ka,kc,xM,ma,mc⟩:=⟨.inr (own_lowerX HO6.out hsz5),.inl ⟨rfl,rfl,rfl⟩,.inl ⟨rfl,rfl,rfl⟩⟩
 have hF7:=hf6.setBelow (show nb<HI by omega) 3 (.slice a6 rl.length p6)
 have hB7:Below w.heap.size w (w6.setCell ⟨nb,3,none⟩ (.slice a6 rl.length p6)):=HBN6.out.setCell (Nat.le_of_eq HNB.out) _
 have hsz7:HI<=(w6.setCell ⟨nb,3,none⟩ (.slice a6 rl.length p6)).heap.size :=by simpa using Nat.le_trans hsz5 HB56.out.size
 obtain⟨c3',cf'⟩:(w6.cell? ⟨nb,3,none⟩=some (.slice sa xS.length sc))/\ ∀k,w6.frozen? ⟨nb,k,none⟩=false:=⟨(HX5.out.later HB56.out).c3,(HX5.out.later HB56.out).fr⟩
 go_upto_region 8 with fail
 obtain⟨W7,hW7⟩: ∃W7,W7=w6.setCell ⟨nb,3,none⟩ (.slice a6 rl.length p6):=⟨_,rfl⟩
 rw[<-hW7] at hX7 hQ7 hZ7 hR7 hF7 hB7 hsz7 ⊢
 have HX7:=hid hX7
 have HQ7:=hid hQ7
 have HZ7:=hid hZ7
 have HR7:=hid hR7
 have HF7:=hid hF7
 have HB7:=hid hB7
 have HRD7:Hid (∀W,Below W7.heap.size W7 W->RdSt W ⟨xt,xn,xk,rl,a6,p6,xK,ka,kc,xM,ma,mc⟩):=hid fun W hb=>(HF7.out.later hb).rd (HRD.out W (step HB7.out hb))
 clear hW7 hX7 hQ7 hZ7 hR7 hF7 hB7 hf6 c3' cf' c0 c1 c2 c3 c4 c5 cf q0 q1 q2 q3 q4 HX5 HQ5 HZ5 HR5 HF5 KR
 obtain⟨c0,c1,c2,c3,c4,c5,cf⟩:=HX7.out
 simp only[StC.sv,StC.kv,StC.mv] at c0 c1 c2 c3 c4 c5
 obtain⟨q0,q1,q2,q3,q4⟩:=HQ7.out
 dsimp only at q0 q1 q2 q3 q4
 have KD:=hid (fun W u (hb:Below W7.heap.size W7 W) (hG:RdI W u [rc])=>RefDrop_any ⟨xt,xn,xk,rl,a6,p6,xK,ka,kc,xM,ma,mc⟩ u [rc] W (HRD7.out W hb) hG ⟨Nat.le_trans hrl HSM.out.s,HSM.out.k,HSM.out.l,HSM.out.m,HSM.out.h,HSM.out.n,HSM.out.t⟩)
 unfold stVal at KD
 simp only[StC.sv,StC.kv,StC.mv] at KD
 have HDV:Hid (dropA (StC.v ⟨xt,xn,xk,rl,a6,p6,xK,ka,kc,xM,ma,mc⟩) [rc]=dropA ⟨xt,xn,xk,(renewS xS rc xt).1,vals xK,valsM xM⟩ [rc]):=hid (by rw[HRN.out];rfl)
 obtain⟨DD,hDD⟩: ∃DD,dropA (StC.v ⟨xt,xn,xk,rl,a6,p6,xK,ka,kc,xM,ma,mc⟩) [rc]=DD:=⟨_,rfl⟩
 rw[hDD] at KD HDV
 clear hDD
 go_upto_region 24 with fail
 go_wp2_with (go_at_call 66;refine(KD.out _ _ (newAlloc W7 (.cells #[.int .i64 rc] 3)) (RdX.one (heap_alloc_new W7 _) rfl)).mono ?_;rintro e w8 ⟨⟨yt,yn,yk,yS,ya,yc,yK,yka,ykc,yM,yma,ymc⟩,he,hv8,hf8,hb8⟩;unfold stVal at he;simp only[StC.sv,StC.kv,StC.mv] at he;subst he;have HV8:=hid hv8;have HF8:=hid (hf8.lower (newAlloc W7 (.cells #[.int .i64 rc] 3)).size);have HB8:Hid (Below W7.heap.size W7 w8):=hid (step (newAlloc W7 (.cells #[.int .i64 rc] 3)) hb8);obtain⟨z0,z1,z2,z3,z4,z5,zf⟩:=HZ7.out.later HB8.out;simp only[zeroC10,StC.sv,StC.kv,StC.mv,List.length_nil] at z0 z1 z2 z3 z4 z5;obtain⟨⟨r0,r1,r2,r3⟩,rf⟩:=HR7.out _ HB8.out;clear hv8 hf8 hb8)
 have HFE:=hid ((FromS.trans (HF7.out.later HB8.out) (HF8.out.lower hsz7)))
 refine bodyPost_ret (by simp [results,Tryz.results59,go_sem,z0,z1,z2,z3,z4,z5,zf,r0,r1,r2,r3,rf]<;>rfl) rfl ?_
 exact⟨⟨yt,yn,yk,yS,ya,yc,yK,yka,ykc,yM,yma,ymc⟩,none,0,rfl,HV8.out.trans HDV.out,(FromS.set4 (FromS.set6 HFE.out (show nb+2<HI from by omega) _ _ _ _ _ _) (show nb+3<HI from hlt3) _ _ _ _).lower hHI,World.ownsRow_nil _ _ _ _,set4k (below_set6 (step HB7.out HB8.out) (nb+2) (by have:=HNB.out;omega) _ _ _ _ _ _) (nb+3) (by have:=HNB.out;omega) _ _ _ _⟩
set_option maxHeartbeats 8000000 in
theorem Does_take3 (x:StC) (r:ReqV) (w:World) (h:RdSt w x) (hs:Small x) (hk9:x.K.length<=900) (hn:0<=x.num/\x.num<=2305843009213693952) (hk:r.cmd.kind=3) (hyes:(findS x.S r.client).2=true/\(findS x.S r.client).1.num =r.cmd.session):Calls Tryz.prog 59 #[stVal x,reqVal r] w (GetsSR (doesA x.v r) x w):=by
 obtain⟨W1,hW1⟩: ∃W1,W1=w.alloc (.cells #[.int .i64 x.time,.int .i64 x.num,.int .i64 x.token,x.sv,x.kv,x.mv] 26):=⟨_,rfl⟩
 have hb1:Below w.heap.size w W1:=by rw[hW1];exact newAlloc _ _
 have hB1:BoxS W1 w.heap.size x:=by rw[hW1];exact BoxS.new w x _
 have hs1:W1.heap.size=w.heap.size+1:=by rw[hW1];simp
 obtain⟨W2,hW2⟩: ∃W2,W2=W1.alloc (.cells #[.int .i64 r.client,.int .i64 r.seq,.int .i64 r.cmd.kind,.int .i64 r.cmd.session,.string (bstr r.cmd.name)] 30):=⟨_,rfl⟩
 have hb2:Below W1.heap.size W1 W2:=by rw[hW2];exact newAlloc _ _
 have hQ:BoxR W2 (w.heap.size+1) r:=by rw[<-hs1,hW2];exact BoxR.new W1 r _
 have hs2:W2.heap.size=w.heap.size+2:=by rw[hW2];simp [hs1]
 obtain⟨W3,hW3⟩: ∃W3,W3=W2.alloc (.cells #[.int .i64 0,.int .i64 0,.int .i64 0,.slice none 0 0,.slice none 0 0,.slice none 0 0] 26):=⟨_,rfl⟩
 have hb3:Below W2.heap.size W2 W3:=by rw[hW3];exact newAlloc _ _
 have hZ:BoxS W3 (w.heap.size+2) zeroC10:=by rw[<-hs2,hW3];exact BoxS.new W2 zeroC10 _
 have hs3:W3.heap.size=w.heap.size+3:=by rw[hW3];simp [hs2]
 obtain⟨W4,hW4⟩: ∃W4,W4=W3.alloc (.cells #[.int .i64 0,.int .i64 0,.int .i64 0,.slice none 0 0] 36):=⟨_,rfl⟩
 have hb4:Below W3.heap.size W3 W4:=by rw[hW4];exact newAlloc _ _
 have hR:EmptyR W4 (w.heap.size+3):=by rw[<-hs3,hW4];exact EmptyR.new W3
 have hs4:W4.heap.size=w.heap.size+4:=by rw[hW4];simp [hs3]
 have HX0:=hid (hB1.later (step hb2 (step hb3 hb4)))
 have HQ0:=hid (hQ.later (step hb3 hb4))
 have HZ0:=hid (hZ.later hb4)
 have HR0:=hid hR
 have HB0:=hid (step hb1 (step hb2 (step hb3 hb4)))
 have HRD:Hid (∀W,Below w.heap.size w W->RdSt W x):=hid fun W hb=>h.later hb
 have HSM:=hid hs
 obtain⟨HI,hHI'⟩: ∃HI,W4.heap.size=HI:=⟨_,rfl⟩
 obtain⟨nb,hnb⟩: ∃nb,w.heap.size=nb:=⟨_,rfl⟩
 have HNB:=hid hnb
 have hlt3:nb+3<HI:=by omega
 have hHI:w.heap.size<=HI:=by omega
 have hsz0:HI<=W4.heap.size:=Nat.le_of_eq hHI'.symm
 rw[hnb] at HX0 HZ0 HR0 HQ0
 clear hnb h hs hb1 hb2 hb3 hb4 hB1 hZ hQ hR hs1 hs2 hs3 hs4 hHI'
 have KF:=hid (Find_any x.sv x.S r.client W4 (HRD.out W4 HB0.out).s)
 have KR:=hid (fun W (hb:Below w.heap.size w W)=>Renew_any x.sv x.S r.client x.time W (HRD.out W hb).s HSM.out.s)
 have hrl:=renew_len x.S r.client x.time
 have hs1000:=HSM.out.s
 have KTK:=hid (fun W (hb:Below w.heap.size w W)=>TakeLock_any x.kv x.K r.cmd.name r.client x.token true W (HRD.out W hb).k HSM.out.k HSM.out.l ⟨HSM.out.t.1,by have:=HSM.out.t.2;omega⟩)
 have htk:=HSM.out.t
 obtain⟨xt,xn,xk,xS,sa,sc,xK,ka,kc,xM,ma,mc⟩:=x
 obtain⟨rc,rs,⟨rk,rn,rm⟩⟩:=r
 unfold stVal reqVal
 simp only[StC.sv,StC.kv,StC.mv] at hW1 KF KR KTK ⊢
 dsimp only at hW2 hk9 hn hk hyes KF KR hrl hs1000 KTK htk
 obtain⟨c0,c1,c2,c3,c4,c5,cf⟩:=HX0.out
 simp only[StC.sv,StC.kv,StC.mv] at c0 c1 c2 c3 c4 c5
 obtain⟨q0,q1,q2,q3,q4⟩:=HQ0.out
 dsimp only at q0 q1 q2 q3 q4
 obtain⟨R,hR⟩: ∃R,doesA (StC.v ⟨xt,xn,xk,xS,sa,sc,xK,ka,kc,xM,ma,mc⟩) ⟨rc,rs,⟨rk,rn,rm⟩⟩=R:=⟨_,rfl⟩
 have HRR:=hid hR
 rw[hR]
 clear hR
 have hk1:rk≠1:=by omega
 have d1:(rk==(1:Int))=false:=by simpa using hk1
 have d3:(rk==(3:Int))=true:=by simpa using hk
 have hRR:R=cmdA ⟨xt,xn,xk,(renewS xS rc xt).1,vals xK,valsM xM⟩ rc ⟨rk,rn,rm⟩:=by
  rw[<-HRR.out]
  unfold doesA
  rw[if_neg hk1,if_neg (fun q=>q.elim (fun q=>Bool.noConfusion (hyes.1.symm.trans q)) (fun q=>q hyes.2))]
  rfl
 have HRC:=hid hRR
 clear hRR HRR
 have HRK:=hid hk
 clear hk hk1
 go_enter Tryz.func59,Tryz.ntmps59
 go_upto_region 1 with fail
 rw[<-hW1,<-hW2,<-hW3,<-hW4]
 rw[HNB.out]
 clear hW1 hW2 hW3 hW4
 obtain⟨⟨⟨fc,fn,fe⟩,fb⟩,hfr⟩: ∃p,findS xS rc=p:=⟨_,rfl⟩
 rw[hfr] at KF
 have HFR:=hid hfr
 clear hfr
 go_upto_region 4 with (go_at_call 49;refine KF.out.mono ?_;rintro e w5 ⟨rfl,hb5⟩;unfold sesVal;dsimp only;have HB5:=hid hb5;clear hb5)
 obtain⟨W5,hW5⟩: ∃W5,W5=w5.alloc (.cells #[.int .i64 fc,.int .i64 fn,.int .i64 fe] 73):=⟨_,rfl⟩
 have HB45:Hid (Below W4.heap.size W4 W5):=hid (by rw[hW5];exact stepAlloc HB5.out _)
 have hy5:W5.cell? ⟨w5.heap.size,1,none⟩=some (.int .i64 fn):=by rw[hW5];exact(box3s (Below.refl _ _)).2.1
 rw[<-hW5]
 clear hW5
 have HBN5:=hid (step HB0.out HB45.out)
 have HX5:=hid (HX0.out.later HB45.out)
 have HQ5:=hid (HQ0.out.later HB45.out)
 have HZ5:=hid (HZ0.out.later HB45.out)
 have HR5:=hid (HR0.out.later HB45.out)
 have hsz5:HI<=W5.heap.size:=Nat.le_trans hsz0 HB45.out.size
 have HF5:Hid (FromS HI W5 ⟨xt,xn,xk,xS,sa,sc,xK,ka,kc,xM,ma,mc⟩ ⟨xt,xn,xk,xS,sa,sc,xK,ka,kc,xM,ma,mc⟩):=hid (FromS.refl _ _ _)
 clear c0 c1 c2 c3 c4 c5 cf q0 q1 q2 q3 q4 HX0 HZ0 HR0 HQ0 KF
 obtain⟨c0,c1,c2,c3,c4,c5,cf⟩:=HX5.out
 simp only[StC.sv,StC.kv,StC.mv] at c0 c1 c2 c3 c4 c5
 obtain⟨q0,q1,q2,q3,q4⟩:=HQ5.out
 dsimp only at q0 q1 q2 q3 q4
 have hfb:fb=true:=by have:=hyes.1;rw[HFR.out] at this;exact this
 have hfn:fn=rn:=by have:=hyes.2;rw[HFR.out] at this;exact this
 subst hfb
 have d2:(fn != rn)=false:=by simp [hfn]
 obtain⟨⟨rl,rcd⟩,hrn⟩: ∃p,renewS xS rc xt=p:=⟨_,rfl⟩
 rw[hrn] at KR hrl
 dsimp only at hrl
 have HRN:=hid hrn
 clear hrn hfn hyes
 go_upto_region 7 with (go_at_call 124;refine(KR.out W5 HBN5.out).mono ?_;rintro e w6 ⟨v6,rfl,ho6,hb6⟩;dsimp only at ho6;obtain⟨a6,p6,rfl⟩:=Rw.own_form ho6;have HO6:=hid ho6;have HB56:=hid hb6;clear ho6 hb6)
 have HBN6:=hid (step HBN5.out HB56.out)
 have hX7:=(HX5.out.later HB56.out).set3 rl a6 p6
 have hQ7:=(HQ5.out.later HB56.out).other (show nb≠nb+1 by omega) 3 (.slice a6 rl.length p6)
 have hZ7:=(HZ5.out.later HB56.out).other (show nb≠nb+2 by omega) 3 (.slice a6 rl.length p6)
 have hR7:=(HR5.out.later HB56.out).other (show nb≠nb+3 by omega) 3 (.slice a6 rl.length p6)
 have hf6:FromS HI w6 ⟨xt,xn,xk,xS,sa,sc,xK,ka,kc,xM,ma,mc⟩ ⟨xt,xn,xk,rl,a6,p6,xK,ka,kc,xM,ma,mc⟩:=⟨.inr (own_lowerX HO6.out hsz5),.inl ⟨rfl,rfl,rfl⟩,.inl ⟨rfl,rfl,rfl⟩⟩
 have hF7:=hf6.setBelow (show nb<HI by omega) 3 (.slice a6 rl.length p6)
 have hB7:Below w.heap.size w (w6.setCell ⟨nb,3,none⟩ (.slice a6 rl.length p6)):=HBN6.out.setCell (Nat.le_of_eq HNB.out) _
 have hsz7:HI<=(w6.setCell ⟨nb,3,none⟩ (.slice a6 rl.length p6)).heap.size :=by simpa using Nat.le_trans hsz5 HB56.out.size
 obtain⟨c3',cf'⟩:(w6.cell? ⟨nb,3,none⟩=some (.slice sa xS.length sc))/\ ∀k,w6.frozen? ⟨nb,k,none⟩=false:=⟨(HX5.out.later HB56.out).c3,(HX5.out.later HB56.out).fr⟩
 go_upto_region 8 with fail
 obtain⟨W7,hW7⟩: ∃W7,W7=w6.setCell ⟨nb,3,none⟩ (.slice a6 rl.length p6):=⟨_,rfl⟩
 rw[<-hW7] at hX7 hQ7 hZ7 hR7 hF7 hB7 hsz7 ⊢
 have HX7:=hid hX7
 have HQ7:=hid hQ7
 have HZ7:=hid hZ7
 have HR7:=hid hR7
 have HF7:=hid hF7
 have HB7:=hid hB7
 have HRD7:Hid (∀W,Below W7.heap.size W7 W->RdSt W ⟨xt,xn,xk,rl,a6,p6,xK,ka,kc,xM,ma,mc⟩):=hid fun W hb=>(HF7.out.later hb).rd (HRD.out W (step HB7.out hb))
 clear hW7 hX7 hQ7 hZ7 hR7 hF7 hB7 hf6 c3' cf' c0 c1 c2 c3 c4 c5 cf q0 q1 q2 q3 q4 HX5 HQ5 HZ5 HR5 HF5 KR
 obtain⟨c0,c1,c2,c3,c4,c5,cf⟩:=HX7.out
 simp only[StC.sv,StC.kv,StC.mv] at c0 c1 c2 c3 c4 c5
 obtain⟨q0,q1,q2,q3,q4⟩:=HQ7.out
 dsimp only at q0 q1 q2 q3 q4
 obtain⟨⟨tl,ta,tc⟩,htt⟩: ∃p,takeK (vals xK) rm rc xk true=p:=⟨_,rfl⟩
 have htl:=take_len (vals xK) rm rc xk true
 rw[htt] at KTK htl
 dsimp only at htl
 rw[vals_length] at htl
 have HTT:=hid htt
 have HK4:Hid (cmdA ⟨xt,xn,xk,(renewS xS rc xt).1,vals xK,valsM xM⟩ rc ⟨rk,rn,rm⟩=(takenA ⟨xt,xn,xk,rl,vals xK,valsM xM⟩ rm rc true,toldA (takenA ⟨xt,xn,xk,rl,vals xK,valsM xM⟩ rm rc true) rc tc ta)):=hid (by
  have hrk:=HRK.out
  rw[HRN.out]
  unfold cmdA
  rw[if_pos (by dsimp only;omega)]
  have e:decide (rk=3)=true:=by rw[hrk];rfl
  dsimp only
  rw[e,htt])
 have e1:IntKind.i64.wrap (xk+1)=xk+1:=by rw[IntKind.wrap_i64];omega
 clear htt
 go_upto_region 12 with (go_at_call 125;refine(KTK.out W7 HB7.out).mono ?_;rintro e w8 ⟨v8,M8,rfl,hm8,ho8,hb8⟩;dsimp only at hm8 ho8;obtain⟨a8,p8,rfl⟩:=Rw.own_form ho8.row;have HM8:=hid hm8;have HO8:=hid ho8;have HB78:=hid hb8;clear hm8 ho8 hb8)
 have HBN8:=hid (step HB7.out HB78.out)
 have hM8:M8.length<=901:=by
  have:=vals_length M8
  rw[HM8.out] at this
  omega
 clear c0 c1 c2 c3 c4 c5 cf q0 q1 q2 q3 q4
 obtain⟨c0,c1,c2,c3,c4,c5,cf⟩:=HX7.out.later HB78.out
 simp only[StC.sv,StC.kv,StC.mv] at c0 c1 c2 c3 c4 c5
 obtain⟨q0,q1,q2,q3,q4⟩:=HQ7.out.later HB78.out
 dsimp only at q0 q1 q2 q3 q4
 have hf8n:FromS HI w8 ⟨xt,xn,xk,xS,sa,sc,xK,ka,kc,xM,ma,mc⟩ ⟨xt,xn,xk,rl,a6,p6,M8,a8,p8,xM,ma,mc⟩:=⟨(HF7.out.later HB78.out).s,.inr (HO8.out.lower hsz7),(HF7.out.later HB78.out).m⟩
 by_cases ht0:tc=0
 ·have g1:(tc==(0:Int))=true:=by simpa using ht0
  have HRV:Hid (R=(⟨xt,xn,(xk+1),rl,vals M8,valsM xM⟩,⟨tc,(findS rl rc).1.num,ta,heldK (vals M8) rc⟩)):=hid (by
   rw[HRC.out,HK4.out]
   unfold toldA takenA
   dsimp only
   rw[HTT.out]
   simp [ht0,HM8.out])
  have hf8:FromS HI w8 ⟨xt,xn,xk,xS,sa,sc,xK,ka,kc,xM,ma,mc⟩ ⟨xt,xn,xk+1,rl,a6,p6,M8,a8,p8,xM,ma,mc⟩:=⟨hf8n.s,hf8n.k,hf8n.m⟩
  clear ht0 hf8n
  have hX9:=(((HX7.out.later HB78.out).set4 M8 a8 p8).set2 (xk+1))
  have hQ9:=(((HQ7.out.later HB78.out).other (show nb≠nb+1 by omega) 4 (.slice a8 M8.length p8)).other (show nb≠nb+1 by omega) 2 (.int .i64 (xk+1)))
  have hZ9:=(((HZ7.out.later HB78.out).other (show nb≠nb+2 by omega) 4 (.slice a8 M8.length p8)).other (show nb≠nb+2 by omega) 2 (.int .i64 (xk+1)))
  have hR9:=(((HR7.out.later HB78.out).other (show nb≠nb+3 by omega) 4 (.slice a8 M8.length p8)).other (show nb≠nb+3 by omega) 2 (.int .i64 (xk+1)))
  have hF9:=((hf8.setBelow (show nb<HI by omega) 4 (.slice a8 M8.length p8)).setBelow (show nb<HI by omega) 2 (.int .i64 (xk+1)))
  have hB9:Below w.heap.size w ((w8.setCell ⟨nb,4,none⟩ (.slice a8 M8.length p8)).setCell ⟨nb,2,none⟩ (.int .i64 (xk+1))):=((HBN8.out.setCell (Nat.le_of_eq HNB.out) _).setCell (Nat.le_of_eq HNB.out) _)
  have hsz9:HI<=((w8.setCell ⟨nb,4,none⟩ (.slice a8 M8.length p8)).setCell ⟨nb,2,none⟩ (.int .i64 (xk+1))).heap.size :=by simpa using Nat.le_trans hsz7 HB78.out.size
  go_upto_region 16 with fail
  obtain⟨W9,hW9⟩: ∃W9,W9=((w8.setCell ⟨nb,4,none⟩ (.slice a8 M8.length p8)).setCell ⟨nb,2,none⟩ (.int .i64 (xk+1))):=⟨_,rfl⟩
  rw[<-hW9] at hX9 hQ9 hZ9 hR9 hF9 hB9 hsz9 ⊢
  have HX9:=hid hX9
  have HQ9:=hid hQ9
  have HZ9:=hid hZ9
  have HR9:=hid hR9
  have HF9:=hid hF9
  have HB9:=hid hB9
  clear hW9 hX9 hQ9 hZ9 hR9 hF9 hB9 hf8 c0 c1 c2 c3 c4 c5 cf q0 q1 q2 q3 q4 HX7 HQ7 HZ7 HR7 HF7
  have KT:=hid (fun W (hb:Below W9.heap.size W9 W)=>RefTold_any ⟨xt,xn,(xk+1),rl,a6,p6,M8,a8,p8,xM,ma,mc⟩ rc tc ta W ((HF9.out.later hb).rd (HRD.out W (step HB9.out hb))) (by show M8.length<=1000;omega))
  unfold toldA GetsTold stVal at KT
  simp only[StC.sv,StC.kv,StC.mv,StC.v] at KT
  obtain⟨c0,c1,c2,c3,c4,c5,cf⟩:=HX9.out
  simp only[StC.sv,StC.kv,StC.mv] at c0 c1 c2 c3 c4 c5
  obtain⟨q0,q1,q2,q3,q4⟩:=HQ9.out
  dsimp only at q0 q1 q2 q3 q4
  refine wp_region_held_drew (S:=(fun W=>((W.cell? ⟨nb,0,none⟩=some (.int .i64 xt)/\W.cell? ⟨nb,1,none⟩=some (.int .i64 xn)/\W.cell? ⟨nb,2,none⟩=some (.int .i64 (xk+1)))/\W.cell? ⟨nb,3,none⟩=some (.slice a6 rl.length p6)/\W.cell? ⟨nb,4,none⟩=some (.slice a8 M8.length p8)/\W.cell? ⟨nb,5,none⟩=some (.slice ma xM.length mc))/\W.cell? ⟨nb+1,0,none⟩=some (.int .i64 rc))) (by kernel_rfl) (⟨(HX9.out.later (Below.refl _ W9).drew).cells,(HQ9.out.later (Below.refl _ W9).drew).c0⟩) (fun hHeld=>?_)
  refine wpAnyH_take (i:=0) (v:=?_) rfl (by kernel_rfl) (by kernel_rfl) (by kernel_rfl) (fun _ _ _ h=>h) (Or.inl ⟨by rfl,?_⟩) (by assumption) ?_
  rotate_left
  ·intro w hSw;(try dsimp only at hSw);go_simp<;>with_reducible rfl
  try simp only[Act.put,getElem_toArray,getElem_cons_zero,setIfInBounds_toArray,set_cons_zero,set_cons_succ]
  refine wpAnyH_take (i:=1) (v:=?_) rfl (by kernel_rfl) (by kernel_rfl) (by kernel_rfl) (fun _ _ _ h=>h) (Or.inl ⟨by rfl,?_⟩) (by assumption) ?_
  rotate_left
  ·intro w hSw;(try dsimp only at hSw);go_simp<;>with_reducible rfl
  try simp only[Act.put,getElem_toArray,getElem_cons_succ,getElem_cons_zero,setIfInBounds_toArray,set_cons_zero,set_cons_succ]
  refine wpAnyH_take (i:=2) (v:=?_) rfl (by kernel_rfl) (by kernel_rfl) (by kernel_rfl) (fun _ _ _ h=>h) (Or.inl ⟨by rfl,?_⟩) (by assumption) ?_
  rotate_left
  ·intro w hSw;(try dsimp only at hSw);go_simp<;>with_reducible rfl
  try simp only[Act.put,getElem_toArray,getElem_cons_succ,getElem_cons_zero,setIfInBounds_toArray,set_cons_zero,set_cons_succ]
  refine wpAnyH_take (i:=3) (v:=?_) rfl (by kernel_rfl) (by kernel_rfl) (by kernel_rfl) (fun _ _ _ h=>h) (Or.inl ⟨by rfl,?_⟩) (by assumption) ?_
  rotate_left
  ·intro w hSw;(try dsimp only at hSw);go_simp<;>with_reducible rfl
  try simp only[Act.put,getElem_toArray,getElem_cons_succ,getElem_cons_zero,setIfInBounds_toArray,set_cons_zero,set_cons_succ]
  refine wpAnyH_take (i:=4) (v:=?_) rfl (by kernel_rfl) (by kernel_rfl) (by kernel_rfl) (fun _ _ _ h=>h) (Or.inl ⟨by rfl,?_⟩) (by assumption) ?_
  rotate_left
  ·intro w hSw;(try dsimp only at hSw);go_simp<;>with_reducible rfl
  try simp only[Act.put,getElem_toArray,getElem_cons_succ,getElem_cons_zero,setIfInBounds_toArray,set_cons_zero,set_cons_succ]
  refine wpAnyH_take (i:=5) (v:=?_) rfl (by kernel_rfl) (by kernel_rfl) (by kernel_rfl) (fun _ _ _ h=>h) (Or.inl ⟨by rfl,?_⟩) (by assumption) ?_
  rotate_left
  ·intro w hSw;(try dsimp only at hSw);go_simp<;>with_reducible rfl
  try simp only[Act.put,getElem_toArray,getElem_cons_succ,getElem_cons_zero,setIfInBounds_toArray,set_cons_zero,set_cons_succ]
  refine wpAnyH_ready (rs:= [6]) (by kernel_rfl) (by simp) ?_
  refine AllReadyH.cons rfl (fun K hK=>?_) AllReadyH.nil
  go_simp
  go_at_call 126
  refine(KT.out W9.drew (Below.refl _ W9).drew).mono ?_
  rintro e w5 ⟨a5,p5,rfl,ho5,hb5⟩
  have HO5:=hid ho5
  have HB5:Hid (Below W9.heap.size W9 w5):=hid (step (Below.refl W9.heap.size W9).drew hb5)
  obtain⟨z0,z1,z2,z3,z4,z5,zf⟩:=HZ9.out.later HB5.out
  simp only[zeroC10,StC.sv,StC.kv,StC.mv,List.length_nil] at z0 z1 z2 z3 z4 z5
  obtain⟨⟨r0,r1,r2,r3⟩,rf⟩:=HR9.out _ HB5.out
  clear ho5 hb5
  refine hK.out _ _ (⟨(HX9.out.later HB5.out).cells,(HQ9.out.later HB5.out).c0⟩) (fun hHeld=>?_)
  clear hK K
  try simp only[Act.put,getElem_toArray,getElem_cons_succ,getElem_cons_zero,setIfInBounds_toArray,set_cons_zero,set_cons_succ]
  refine wpAnyH_ready (rs:= [7]) (by kernel_rfl) (by simp) ?_
  refine AllReadyH.cons rfl (fun K hK=>?_) AllReadyH.nil
  go_simp
  refine hK.out _ _ (⟨((HX9.out.later HB5.out).other6 (show nb+2≠nb by omega) _ _ _ _ _ _).cells,((HQ9.out.later HB5.out).other6 (show nb+2≠nb+1 by omega) _ _ _ _ _ _).c0⟩) (fun hHeld=>?_)
  clear hK K
  try simp only[Act.put,getElem_toArray,getElem_cons_succ,getElem_cons_zero,setIfInBounds_toArray,set_cons_zero,set_cons_succ]
  refine wpAnyH_ready (rs:= [8]) (by kernel_rfl) (by simp) ?_
  refine AllReadyH.cons rfl (fun K hK=>?_) AllReadyH.nil
  go_simp
  refine hK.out _ _ (⟨(((HX9.out.later HB5.out).other6 (show nb+2≠nb by omega) _ _ _ _ _ _).other4 (show nb+3≠nb by omega) _ _ _ _).cells,(((HQ9.out.later HB5.out).other6 (show nb+2≠nb+1 by omega) _ _ _ _ _ _).other4 (show nb+3≠nb+1 by omega) _ _ _ _).c0⟩) (fun hHeld=>?_)
  clear hK K
  try simp only[Act.put,getElem_toArray,getElem_cons_succ,getElem_cons_zero,setIfInBounds_toArray,set_cons_zero,set_cons_succ]
  refine wpAnyH_done (by kernel_rfl) ?_ _
  have hl5:nb+3<W9.drew.heap.size:=Nat.lt_of_lt_of_le hlt3 hsz9
  have HOE:=hid (own_lowerX (own_set4z (own_set6z HO5.out (Nat.lt_of_succ_lt hl5) (.int .i64 xt) (.int .i64 xn) (.int .i64 (xk+1)) (.slice a6 rl.length p6) (.slice a8 M8.length p8) (.slice ma xM.length mc)) hl5 (.int .i64 tc) (.int .i64 (findS rl rc).1.num) (.int .i64 ta) (.slice a5 (heldK (vals M8) rc).length p5)) (show w.heap.size<=W9.drew.heap.size from by have:=HNB.out;omega))
  have HBE:=hid (set4k (below_set6 (step HB9.out HB5.out) (nb+2) (by have:=HNB.out;omega) (.int .i64 xt) (.int .i64 xn) (.int .i64 (xk+1)) (.slice a6 rl.length p6) (.slice a8 M8.length p8) (.slice ma xM.length mc)) (nb+3) (by have:=HNB.out;omega) (.int .i64 tc) (.int .i64 (findS rl rc).1.num) (.int .i64 ta) (.slice a5 (heldK (vals M8) rc).length p5))
  have HFE:=hid ((FromS.set4 (FromS.set6 (HF9.out.later HB5.out) (show nb+2<HI from by omega) (.int .i64 xt) (.int .i64 xn) (.int .i64 (xk+1)) (.slice a6 rl.length p6) (.slice a8 M8.length p8) (.slice ma xM.length mc)) (show nb+3<HI from hlt3) (.int .i64 tc) (.int .i64 (findS rl rc).1.num) (.int .i64 ta) (.slice a5 (heldK (vals M8) rc).length p5)).lower hHI)
  go_wp2
  refine bodyPost_ret (by simp [results,Tryz.results59,go_sem,z0,z1,z2,z3,z4,z5,zf,r0,r1,r2,r3,rf]<;>rfl) rfl ?_
  rw[HRV.out]
  exact⟨⟨xt,xn,(xk+1),rl,a6,p6,M8,a8,p8,xM,ma,mc⟩,a5,p5,rfl,rfl,HFE.out,HOE.out,HBE.out⟩
 by_cases ht1:tc=10
 ·have g1:(tc==(0:Int))=false:=by simpa using ht0
  have g2:(tc==(10:Int))=true:=by simpa using ht1
  have HRV:Hid (R=(⟨xt,xn,xk,rl,vals M8,valsM xM⟩,⟨tc,(findS rl rc).1.num,ta,heldK (vals M8) rc⟩)):=hid (by
   rw[HRC.out,HK4.out]
   unfold toldA takenA
   dsimp only
   rw[HTT.out]
   simp [ht0,ht1,HM8.out])
  have hf8:=hf8n
  clear ht0 ht1 hf8n
  have hX9:=((HX7.out.later HB78.out).set4 M8 a8 p8)
  have hQ9:=((HQ7.out.later HB78.out).other (show nb≠nb+1 by omega) 4 (.slice a8 M8.length p8))
  have hZ9:=((HZ7.out.later HB78.out).other (show nb≠nb+2 by omega) 4 (.slice a8 M8.length p8))
  have hR9:=((HR7.out.later HB78.out).other (show nb≠nb+3 by omega) 4 (.slice a8 M8.length p8))
  have hF9:=(hf8.setBelow (show nb<HI by omega) 4 (.slice a8 M8.length p8))
  have hB9:Below w.heap.size w (w8.setCell ⟨nb,4,none⟩ (.slice a8 M8.length p8)):=(HBN8.out.setCell (Nat.le_of_eq HNB.out) _)
  have hsz9:HI<=(w8.setCell ⟨nb,4,none⟩ (.slice a8 M8.length p8)).heap.size :=by simpa using Nat.le_trans hsz7 HB78.out.size
  go_upto_region 16 with fail
  obtain⟨W9,hW9⟩: ∃W9,W9=(w8.setCell ⟨nb,4,none⟩ (.slice a8 M8.length p8)):=⟨_,rfl⟩
  rw[<-hW9] at hX9 hQ9 hZ9 hR9 hF9 hB9 hsz9 ⊢
  have HX9:=hid hX9
  have HQ9:=hid hQ9
  have HZ9:=hid hZ9
  have HR9:=hid hR9
  have HF9:=hid hF9
  have HB9:=hid hB9
  clear hW9 hX9 hQ9 hZ9 hR9 hF9 hB9 hf8 c0 c1 c2 c3 c4 c5 cf q0 q1 q2 q3 q4 HX7 HQ7 HZ7 HR7 HF7
  have KT:=hid (fun W (hb:Below W9.heap.size W9 W)=>RefTold_any ⟨xt,xn,xk,rl,a6,p6,M8,a8,p8,xM,ma,mc⟩ rc tc ta W ((HF9.out.later hb).rd (HRD.out W (step HB9.out hb))) (by show M8.length<=1000;omega))
  unfold toldA GetsTold stVal at KT
  simp only[StC.sv,StC.kv,StC.mv,StC.v] at KT
  obtain⟨c0,c1,c2,c3,c4,c5,cf⟩:=HX9.out
  simp only[StC.sv,StC.kv,StC.mv] at c0 c1 c2 c3 c4 c5
  obtain⟨q0,q1,q2,q3,q4⟩:=HQ9.out
  dsimp only at q0 q1 q2 q3 q4
  refine wp_region_held_drew (S:=(fun W=>((W.cell? ⟨nb,0,none⟩=some (.int .i64 xt)/\W.cell? ⟨nb,1,none⟩=some (.int .i64 xn)/\W.cell? ⟨nb,2,none⟩=some (.int .i64 xk))/\W.cell? ⟨nb,3,none⟩=some (.slice a6 rl.length p6)/\W.cell? ⟨nb,4,none⟩=some (.slice a8 M8.length p8)/\W.cell? ⟨nb,5,none⟩=some (.slice ma xM.length mc))/\W.cell? ⟨nb+1,0,none⟩=some (.int .i64 rc))) (by kernel_rfl) (⟨(HX9.out.later (Below.refl _ W9).drew).cells,(HQ9.out.later (Below.refl _ W9).drew).c0⟩) (fun hHeld=>?_)
  refine wpAnyH_take (i:=0) (v:=?_) rfl (by kernel_rfl) (by kernel_rfl) (by kernel_rfl) (fun _ _ _ h=>h) (Or.inl ⟨by rfl,?_⟩) (by assumption) ?_
  rotate_left
  ·intro w hSw;(try dsimp only at hSw);go_simp<;>with_reducible rfl
  try simp only[Act.put,getElem_toArray,getElem_cons_zero,setIfInBounds_toArray,set_cons_zero,set_cons_succ]
  refine wpAnyH_take (i:=1) (v:=?_) rfl (by kernel_rfl) (by kernel_rfl) (by kernel_rfl) (fun _ _ _ h=>h) (Or.inl ⟨by rfl,?_⟩) (by assumption) ?_
  rotate_left
  ·intro w hSw;(try dsimp only at hSw);go_simp<;>with_reducible rfl
  try simp only[Act.put,getElem_toArray,getElem_cons_succ,getElem_cons_zero,setIfInBounds_toArray,set_cons_zero,set_cons_succ]
  refine wpAnyH_take (i:=2) (v:=?_) rfl (by kernel_rfl) (by kernel_rfl) (by kernel_rfl) (fun _ _ _ h=>h) (Or.inl ⟨by rfl,?_⟩) (by assumption) ?_
  rotate_left
  ·intro w hSw;(try dsimp only at hSw);go_simp<;>with_reducible rfl
  try simp only[Act.put,getElem_toArray,getElem_cons_succ,getElem_cons_zero,setIfInBounds_toArray,set_cons_zero,set_cons_succ]
  refine wpAnyH_take (i:=3) (v:=?_) rfl (by kernel_rfl) (by kernel_rfl) (by kernel_rfl) (fun _ _ _ h=>h) (Or.inl ⟨by rfl,?_⟩) (by assumption) ?_
  rotate_left
  ·intro w hSw;(try dsimp only at hSw);go_simp<;>with_reducible rfl
  try simp only[Act.put,getElem_toArray,getElem_cons_succ,getElem_cons_zero,setIfInBounds_toArray,set_cons_zero,set_cons_succ]
  refine wpAnyH_take (i:=4) (v:=?_) rfl (by kernel_rfl) (by kernel_rfl) (by kernel_rfl) (fun _ _ _ h=>h) (Or.inl ⟨by rfl,?_⟩) (by assumption) ?_
  rotate_left
  ·intro w hSw;(try dsimp only at hSw);go_simp<;>with_reducible rfl
  try simp only[Act.put,getElem_toArray,getElem_cons_succ,getElem_cons_zero,setIfInBounds_toArray,set_cons_zero,set_cons_succ]
  refine wpAnyH_take (i:=5) (v:=?_) rfl (by kernel_rfl) (by kernel_rfl) (by kernel_rfl) (fun _ _ _ h=>h) (Or.inl ⟨by rfl,?_⟩) (by assumption) ?_
  rotate_left
  ·intro w hSw;(try dsimp only at hSw);go_simp<;>with_reducible rfl
  try simp only[Act.put,getElem_toArray,getElem_cons_succ,getElem_cons_zero,setIfInBounds_toArray,set_cons_zero,set_cons_succ]
  refine wpAnyH_ready (rs:= [6]) (by kernel_rfl) (by simp) ?_
  refine AllReadyH.cons rfl (fun K hK=>?_) AllReadyH.nil
  go_simp
  go_at_call 126
  refine(KT.out W9.drew (Below.refl _ W9).drew).mono ?_
  rintro e w5 ⟨a5,p5,rfl,ho5,hb5⟩
  have HO5:=hid ho5
  have HB5:Hid (Below W9.heap.size W9 w5):=hid (step (Below.refl W9.heap.size W9).drew hb5)
  obtain⟨z0,z1,z2,z3,z4,z5,zf⟩:=HZ9.out.later HB5.out
  simp only[zeroC10,StC.sv,StC.kv,StC.mv,List.length_nil] at z0 z1 z2 z3 z4 z5
  obtain⟨⟨r0,r1,r2,r3⟩,rf⟩:=HR9.out _ HB5.out
  clear ho5 hb5
  refine hK.out _ _ (⟨(HX9.out.later HB5.out).cells,(HQ9.out.later HB5.out).c0⟩) (fun hHeld=>?_)
  clear hK K
  try simp only[Act.put,getElem_toArray,getElem_cons_succ,getElem_cons_zero,setIfInBounds_toArray,set_cons_zero,set_cons_succ]
  refine wpAnyH_ready (rs:= [7]) (by kernel_rfl) (by simp) ?_
  refine AllReadyH.cons rfl (fun K hK=>?_) AllReadyH.nil
  go_simp
  refine hK.out _ _ (⟨((HX9.out.later HB5.out).other6 (show nb+2≠nb by omega) _ _ _ _ _ _).cells,((HQ9.out.later HB5.out).other6 (show nb+2≠nb+1 by omega) _ _ _ _ _ _).c0⟩) (fun hHeld=>?_)
  clear hK K
  try simp only[Act.put,getElem_toArray,getElem_cons_succ,getElem_cons_zero,setIfInBounds_toArray,set_cons_zero,set_cons_succ]
  refine wpAnyH_ready (rs:= [8]) (by kernel_rfl) (by simp) ?_
  refine AllReadyH.cons rfl (fun K hK=>?_) AllReadyH.nil
  go_simp
  refine hK.out _ _ (⟨(((HX9.out.later HB5.out).other6 (show nb+2≠nb by omega) _ _ _ _ _ _).other4 (show nb+3≠nb by omega) _ _ _ _).cells,(((HQ9.out.later HB5.out).other6 (show nb+2≠nb+1 by omega) _ _ _ _ _ _).other4 (show nb+3≠nb+1 by omega) _ _ _ _).c0⟩) (fun hHeld=>?_)
  clear hK K
  try simp only[Act.put,getElem_toArray,getElem_cons_succ,getElem_cons_zero,setIfInBounds_toArray,set_cons_zero,set_cons_succ]
  refine wpAnyH_done (by kernel_rfl) ?_ _
  have hl5:nb+3<W9.drew.heap.size:=Nat.lt_of_lt_of_le hlt3 hsz9
  have HOE:=hid (own_lowerX (own_set4z (own_set6z HO5.out (Nat.lt_of_succ_lt hl5) (.int .i64 xt) (.int .i64 xn) (.int .i64 xk) (.slice a6 rl.length p6) (.slice a8 M8.length p8) (.slice ma xM.length mc)) hl5 (.int .i64 tc) (.int .i64 (findS rl rc).1.num) (.int .i64 ta) (.slice a5 (heldK (vals M8) rc).length p5)) (show w.heap.size<=W9.drew.heap.size from by have:=HNB.out;omega))
  have HBE:=hid (set4k (below_set6 (step HB9.out HB5.out) (nb+2) (by have:=HNB.out;omega) (.int .i64 xt) (.int .i64 xn) (.int .i64 xk) (.slice a6 rl.length p6) (.slice a8 M8.length p8) (.slice ma xM.length mc)) (nb+3) (by have:=HNB.out;omega) (.int .i64 tc) (.int .i64 (findS rl rc).1.num) (.int .i64 ta) (.slice a5 (heldK (vals M8) rc).length p5))
  have HFE:=hid ((FromS.set4 (FromS.set6 (HF9.out.later HB5.out) (show nb+2<HI from by omega) (.int .i64 xt) (.int .i64 xn) (.int .i64 xk) (.slice a6 rl.length p6) (.slice a8 M8.length p8) (.slice ma xM.length mc)) (show nb+3<HI from hlt3) (.int .i64 tc) (.int .i64 (findS rl rc).1.num) (.int .i64 ta) (.slice a5 (heldK (vals M8) rc).length p5)).lower hHI)
  go_wp2
  refine bodyPost_ret (by simp [results,Tryz.results59,go_sem,z0,z1,z2,z3,z4,z5,zf,r0,r1,r2,r3,rf]<;>rfl) rfl ?_
  rw[HRV.out]
  exact⟨⟨xt,xn,xk,rl,a6,p6,M8,a8,p8,xM,ma,mc⟩,a5,p5,rfl,rfl,HFE.out,HOE.out,HBE.out⟩
 ·have g1:(tc==(0:Int))=false:=by simpa using ht0
  have g2:(tc==(10:Int))=false:=by simpa using ht1
  have HRV:Hid (R=(⟨xt,xn,xk,rl,vals xK,valsM xM⟩,⟨tc,(findS rl rc).1.num,ta,heldK (vals xK) rc⟩)):=hid (by
   rw[HRC.out,HK4.out]
   unfold toldA takenA
   dsimp only
   rw[HTT.out]
   simp [ht0,ht1])
  have hf8:=HF7.out.later HB78.out
  clear ht0 ht1 hf8n
  have hX9:=(HX7.out.later HB78.out)
  have hQ9:=(HQ7.out.later HB78.out)
  have hZ9:=(HZ7.out.later HB78.out)
  have hR9:=(HR7.out.later HB78.out)
  have hF9:=hf8
  have hB9:Below w.heap.size w w8:=HBN8.out
  have hsz9:HI<=w8.heap.size:=by simpa using Nat.le_trans hsz7 HB78.out.size
  go_upto_region 16 with fail
  obtain⟨W9,hW9⟩: ∃W9,W9=w8:=⟨_,rfl⟩
  rw[<-hW9] at hX9 hQ9 hZ9 hR9 hF9 hB9 hsz9 ⊢
  have HX9:=hid hX9
  have HQ9:=hid hQ9
  have HZ9:=hid hZ9
  have HR9:=hid hR9
  have HF9:=hid hF9
  have HB9:=hid hB9
  clear hW9 hX9 hQ9 hZ9 hR9 hF9 hB9 hf8 c0 c1 c2 c3 c4 c5 cf q0 q1 q2 q3 q4 HX7 HQ7 HZ7 HR7 HF7
  have KT:=hid (fun W (hb:Below W9.heap.size W9 W)=>RefTold_any ⟨xt,xn,xk,rl,a6,p6,xK,ka,kc,xM,ma,mc⟩ rc tc ta W ((HF9.out.later hb).rd (HRD.out W (step HB9.out hb))) (by show xK.length<=1000;omega))
  unfold toldA GetsTold stVal at KT
  simp only[StC.sv,StC.kv,StC.mv,StC.v] at KT
  obtain⟨c0,c1,c2,c3,c4,c5,cf⟩:=HX9.out
  simp only[StC.sv,StC.kv,StC.mv] at c0 c1 c2 c3 c4 c5
  obtain⟨q0,q1,q2,q3,q4⟩:=HQ9.out
  dsimp only at q0 q1 q2 q3 q4
  refine wp_region_held_drew (S:=(fun W=>((W.cell? ⟨nb,0,none⟩=some (.int .i64 xt)/\W.cell? ⟨nb,1,none⟩=some (.int .i64 xn)/\W.cell? ⟨nb,2,none⟩=some (.int .i64 xk))/\W.cell? ⟨nb,3,none⟩=some (.slice a6 rl.length p6)/\W.cell? ⟨nb,4,none⟩=some (.slice ka xK.length kc)/\W.cell? ⟨nb,5,none⟩=some (.slice ma xM.length mc))/\W.cell? ⟨nb+1,0,none⟩=some (.int .i64 rc))) (by kernel_rfl) (⟨(HX9.out.later (Below.refl _ W9).drew).cells,(HQ9.out.later (Below.refl _ W9).drew).c0⟩) (fun hHeld=>?_)
  refine wpAnyH_take (i:=0) (v:=?_) rfl (by kernel_rfl) (by kernel_rfl) (by kernel_rfl) (fun _ _ _ h=>h) (Or.inl ⟨by rfl,?_⟩) (by assumption) ?_
  rotate_left
  ·intro w hSw;(try dsimp only at hSw);go_simp<;>with_reducible rfl
  try simp only[Act.put,getElem_toArray,getElem_cons_zero,setIfInBounds_toArray,set_cons_zero,set_cons_succ]
  refine wpAnyH_take (i:=1) (v:=?_) rfl (by kernel_rfl) (by kernel_rfl) (by kernel_rfl) (fun _ _ _ h=>h) (Or.inl ⟨by rfl,?_⟩) (by assumption) ?_
  rotate_left
  ·intro w hSw;(try dsimp only at hSw);go_simp<;>with_reducible rfl
  try simp only[Act.put,getElem_toArray,getElem_cons_succ,getElem_cons_zero,setIfInBounds_toArray,set_cons_zero,set_cons_succ]
  refine wpAnyH_take (i:=2) (v:=?_) rfl (by kernel_rfl) (by kernel_rfl) (by kernel_rfl) (fun _ _ _ h=>h) (Or.inl ⟨by rfl,?_⟩) (by assumption) ?_
  rotate_left
  ·intro w hSw;(try dsimp only at hSw);go_simp<;>with_reducible rfl
  try simp only[Act.put,getElem_toArray,getElem_cons_succ,getElem_cons_zero,setIfInBounds_toArray,set_cons_zero,set_cons_succ]
  refine wpAnyH_take (i:=3) (v:=?_) rfl (by kernel_rfl) (by kernel_rfl) (by kernel_rfl) (fun _ _ _ h=>h) (Or.inl ⟨by rfl,?_⟩) (by assumption) ?_
  rotate_left
  ·intro w hSw;(try dsimp only at hSw);go_simp<;>with_reducible rfl
  try simp only[Act.put,getElem_toArray,getElem_cons_succ,getElem_cons_zero,setIfInBounds_toArray,set_cons_zero,set_cons_succ]
  refine wpAnyH_take (i:=4) (v:=?_) rfl (by kernel_rfl) (by kernel_rfl) (by kernel_rfl) (fun _ _ _ h=>h) (Or.inl ⟨by rfl,?_⟩) (by assumption) ?_
  rotate_left
  ·intro w hSw;(try dsimp only at hSw);go_simp<;>with_reducible rfl
  try simp only[Act.put,getElem_toArray,getElem_cons_succ,getElem_cons_zero,setIfInBounds_toArray,set_cons_zero,set_cons_succ]
  refine wpAnyH_take (i:=5) (v:=?_) rfl (by kernel_rfl) (by kernel_rfl) (by kernel_rfl) (fun _ _ _ h=>h) (Or.inl ⟨by rfl,?_⟩) (by assumption) ?_
  rotate_left
  ·intro w hSw;(try dsimp only at hSw);go_simp<;>with_reducible rfl
  try simp only[Act.put,getElem_toArray,getElem_cons_succ,getElem_cons_zero,setIfInBounds_toArray,set_cons_zero,set_cons_succ]
  refine wpAnyH_ready (rs:= [6]) (by kernel_rfl) (by simp) ?_
  refine AllReadyH.cons rfl (fun K hK=>?_) AllReadyH.nil
  go_simp
  go_at_call 126
  refine(KT.out W9.drew (Below.refl _ W9).drew).mono ?_
  rintro e w5 ⟨a5,p5,rfl,ho5,hb5⟩
  have HO5:=hid ho5
  have HB5:Hid (Below W9.heap.size W9 w5):=hid (step (Below.refl W9.heap.size W9).drew hb5)
  obtain⟨z0,z1,z2,z3,z4,z5,zf⟩:=HZ9.out.later HB5.out
  simp only[zeroC10,StC.sv,StC.kv,StC.mv,List.length_nil] at z0 z1 z2 z3 z4 z5
  obtain⟨⟨r0,r1,r2,r3⟩,rf⟩:=HR9.out _ HB5.out
  clear ho5 hb5
  refine hK.out _ _ (⟨(HX9.out.later HB5.out).cells,(HQ9.out.later HB5.out).c0⟩) (fun hHeld=>?_)
  clear hK K
  try simp only[Act.put,getElem_toArray,getElem_cons_succ,getElem_cons_zero,setIfInBounds_toArray,set_cons_zero,set_cons_succ]
  refine wpAnyH_ready (rs:= [7]) (by kernel_rfl) (by simp) ?_
  refine AllReadyH.cons rfl (fun K hK=>?_) AllReadyH.nil
  go_simp
  refine hK.out _ _ (⟨((HX9.out.later HB5.out).other6 (show nb+2≠nb by omega) _ _ _ _ _ _).cells,((HQ9.out.later HB5.out).other6 (show nb+2≠nb+1 by omega) _ _ _ _ _ _).c0⟩) (fun hHeld=>?_)
  clear hK K
  try simp only[Act.put,getElem_toArray,getElem_cons_succ,getElem_cons_zero,setIfInBounds_toArray,set_cons_zero,set_cons_succ]
  refine wpAnyH_ready (rs:= [8]) (by kernel_rfl) (by simp) ?_
  refine AllReadyH.cons rfl (fun K hK=>?_) AllReadyH.nil
  go_simp
  refine hK.out _ _ (⟨(((HX9.out.later HB5.out).other6 (show nb+2≠nb by omega) _ _ _ _ _ _).other4 (show nb+3≠nb by omega) _ _ _ _).cells,(((HQ9.out.later HB5.out).other6 (show nb+2≠nb+1 by omega) _ _ _ _ _ _).other4 (show nb+3≠nb+1 by omega) _ _ _ _).c0⟩) (fun hHeld=>?_)
  clear hK K
  try simp only[Act.put,getElem_toArray,getElem_cons_succ,getElem_cons_zero,setIfInBounds_toArray,set_cons_zero,set_cons_succ]
  refine wpAnyH_done (by kernel_rfl) ?_ _
  have hl5:nb+3<W9.drew.heap.size:=Nat.lt_of_lt_of_le hlt3 hsz9
  have HOE:=hid (own_lowerX (own_set4z (own_set6z HO5.out (Nat.lt_of_succ_lt hl5) (.int .i64 xt) (.int .i64 xn) (.int .i64 xk) (.slice a6 rl.length p6) (.slice ka xK.length kc) (.slice ma xM.length mc)) hl5 (.int .i64 tc) (.int .i64 (findS rl rc).1.num) (.int .i64 ta) (.slice a5 (heldK (vals xK) rc).length p5)) (show w.heap.size<=W9.drew.heap.size from by have:=HNB.out;omega))
  have HBE:=hid (set4k (below_set6 (step HB9.out HB5.out) (nb+2) (by have:=HNB.out;omega) (.int .i64 xt) (.int .i64 xn) (.int .i64 xk) (.slice a6 rl.length p6) (.slice ka xK.length kc) (.slice ma xM.length mc)) (nb+3) (by have:=HNB.out;omega) (.int .i64 tc) (.int .i64 (findS rl rc).1.num) (.int .i64 ta) (.slice a5 (heldK (vals xK) rc).length p5))
  have HFE:=hid ((FromS.set4 (FromS.set6 (HF9.out.later HB5.out) (show nb+2<HI from by omega) (.int .i64 xt) (.int .i64 xn) (.int .i64 xk) (.slice a6 rl.length p6) (.slice ka xK.length kc) (.slice ma xM.length mc)) (show nb+3<HI from hlt3) (.int .i64 tc) (.int .i64 (findS rl rc).1.num) (.int .i64 ta) (.slice a5 (heldK (vals xK) rc).length p5)).lower hHI)
  go_wp2
  refine bodyPost_ret (by simp [results,Tryz.results59,go_sem,z0,z1,z2,z3,z4,z5,zf,r0,r1,r2,r3,rf]<;>rfl) rfl ?_
  rw[HRV.out]
  exact⟨⟨xt,xn,xk,rl,a6,p6,xK,ka,kc,xM,ma,mc⟩,a5,p5,rfl,rfl,HFE.out,HOE.out,HBE.out⟩
set_option maxHeartbeats 8000000 in
theorem Does_take4 (x:StC) (r:ReqV) (w:World) (h:RdSt w x) (hs:Small x) (hk9:x.K.length<=900) (hn:0<=x.num/\x.num<=2305843009213693952) (hk:r.cmd.kind=4) (hyes:(findS x.S r.client).2=true/\(findS x.S r.client).1.num =r.cmd.session):Calls Tryz.prog 59 #[stVal x,reqVal r] w (GetsSR (doesA x.v r) x w):=by
 obtain⟨W1,hW1⟩: ∃W1,W1=w.alloc (.cells #[.int .i64 x.time,.int .i64 x.num,.int .i64 x.token,x.sv,x.kv,x.mv] 26):=⟨_,rfl⟩
 have hb1:Below w.heap.size w W1:=by rw[hW1];exact newAlloc _ _
 have hB1:BoxS W1 w.heap.size x:=by rw[hW1];exact BoxS.new w x _
 have hs1:W1.heap.size=w.heap.size+1:=by rw[hW1];simp
 obtain⟨W2,hW2⟩: ∃W2,W2=W1.alloc (.cells #[.int .i64 r.client,.int .i64 r.seq,.int .i64 r.cmd.kind,.int .i64 r.cmd.session,.string (bstr r.cmd.name)] 30):=⟨_,rfl⟩
 have hb2:Below W1.heap.size W1 W2:=by rw[hW2];exact newAlloc _ _
 have hQ:BoxR W2 (w.heap.size+1) r:=by rw[<-hs1,hW2];exact BoxR.new W1 r _
 have hs2:W2.heap.size=w.heap.size+2:=by rw[hW2];simp [hs1]
 obtain⟨W3,hW3⟩: ∃W3,W3=W2.alloc (.cells #[.int .i64 0,.int .i64 0,.int .i64 0,.slice none 0 0,.slice none 0 0,.slice none 0 0] 26):=⟨_,rfl⟩
 have hb3:Below W2.heap.size W2 W3:=by rw[hW3];exact newAlloc _ _
 have hZ:BoxS W3 (w.heap.size+2) zeroC10:=by rw[<-hs2,hW3];exact BoxS.new W2 zeroC10 _
 have hs3:W3.heap.size=w.heap.size+3:=by rw[hW3];simp [hs2]
 obtain⟨W4,hW4⟩: ∃W4,W4=W3.alloc (.cells #[.int .i64 0,.int .i64 0,.int .i64 0,.slice none 0 0] 36):=⟨_,rfl⟩
 have hb4:Below W3.heap.size W3 W4:=by rw[hW4];exact newAlloc _ _
 have hR:EmptyR W4 (w.heap.size+3):=by rw[<-hs3,hW4];exact EmptyR.new W3
 have hs4:W4.heap.size=w.heap.size+4:=by rw[hW4];simp [hs3]
 have HX0:=hid (hB1.later (step hb2 (step hb3 hb4)))
 have HQ0:=hid (hQ.later (step hb3 hb4))
 have HZ0:=hid (hZ.later hb4)
 have HR0:=hid hR
 have HB0:=hid (step hb1 (step hb2 (step hb3 hb4)))
 have HRD:Hid (∀W,Below w.heap.size w W->RdSt W x):=hid fun W hb=>h.later hb
 have HSM:=hid hs
 obtain⟨HI,hHI'⟩: ∃HI,W4.heap.size=HI:=⟨_,rfl⟩
 obtain⟨nb,hnb⟩: ∃nb,w.heap.size=nb:=⟨_,rfl⟩
 have HNB:=hid hnb
 have hlt3:nb+3<HI:=by omega
 have hHI:w.heap.size<=HI:=by omega
 have hsz0:HI<=W4.heap.size:=Nat.le_of_eq hHI'.symm
 rw[hnb] at HX0 HZ0 HR0 HQ0
 clear hnb h hs hb1 hb2 hb3 hb4 hB1 hZ hQ hR hs1 hs2 hs3 hs4 hHI'
 have KF:=hid (Find_any x.sv x.S r.client W4 (HRD.out W4 HB0.out).s)
 have KR:=hid (fun W (hb:Below w.heap.size w W)=>Renew_any x.sv x.S r.client x.time W (HRD.out W hb).s HSM.out.s)
 have hrl:=renew_len x.S r.client x.time
 have hs1000:=HSM.out.s
 have KTK:=hid (fun W (hb:Below w.heap.size w W)=>TakeLock_any x.kv x.K r.cmd.name r.client x.token false W (HRD.out W hb).k HSM.out.k HSM.out.l ⟨HSM.out.t.1,by have:=HSM.out.t.2;omega⟩)
 have htk:=HSM.out.t
 obtain⟨xt,xn,xk,xS,sa,sc,xK,ka,kc,xM,ma,mc⟩:=x
 obtain⟨rc,rs,⟨rk,rn,rm⟩⟩:=r
 unfold stVal reqVal
 simp only[StC.sv,StC.kv,StC.mv] at hW1 KF KR KTK ⊢
 dsimp only at hW2 hk9 hn hk hyes KF KR hrl hs1000 KTK htk
 obtain⟨c0,c1,c2,c3,c4,c5,cf⟩:=HX0.out
 simp only[StC.sv,StC.kv,StC.mv] at c0 c1 c2 c3 c4 c5
 obtain⟨q0,q1,q2,q3,q4⟩:=HQ0.out
 dsimp only at q0 q1 q2 q3 q4
 obtain⟨R,hR⟩: ∃R,doesA (StC.v ⟨xt,xn,xk,xS,sa,sc,xK,ka,kc,xM,ma,mc⟩) ⟨rc,rs,⟨rk,rn,rm⟩⟩=R:=⟨_,rfl⟩
 have HRR:=hid hR
 rw[hR]
 clear hR
 have hk1:rk≠1:=by omega
 have d1:(rk==(1:Int))=false:=by simpa using hk1
 have d3:(rk==(3:Int))=false:=by simp [hk]
 have d4:(rk==(4:Int))=true:=by simpa using hk
 have hRR:R=cmdA ⟨xt,xn,xk,(renewS xS rc xt).1,vals xK,valsM xM⟩ rc ⟨rk,rn,rm⟩:=by
  rw[<-HRR.out]
  unfold doesA
  rw[if_neg hk1,if_neg (fun q=>q.elim (fun q=>Bool.noConfusion (hyes.1.symm.trans q)) (fun q=>q hyes.2))]
  rfl
 have HRC:=hid hRR
 clear hRR HRR
 have HRK:=hid hk
 clear hk hk1
 go_enter Tryz.func59,Tryz.ntmps59
 go_upto_region 1 with fail
 rw[<-hW1,<-hW2,<-hW3,<-hW4]
 rw[HNB.out]
 clear hW1 hW2 hW3 hW4
 obtain⟨⟨⟨fc,fn,fe⟩,fb⟩,hfr⟩: ∃p,findS xS rc=p:=⟨_,rfl⟩
 rw[hfr] at KF
 have HFR:=hid hfr
 clear hfr
 go_upto_region 4 with (go_at_call 49;refine KF.out.mono ?_;rintro e w5 ⟨rfl,hb5⟩;unfold sesVal;dsimp only;have HB5:=hid hb5;clear hb5)
 obtain⟨W5,hW5⟩: ∃W5,W5=w5.alloc (.cells #[.int .i64 fc,.int .i64 fn,.int .i64 fe] 73):=⟨_,rfl⟩
 have HB45:Hid (Below W4.heap.size W4 W5):=hid (by rw[hW5];exact stepAlloc HB5.out _)
 have hy5:W5.cell? ⟨w5.heap.size,1,none⟩=some (.int .i64 fn):=by rw[hW5];exact(box3s (Below.refl _ _)).2.1
 rw[<-hW5]
 clear hW5
 have HBN5:=hid (step HB0.out HB45.out)
 have HX5:=hid (HX0.out.later HB45.out)
 have HQ5:=hid (HQ0.out.later HB45.out)
 have HZ5:=hid (HZ0.out.later HB45.out)
 have HR5:=hid (HR0.out.later HB45.out)
 have hsz5:HI<=W5.heap.size:=Nat.le_trans hsz0 HB45.out.size
 have HF5:Hid (FromS HI W5 ⟨xt,xn,xk,xS,sa,sc,xK,ka,kc,xM,ma,mc⟩ ⟨xt,xn,xk,xS,sa,sc,xK,ka,kc,xM,ma,mc⟩):=hid (FromS.refl _ _ _)
 clear c0 c1 c2 c3 c4 c5 cf q0 q1 q2 q3 q4 HX0 HZ0 HR0 HQ0 KF
 obtain⟨c0,c1,c2,c3,c4,c5,cf⟩:=HX5.out
 simp only[StC.sv,StC.kv,StC.mv] at c0 c1 c2 c3 c4 c5
 obtain⟨q0,q1,q2,q3,q4⟩:=HQ5.out
 dsimp only at q0 q1 q2 q3 q4
 have hfb:fb=true:=by have:=hyes.1;rw[HFR.out] at this;exact this
 have hfn:fn=rn:=by have:=hyes.2;rw[HFR.out] at this;exact this
 subst hfb
 have d2:(fn != rn)=false:=by simp [hfn]
 obtain⟨⟨rl,rcd⟩,hrn⟩: ∃p,renewS xS rc xt=p:=⟨_,rfl⟩
 rw[hrn] at KR hrl
 dsimp only at hrl
 have HRN:=hid hrn
 clear hrn hfn hyes
 go_upto_region 7 with (go_at_call 124;refine(KR.out W5 HBN5.out).mono ?_;rintro e w6 ⟨v6,rfl,ho6,hb6⟩;dsimp only at ho6;obtain⟨a6,p6,rfl⟩:=Rw.own_form ho6;have HO6:=hid ho6;have HB56:=hid hb6;clear ho6 hb6)
 have HBN6:=hid (step HBN5.out HB56.out)
 have hX7:=(HX5.out.later HB56.out).set3 rl a6 p6
 have hQ7:=(HQ5.out.later HB56.out).other (show nb≠nb+1 by omega) 3 (.slice a6 rl.length p6)
 have hZ7:=(HZ5.out.later HB56.out).other (show nb≠nb+2 by omega) 3 (.slice a6 rl.length p6)
 have hR7:=(HR5.out.later HB56.out).other (show nb≠nb+3 by omega) 3 (.slice a6 rl.length p6)
 have hf6:FromS HI w6 ⟨xt,xn,xk,xS,sa,sc,xK,ka,kc,xM,ma,mc⟩ ⟨xt,xn,xk,rl,a6,p6,xK,ka,kc,xM,ma,mc⟩:=⟨.inr (own_lowerX HO6.out hsz5),.inl ⟨rfl,rfl,rfl⟩,.inl ⟨rfl,rfl,rfl⟩⟩
 have hF7:=hf6.setBelow (show nb<HI by omega) 3 (.slice a6 rl.length p6)
 have hB7:Below w.heap.size w (w6.setCell ⟨nb,3,none⟩ (.slice a6 rl.length p6)):=HBN6.out.setCell (Nat.le_of_eq HNB.out) _
 have hsz7:HI<=(w6.setCell ⟨nb,3,none⟩ (.slice a6 rl.length p6)).heap.size :=by simpa using Nat.le_trans hsz5 HB56.out.size
 obtain⟨c3',cf'⟩:(w6.cell? ⟨nb,3,none⟩=some (.slice sa xS.length sc))/\ ∀k,w6.frozen? ⟨nb,k,none⟩=false:=⟨(HX5.out.later HB56.out).c3,(HX5.out.later HB56.out).fr⟩
 go_upto_region 8 with fail
 obtain⟨W7,hW7⟩: ∃W7,W7=w6.setCell ⟨nb,3,none⟩ (.slice a6 rl.length p6):=⟨_,rfl⟩
 rw[<-hW7] at hX7 hQ7 hZ7 hR7 hF7 hB7 hsz7 ⊢
 have HX7:=hid hX7
 have HQ7:=hid hQ7
 have HZ7:=hid hZ7
 have HR7:=hid hR7
 have HF7:=hid hF7
 have HB7:=hid hB7
 have HRD7:Hid (∀W,Below W7.heap.size W7 W->RdSt W ⟨xt,xn,xk,rl,a6,p6,xK,ka,kc,xM,ma,mc⟩):=hid fun W hb=>(HF7.out.later hb).rd (HRD.out W (step HB7.out hb))
 clear hW7 hX7 hQ7 hZ7 hR7 hF7 hB7 hf6 c3' cf' c0 c1 c2 c3 c4 c5 cf q0 q1 q2 q3 q4 HX5 HQ5 HZ5 HR5 HF5 KR
 obtain⟨c0,c1,c2,c3,c4,c5,cf⟩:=HX7.out
 simp only[StC.sv,StC.kv,StC.mv] at c0 c1 c2 c3 c4 c5
 obtain⟨q0,q1,q2,q3,q4⟩:=HQ7.out
 dsimp only at q0 q1 q2 q3 q4
 obtain⟨⟨tl,ta,tc⟩,htt⟩: ∃p,takeK (vals xK) rm rc xk false=p:=⟨_,rfl⟩
 have htl:=take_len (vals xK) rm rc xk false
 rw[htt] at KTK htl
 dsimp only at htl
 rw[vals_length] at htl
 have HTT:=hid htt
 have HK4:Hid (cmdA ⟨xt,xn,xk,(renewS xS rc xt).1,vals xK,valsM xM⟩ rc ⟨rk,rn,rm⟩=(takenA ⟨xt,xn,xk,rl,vals xK,valsM xM⟩ rm rc false,toldA (takenA ⟨xt,xn,xk,rl,vals xK,valsM xM⟩ rm rc false) rc tc ta)):=hid (by
  have hrk:=HRK.out
  rw[HRN.out]
  unfold cmdA
  rw[if_pos (by dsimp only;omega)]
  have e:decide (rk=3)=false:=by rw[hrk];rfl
  dsimp only
  rw[e,htt])
 have e1:IntKind.i64.wrap (xk+1)=xk+1:=by rw[IntKind.wrap_i64];omega
 clear htt
 go_upto_region 12 with (go_at_call 125;refine(KTK.out W7 HB7.out).mono ?_;rintro e w8 ⟨v8,M8,rfl,hm8,ho8,hb8⟩;dsimp only at hm8 ho8;obtain⟨a8,p8,rfl⟩:=Rw.own_form ho8.row;have HM8:=hid hm8;have HO8:=hid ho8;have HB78:=hid hb8;clear hm8 ho8 hb8)
 have HBN8:=hid (step HB7.out HB78.out)
 have hM8:M8.length<=901:=by
  have:=vals_length M8
  rw[HM8.out] at this
  omega
 clear c0 c1 c2 c3 c4 c5 cf q0 q1 q2 q3 q4
 obtain⟨c0,c1,c2,c3,c4,c5,cf⟩:=HX7.out.later HB78.out
 simp only[StC.sv,StC.kv,StC.mv] at c0 c1 c2 c3 c4 c5
 obtain⟨q0,q1,q2,q3,q4⟩:=HQ7.out.later HB78.out
 dsimp only at q0 q1 q2 q3 q4
 have hf8n:FromS HI w8 ⟨xt,xn,xk,xS,sa,sc,xK,ka,kc,xM,ma,mc⟩ ⟨xt,xn,xk,rl,a6,p6,M8,a8,p8,xM,ma,mc⟩:=⟨(HF7.out.later HB78.out).s,.inr (HO8.out.lower hsz7),(HF7.out.later HB78.out).m⟩
 by_cases ht0:tc=0
 ·have g1:(tc==(0:Int))=true:=by simpa using ht0
  have HRV:Hid (R=(⟨xt,xn,(xk+1),rl,vals M8,valsM xM⟩,⟨tc,(findS rl rc).1.num,ta,heldK (vals M8) rc⟩)):=hid (by
   rw[HRC.out,HK4.out]
   unfold toldA takenA
   dsimp only
   rw[HTT.out]
   simp [ht0,HM8.out])
  have hf8:FromS HI w8 ⟨xt,xn,xk,xS,sa,sc,xK,ka,kc,xM,ma,mc⟩ ⟨xt,xn,xk+1,rl,a6,p6,M8,a8,p8,xM,ma,mc⟩:=⟨hf8n.s,hf8n.k,hf8n.m⟩
  clear ht0 hf8n
  have hX9:=(((HX7.out.later HB78.out).set4 M8 a8 p8).set2 (xk+1))
  have hQ9:=(((HQ7.out.later HB78.out).other (show nb≠nb+1 by omega) 4 (.slice a8 M8.length p8)).other (show nb≠nb+1 by omega) 2 (.int .i64 (xk+1)))
  have hZ9:=(((HZ7.out.later HB78.out).other (show nb≠nb+2 by omega) 4 (.slice a8 M8.length p8)).other (show nb≠nb+2 by omega) 2 (.int .i64 (xk+1)))
  have hR9:=(((HR7.out.later HB78.out).other (show nb≠nb+3 by omega) 4 (.slice a8 M8.length p8)).other (show nb≠nb+3 by omega) 2 (.int .i64 (xk+1)))
  have hF9:=((hf8.setBelow (show nb<HI by omega) 4 (.slice a8 M8.length p8)).setBelow (show nb<HI by omega) 2 (.int .i64 (xk+1)))
  have hB9:Below w.heap.size w ((w8.setCell ⟨nb,4,none⟩ (.slice a8 M8.length p8)).setCell ⟨nb,2,none⟩ (.int .i64 (xk+1))):=((HBN8.out.setCell (Nat.le_of_eq HNB.out) _).setCell (Nat.le_of_eq HNB.out) _)
  have hsz9:HI<=((w8.setCell ⟨nb,4,none⟩ (.slice a8 M8.length p8)).setCell ⟨nb,2,none⟩ (.int .i64 (xk+1))).heap.size :=by simpa using Nat.le_trans hsz7 HB78.out.size
  go_upto_region 16 with fail
  obtain⟨W9,hW9⟩: ∃W9,W9=((w8.setCell ⟨nb,4,none⟩ (.slice a8 M8.length p8)).setCell ⟨nb,2,none⟩ (.int .i64 (xk+1))):=⟨_,rfl⟩
  rw[<-hW9] at hX9 hQ9 hZ9 hR9 hF9 hB9 hsz9 ⊢
  have HX9:=hid hX9
  have HQ9:=hid hQ9
  have HZ9:=hid hZ9
  have HR9:=hid hR9
  have HF9:=hid hF9
  have HB9:=hid hB9
  clear hW9 hX9 hQ9 hZ9 hR9 hF9 hB9 hf8 c0 c1 c2 c3 c4 c5 cf q0 q1 q2 q3 q4 HX7 HQ7 HZ7 HR7 HF7
  have KT:=hid (fun W (hb:Below W9.heap.size W9 W)=>RefTold_any ⟨xt,xn,(xk+1),rl,a6,p6,M8,a8,p8,xM,ma,mc⟩ rc tc ta W ((HF9.out.later hb).rd (HRD.out W (step HB9.out hb))) (by show M8.length<=1000;omega))
  unfold toldA GetsTold stVal at KT
  simp only[StC.sv,StC.kv,StC.mv,StC.v] at KT
  obtain⟨c0,c1,c2,c3,c4,c5,cf⟩:=HX9.out
  simp only[StC.sv,StC.kv,StC.mv] at c0 c1 c2 c3 c4 c5
  obtain⟨q0,q1,q2,q3,q4⟩:=HQ9.out
  dsimp only at q0 q1 q2 q3 q4
  refine wp_region_held_drew (S:=(fun W=>((W.cell? ⟨nb,0,none⟩=some (.int .i64 xt)/\W.cell? ⟨nb,1,none⟩=some (.int .i64 xn)/\W.cell? ⟨nb,2,none⟩=some (.int .i64 (xk+1)))/\W.cell? ⟨nb,3,none⟩=some (.slice a6 rl.length p6)/\W.cell? ⟨nb,4,none⟩=some (.slice a8 M8.length p8)/\W.cell? ⟨nb,5,none⟩=some (.slice ma xM.length mc))/\W.cell? ⟨nb+1,0,none⟩=some (.int .i64 rc))) (by kernel_rfl) (⟨(HX9.out.later (Below.refl _ W9).drew).cells,(HQ9.out.later (Below.refl _ W9).drew).c0⟩) (fun hHeld=>?_)
  refine wpAnyH_take (i:=0) (v:=?_) rfl (by kernel_rfl) (by kernel_rfl) (by kernel_rfl) (fun _ _ _ h=>h) (Or.inl ⟨by rfl,?_⟩) (by assumption) ?_
  rotate_left
  ·intro w hSw;(try dsimp only at hSw);go_simp<;>with_reducible rfl
  try simp only[Act.put,getElem_toArray,getElem_cons_zero,setIfInBounds_toArray,set_cons_zero,set_cons_succ]
  refine wpAnyH_take (i:=1) (v:=?_) rfl (by kernel_rfl) (by kernel_rfl) (by kernel_rfl) (fun _ _ _ h=>h) (Or.inl ⟨by rfl,?_⟩) (by assumption) ?_
  rotate_left
  ·intro w hSw;(try dsimp only at hSw);go_simp<;>with_reducible rfl
  try simp only[Act.put,getElem_toArray,getElem_cons_succ,getElem_cons_zero,setIfInBounds_toArray,set_cons_zero,set_cons_succ]
  refine wpAnyH_take (i:=2) (v:=?_) rfl (by kernel_rfl) (by kernel_rfl) (by kernel_rfl) (fun _ _ _ h=>h) (Or.inl ⟨by rfl,?_⟩) (by assumption) ?_
  rotate_left
  ·intro w hSw;(try dsimp only at hSw);go_simp<;>with_reducible rfl
  try simp only[Act.put,getElem_toArray,getElem_cons_succ,getElem_cons_zero,setIfInBounds_toArray,set_cons_zero,set_cons_succ]
  refine wpAnyH_take (i:=3) (v:=?_) rfl (by kernel_rfl) (by kernel_rfl) (by kernel_rfl) (fun _ _ _ h=>h) (Or.inl ⟨by rfl,?_⟩) (by assumption) ?_
  rotate_left
  ·intro w hSw;(try dsimp only at hSw);go_simp<;>with_reducible rfl
  try simp only[Act.put,getElem_toArray,getElem_cons_succ,getElem_cons_zero,setIfInBounds_toArray,set_cons_zero,set_cons_succ]
  refine wpAnyH_take (i:=4) (v:=?_) rfl (by kernel_rfl) (by kernel_rfl) (by kernel_rfl) (fun _ _ _ h=>h) (Or.inl ⟨by rfl,?_⟩) (by assumption) ?_
  rotate_left
  ·intro w hSw;(try dsimp only at hSw);go_simp<;>with_reducible rfl
  try simp only[Act.put,getElem_toArray,getElem_cons_succ,getElem_cons_zero,setIfInBounds_toArray,set_cons_zero,set_cons_succ]
  refine wpAnyH_take (i:=5) (v:=?_) rfl (by kernel_rfl) (by kernel_rfl) (by kernel_rfl) (fun _ _ _ h=>h) (Or.inl ⟨by rfl,?_⟩) (by assumption) ?_
  rotate_left
  ·intro w hSw;(try dsimp only at hSw);go_simp<;>with_reducible rfl
  try simp only[Act.put,getElem_toArray,getElem_cons_succ,getElem_cons_zero,setIfInBounds_toArray,set_cons_zero,set_cons_succ]
  refine wpAnyH_ready (rs:= [6]) (by kernel_rfl) (by simp) ?_
  refine AllReadyH.cons rfl (fun K hK=>?_) AllReadyH.nil
  go_simp
  go_at_call 126
  refine(KT.out W9.drew (Below.refl _ W9).drew).mono ?_
  rintro e w5 ⟨a5,p5,rfl,ho5,hb5⟩
  have HO5:=hid ho5
  have HB5:Hid (Below W9.heap.size W9 w5):=hid (step (Below.refl W9.heap.size W9).drew hb5)
  obtain⟨z0,z1,z2,z3,z4,z5,zf⟩:=HZ9.out.later HB5.out
  simp only[zeroC10,StC.sv,StC.kv,StC.mv,List.length_nil] at z0 z1 z2 z3 z4 z5
  obtain⟨⟨r0,r1,r2,r3⟩,rf⟩:=HR9.out _ HB5.out
  clear ho5 hb5
  refine hK.out _ _ (⟨(HX9.out.later HB5.out).cells,(HQ9.out.later HB5.out).c0⟩) (fun hHeld=>?_)
  clear hK K
  try simp only[Act.put,getElem_toArray,getElem_cons_succ,getElem_cons_zero,setIfInBounds_toArray,set_cons_zero,set_cons_succ]
  refine wpAnyH_ready (rs:= [7]) (by kernel_rfl) (by simp) ?_
  refine AllReadyH.cons rfl (fun K hK=>?_) AllReadyH.nil
  go_simp
  refine hK.out _ _ (⟨((HX9.out.later HB5.out).other6 (show nb+2≠nb by omega) _ _ _ _ _ _).cells,((HQ9.out.later HB5.out).other6 (show nb+2≠nb+1 by omega) _ _ _ _ _ _).c0⟩) (fun hHeld=>?_)
  clear hK K
  try simp only[Act.put,getElem_toArray,getElem_cons_succ,getElem_cons_zero,setIfInBounds_toArray,set_cons_zero,set_cons_succ]
  refine wpAnyH_ready (rs:= [8]) (by kernel_rfl) (by simp) ?_
  refine AllReadyH.cons rfl (fun K hK=>?_) AllReadyH.nil
  go_simp
  refine hK.out _ _ (⟨(((HX9.out.later HB5.out).other6 (show nb+2≠nb by omega) _ _ _ _ _ _).other4 (show nb+3≠nb by omega) _ _ _ _).cells,(((HQ9.out.later HB5.out).other6 (show nb+2≠nb+1 by omega) _ _ _ _ _ _).other4 (show nb+3≠nb+1 by omega) _ _ _ _).c0⟩) (fun hHeld=>?_)
  clear hK K
  try simp only[Act.put,getElem_toArray,getElem_cons_succ,getElem_cons_zero,setIfInBounds_toArray,set_cons_zero,set_cons_succ]
  refine wpAnyH_done (by kernel_rfl) ?_ _
  have hl5:nb+3<W9.drew.heap.size:=Nat.lt_of_lt_of_le hlt3 hsz9
  have HOE:=hid (own_lowerX (own_set4z (own_set6z HO5.out (Nat.lt_of_succ_lt hl5) (.int .i64 xt) (.int .i64 xn) (.int .i64 (xk+1)) (.slice a6 rl.length p6) (.slice a8 M8.length p8) (.slice ma xM.length mc)) hl5 (.int .i64 tc) (.int .i64 (findS rl rc).1.num) (.int .i64 ta) (.slice a5 (heldK (vals M8) rc).length p5)) (show w.heap.size<=W9.drew.heap.size from by have:=HNB.out;omega))
  have HBE:=hid (set4k (below_set6 (step HB9.out HB5.out) (nb+2) (by have:=HNB.out;omega) (.int .i64 xt) (.int .i64 xn) (.int .i64 (xk+1)) (.slice a6 rl.length p6) (.slice a8 M8.length p8) (.slice ma xM.length mc)) (nb+3) (by have:=HNB.out;omega) (.int .i64 tc) (.int .i64 (findS rl rc).1.num) (.int .i64 ta) (.slice a5 (heldK (vals M8) rc).length p5))
  have HFE:=hid ((FromS.set4 (FromS.set6 (HF9.out.later HB5.out) (show nb+2<HI from by omega) (.int .i64 xt) (.int .i64 xn) (.int .i64 (xk+1)) (.slice a6 rl.length p6) (.slice a8 M8.length p8) (.slice ma xM.length mc)) (show nb+3<HI from hlt3) (.int .i64 tc) (.int .i64 (findS rl rc).1.num) (.int .i64 ta) (.slice a5 (heldK (vals M8) rc).length p5)).lower hHI)
  go_wp2
  refine bodyPost_ret (by simp [results,Tryz.results59,go_sem,z0,z1,z2,z3,z4,z5,zf,r0,r1,r2,r3,rf]<;>rfl) rfl ?_
  rw[HRV.out]
  exact⟨⟨xt,xn,(xk+1),rl,a6,p6,M8,a8,p8,xM,ma,mc⟩,a5,p5,rfl,rfl,HFE.out,HOE.out,HBE.out⟩
 by_cases ht1:tc=10
 ·have g1:(tc==(0:Int))=false:=by simpa using ht0
  have g2:(tc==(10:Int))=true:=by simpa using ht1
  have HRV:Hid (R=(⟨xt,xn,xk,rl,vals M8,valsM xM⟩,⟨tc,(findS rl rc).1.num,ta,heldK (vals M8) rc⟩)):=hid (by
   rw[HRC.out,HK4.out]
   unfold toldA takenA
   dsimp only
   rw[HTT.out]
   simp [ht0,ht1,HM8.out])
  have hf8:=hf8n
  clear ht0 ht1 hf8n
  have hX9:=((HX7.out.later HB78.out).set4 M8 a8 p8)
  have hQ9:=((HQ7.out.later HB78.out).other (show nb≠nb+1 by omega) 4 (.slice a8 M8.length p8))
  have hZ9:=((HZ7.out.later HB78.out).other (show nb≠nb+2 by omega) 4 (.slice a8 M8.length p8))
  have hR9:=((HR7.out.later HB78.out).other (show nb≠nb+3 by omega) 4 (.slice a8 M8.length p8))
  have hF9:=(hf8.setBelow (show nb<HI by omega) 4 (.slice a8 M8.length p8))
  have hB9:Below w.heap.size w (w8.setCell ⟨nb,4,none⟩ (.slice a8 M8.length p8)):=(HBN8.out.setCell (Nat.le_of_eq HNB.out) _)
  have hsz9:HI<=(w8.setCell ⟨nb,4,none⟩ (.slice a8 M8.length p8)).heap.size :=by simpa using Nat.le_trans hsz7 HB78.out.size
  go_upto_region 16 with fail
  obtain⟨W9,hW9⟩: ∃W9,W9=(w8.setCell ⟨nb,4,none⟩ (.slice a8 M8.length p8)):=⟨_,rfl⟩
  rw[<-hW9] at hX9 hQ9 hZ9 hR9 hF9 hB9 hsz9 ⊢
  have HX9:=hid hX9
  have HQ9:=hid hQ9
  have HZ9:=hid hZ9
  have HR9:=hid hR9
  have HF9:=hid hF9
  have HB9:=hid hB9
  clear hW9 hX9 hQ9 hZ9 hR9 hF9 hB9 hf8 c0 c1 c2 c3 c4 c5 cf q0 q1 q2 q3 q4 HX7 HQ7 HZ7 HR7 HF7
  have KT:=hid (fun W (hb:Below W9.heap.size W9 W)=>RefTold_any ⟨xt,xn,xk,rl,a6,p6,M8,a8,p8,xM,ma,mc⟩ rc tc ta W ((HF9.out.later hb).rd (HRD.out W (step HB9.out hb))) (by show M8.length<=1000;omega))
  unfold toldA GetsTold stVal at KT
  simp only[StC.sv,StC.kv,StC.mv,StC.v] at KT
  obtain⟨c0,c1,c2,c3,c4,c5,cf⟩:=HX9.out
  simp only[StC.sv,StC.kv,StC.mv] at c0 c1 c2 c3 c4 c5
  obtain⟨q0,q1,q2,q3,q4⟩:=HQ9.out
  dsimp only at q0 q1 q2 q3 q4
  refine wp_region_held_drew (S:=(fun W=>((W.cell? ⟨nb,0,none⟩=some (.int .i64 xt)/\W.cell? ⟨nb,1,none⟩=some (.int .i64 xn)/\W.cell? ⟨nb,2,none⟩=some (.int .i64 xk))/\W.cell? ⟨nb,3,none⟩=some (.slice a6 rl.length p6)/\W.cell? ⟨nb,4,none⟩=some (.slice a8 M8.length p8)/\W.cell? ⟨nb,5,none⟩=some (.slice ma xM.length mc))/\W.cell? ⟨nb+1,0,none⟩=some (.int .i64 rc))) (by kernel_rfl) (⟨(HX9.out.later (Below.refl _ W9).drew).cells,(HQ9.out.later (Below.refl _ W9).drew).c0⟩) (fun hHeld=>?_)
  refine wpAnyH_take (i:=0) (v:=?_) rfl (by kernel_rfl) (by kernel_rfl) (by kernel_rfl) (fun _ _ _ h=>h) (Or.inl ⟨by rfl,?_⟩) (by assumption) ?_
  rotate_left
  ·intro w hSw;(try dsimp only at hSw);go_simp<;>with_reducible rfl
  try simp only[Act.put,getElem_toArray,getElem_cons_zero,setIfInBounds_toArray,set_cons_zero,set_cons_succ]
  refine wpAnyH_take (i:=1) (v:=?_) rfl (by kernel_rfl) (by kernel_rfl) (by kernel_rfl) (fun _ _ _ h=>h) (Or.inl ⟨by rfl,?_⟩) (by assumption) ?_
  rotate_left
  ·intro w hSw;(try dsimp only at hSw);go_simp<;>with_reducible rfl
  try simp only[Act.put,getElem_toArray,getElem_cons_succ,getElem_cons_zero,setIfInBounds_toArray,set_cons_zero,set_cons_succ]
  refine wpAnyH_take (i:=2) (v:=?_) rfl (by kernel_rfl) (by kernel_rfl) (by kernel_rfl) (fun _ _ _ h=>h) (Or.inl ⟨by rfl,?_⟩) (by assumption) ?_
  rotate_left
  ·intro w hSw;(try dsimp only at hSw);go_simp<;>with_reducible rfl
  try simp only[Act.put,getElem_toArray,getElem_cons_succ,getElem_cons_zero,setIfInBounds_toArray,set_cons_zero,set_cons_succ]
  refine wpAnyH_take (i:=3) (v:=?_) rfl (by kernel_rfl) (by kernel_rfl) (by kernel_rfl) (fun _ _ _ h=>h) (Or.inl ⟨by rfl,?_⟩) (by assumption) ?_
  rotate_left
  ·intro w hSw;(try dsimp only at hSw);go_simp<;>with_reducible rfl
  try simp only[Act.put,getElem_toArray,getElem_cons_succ,getElem_cons_zero,setIfInBounds_toArray,set_cons_zero,set_cons_succ]
  refine wpAnyH_take (i:=4) (v:=?_) rfl (by kernel_rfl) (by kernel_rfl) (by kernel_rfl) (fun _ _ _ h=>h) (Or.inl ⟨by rfl,?_⟩) (by assumption) ?_
  rotate_left
  ·intro w hSw;(try dsimp only at hSw);go_simp<;>with_reducible rfl
  try simp only[Act.put,getElem_toArray,getElem_cons_succ,getElem_cons_zero,setIfInBounds_toArray,set_cons_zero,set_cons_succ]
  refine wpAnyH_take (i:=5) (v:=?_) rfl (by kernel_rfl) (by kernel_rfl) (by kernel_rfl) (fun _ _ _ h=>h) (Or.inl ⟨by rfl,?_⟩) (by assumption) ?_
  rotate_left
  ·intro w hSw;(try dsimp only at hSw);go_simp<;>with_reducible rfl
  try simp only[Act.put,getElem_toArray,getElem_cons_succ,getElem_cons_zero,setIfInBounds_toArray,set_cons_zero,set_cons_succ]
  refine wpAnyH_ready (rs:= [6]) (by kernel_rfl) (by simp) ?_
  refine AllReadyH.cons rfl (fun K hK=>?_) AllReadyH.nil
  go_simp
  go_at_call 126
  refine(KT.out W9.drew (Below.refl _ W9).drew).mono ?_
  rintro e w5 ⟨a5,p5,rfl,ho5,hb5⟩
  have HO5:=hid ho5
  have HB5:Hid (Below W9.heap.size W9 w5):=hid (step (Below.refl W9.heap.size W9).drew hb5)
  obtain⟨z0,z1,z2,z3,z4,z5,zf⟩:=HZ9.out.later HB5.out
  simp only[zeroC10,StC.sv,StC.kv,StC.mv,List.length_nil] at z0 z1 z2 z3 z4 z5
  obtain⟨⟨r0,r1,r2,r3⟩,rf⟩:=HR9.out _ HB5.out
  clear ho5 hb5
  refine hK.out _ _ (⟨(HX9.out.later HB5.out).cells,(HQ9.out.later HB5.out).c0⟩) (fun hHeld=>?_)
  clear hK K
  try simp only[Act.put,getElem_toArray,getElem_cons_succ,getElem_cons_zero,setIfInBounds_toArray,set_cons_zero,set_cons_succ]
  refine wpAnyH_ready (rs:= [7]) (by kernel_rfl) (by simp) ?_
  refine AllReadyH.cons rfl (fun K hK=>?_) AllReadyH.nil
  go_simp
  refine hK.out _ _ (⟨((HX9.out.later HB5.out).other6 (show nb+2≠nb by omega) _ _ _ _ _ _).cells,((HQ9.out.later HB5.out).other6 (show nb+2≠nb+1 by omega) _ _ _ _ _ _).c0⟩) (fun hHeld=>?_)
  clear hK K
  try simp only[Act.put,getElem_toArray,getElem_cons_succ,getElem_cons_zero,setIfInBounds_toArray,set_cons_zero,set_cons_succ]
  refine wpAnyH_ready (rs:= [8]) (by kernel_rfl) (by simp) ?_
  refine AllReadyH.cons rfl (fun K hK=>?_) AllReadyH.nil
  go_simp
  refine hK.out _ _ (⟨(((HX9.out.later HB5.out).other6 (show nb+2≠nb by omega) _ _ _ _ _ _).other4 (show nb+3≠nb by omega) _ _ _ _).cells,(((HQ9.out.later HB5.out).other6 (show nb+2≠nb+1 by omega) _ _ _ _ _ _).other4 (show nb+3≠nb+1 by omega) _ _ _ _).c0⟩) (fun hHeld=>?_)
  clear hK K
  try simp only[Act.put,getElem_toArray,getElem_cons_succ,getElem_cons_zero,setIfInBounds_toArray,set_cons_zero,set_cons_succ]
  refine wpAnyH_done (by kernel_rfl) ?_ _
  have hl5:nb+3<W9.drew.heap.size:=Nat.lt_of_lt_of_le hlt3 hsz9
  have HOE:=hid (own_lowerX (own_set4z (own_set6z HO5.out (Nat.lt_of_succ_lt hl5) (.int .i64 xt) (.int .i64 xn) (.int .i64 xk) (.slice a6 rl.length p6) (.slice a8 M8.length p8) (.slice ma xM.length mc)) hl5 (.int .i64 tc) (.int .i64 (findS rl rc).1.num) (.int .i64 ta) (.slice a5 (heldK (vals M8) rc).length p5)) (show w.heap.size<=W9.drew.heap.size from by have:=HNB.out;omega))
  have HBE:=hid (set4k (below_set6 (step HB9.out HB5.out) (nb+2) (by have:=HNB.out;omega) (.int .i64 xt) (.int .i64 xn) (.int .i64 xk) (.slice a6 rl.length p6) (.slice a8 M8.length p8) (.slice ma xM.length mc)) (nb+3) (by have:=HNB.out;omega) (.int .i64 tc) (.int .i64 (findS rl rc).1.num) (.int .i64 ta) (.slice a5 (heldK (vals M8) rc).length p5))
  have HFE:=hid ((FromS.set4 (FromS.set6 (HF9.out.later HB5.out) (show nb+2<HI from by omega) (.int .i64 xt) (.int .i64 xn) (.int .i64 xk) (.slice a6 rl.length p6) (.slice a8 M8.length p8) (.slice ma xM.length mc)) (show nb+3<HI from hlt3) (.int .i64 tc) (.int .i64 (findS rl rc).1.num) (.int .i64 ta) (.slice a5 (heldK (vals M8) rc).length p5)).lower hHI)
  go_wp2
  refine bodyPost_ret (by simp [results,Tryz.results59,go_sem,z0,z1,z2,z3,z4,z5,zf,r0,r1,r2,r3,rf]<;>rfl) rfl ?_
  rw[HRV.out]
  exact⟨⟨xt,xn,xk,rl,a6,p6,M8,a8,p8,xM,ma,mc⟩,a5,p5,rfl,rfl,HFE.out,HOE.out,HBE.out⟩
 ·have g1:(tc==(0:Int))=false:=by simpa using ht0
  have g2:(tc==(10:Int))=false:=by simpa using ht1
  have HRV:Hid (R=(⟨xt,xn,xk,rl,vals xK,valsM xM⟩,⟨tc,(findS rl rc).1.num,ta,heldK (vals xK) rc⟩)):=hid (by
   rw[HRC.out,HK4.out]
   unfold toldA takenA
   dsimp only
   rw[HTT.out]
   simp [ht0,ht1])
  have hf8:=HF7.out.later HB78.out
  clear ht0 ht1 hf8n
  have hX9:=(HX7.out.later HB78.out)
  have hQ9:=(HQ7.out.later HB78.out)
  have hZ9:=(HZ7.out.later HB78.out)
  have hR9:=(HR7.out.later HB78.out)
  have hF9:=hf8
  have hB9:Below w.heap.size w w8:=HBN8.out
  have hsz9:HI<=w8.heap.size:=by simpa using Nat.le_trans hsz7 HB78.out.size
  go_upto_region 16 with fail
  obtain⟨W9,hW9⟩: ∃W9,W9=w8:=⟨_,rfl⟩
  rw[<-hW9] at hX9 hQ9 hZ9 hR9 hF9 hB9 hsz9 ⊢
  have HX9:=hid hX9
  have HQ9:=hid hQ9
  have HZ9:=hid hZ9
  have HR9:=hid hR9
  have HF9:=hid hF9
  have HB9:=hid hB9
  clear hW9 hX9 hQ9 hZ9 hR9 hF9 hB9 hf8 c0 c1 c2 c3 c4 c5 cf q0 q1 q2 q3 q4 HX7 HQ7 HZ7 HR7 HF7
  have KT:=hid (fun W (hb:Below W9.heap.size W9 W)=>RefTold_any ⟨xt,xn,xk,rl,a6,p6,xK,ka,kc,xM,ma,mc⟩ rc tc ta W ((HF9.out.later hb).rd (HRD.out W (step HB9.out hb))) (by show xK.length<=1000;omega))
  unfold toldA GetsTold stVal at KT
  simp only[StC.sv,StC.kv,StC.mv,StC.v] at KT
  obtain⟨c0,c1,c2,c3,c4,c5,cf⟩:=HX9.out
  simp only[StC.sv,StC.kv,StC.mv] at c0 c1 c2 c3 c4 c5
  obtain⟨q0,q1,q2,q3,q4⟩:=HQ9.out
  dsimp only at q0 q1 q2 q3 q4
  refine wp_region_held_drew (S:=(fun W=>((W.cell? ⟨nb,0,none⟩=some (.int .i64 xt)/\W.cell? ⟨nb,1,none⟩=some (.int .i64 xn)/\W.cell? ⟨nb,2,none⟩=some (.int .i64 xk))/\W.cell? ⟨nb,3,none⟩=some (.slice a6 rl.length p6)/\W.cell? ⟨nb,4,none⟩=some (.slice ka xK.length kc)/\W.cell? ⟨nb,5,none⟩=some (.slice ma xM.length mc))/\W.cell? ⟨nb+1,0,none⟩=some (.int .i64 rc))) (by kernel_rfl) (⟨(HX9.out.later (Below.refl _ W9).drew).cells,(HQ9.out.later (Below.refl _ W9).drew).c0⟩) (fun hHeld=>?_)
  refine wpAnyH_take (i:=0) (v:=?_) rfl (by kernel_rfl) (by kernel_rfl) (by kernel_rfl) (fun _ _ _ h=>h) (Or.inl ⟨by rfl,?_⟩) (by assumption) ?_
  rotate_left
  ·intro w hSw;(try dsimp only at hSw);go_simp<;>with_reducible rfl
  try simp only[Act.put,getElem_toArray,getElem_cons_zero,setIfInBounds_toArray,set_cons_zero,set_cons_succ]
  refine wpAnyH_take (i:=1) (v:=?_) rfl (by kernel_rfl) (by kernel_rfl) (by kernel_rfl) (fun _ _ _ h=>h) (Or.inl ⟨by rfl,?_⟩) (by assumption) ?_
  rotate_left
  ·intro w hSw;(try dsimp only at hSw);go_simp<;>with_reducible rfl
  try simp only[Act.put,getElem_toArray,getElem_cons_succ,getElem_cons_zero,setIfInBounds_toArray,set_cons_zero,set_cons_succ]
  refine wpAnyH_take (i:=2) (v:=?_) rfl (by kernel_rfl) (by kernel_rfl) (by kernel_rfl) (fun _ _ _ h=>h) (Or.inl ⟨by rfl,?_⟩) (by assumption) ?_
  rotate_left
  ·intro w hSw;(try dsimp only at hSw);go_simp<;>with_reducible rfl
  try simp only[Act.put,getElem_toArray,getElem_cons_succ,getElem_cons_zero,setIfInBounds_toArray,set_cons_zero,set_cons_succ]
  refine wpAnyH_take (i:=3) (v:=?_) rfl (by kernel_rfl) (by kernel_rfl) (by kernel_rfl) (fun _ _ _ h=>h) (Or.inl ⟨by rfl,?_⟩) (by assumption) ?_
  rotate_left
  ·intro w hSw;(try dsimp only at hSw);go_simp<;>with_reducible rfl
  try simp only[Act.put,getElem_toArray,getElem_cons_succ,getElem_cons_zero,setIfInBounds_toArray,set_cons_zero,set_cons_succ]
  refine wpAnyH_take (i:=4) (v:=?_) rfl (by kernel_rfl) (by kernel_rfl) (by kernel_rfl) (fun _ _ _ h=>h) (Or.inl ⟨by rfl,?_⟩) (by assumption) ?_
  rotate_left
  ·intro w hSw;(try dsimp only at hSw);go_simp<;>with_reducible rfl
  try simp only[Act.put,getElem_toArray,getElem_cons_succ,getElem_cons_zero,setIfInBounds_toArray,set_cons_zero,set_cons_succ]
  refine wpAnyH_take (i:=5) (v:=?_) rfl (by kernel_rfl) (by kernel_rfl) (by kernel_rfl) (fun _ _ _ h=>h) (Or.inl ⟨by rfl,?_⟩) (by assumption) ?_
  rotate_left
  ·intro w hSw;(try dsimp only at hSw);go_simp<;>with_reducible rfl
  try simp only[Act.put,getElem_toArray,getElem_cons_succ,getElem_cons_zero,setIfInBounds_toArray,set_cons_zero,set_cons_succ]
  refine wpAnyH_ready (rs:= [6]) (by kernel_rfl) (by simp) ?_
  refine AllReadyH.cons rfl (fun K hK=>?_) AllReadyH.nil
  go_simp
  go_at_call 126
  refine(KT.out W9.drew (Below.refl _ W9).drew).mono ?_
  rintro e w5 ⟨a5,p5,rfl,ho5,hb5⟩
  have HO5:=hid ho5
  have HB5:Hid (Below W9.heap.size W9 w5):=hid (step (Below.refl W9.heap.size W9).drew hb5)
  obtain⟨z0,z1,z2,z3,z4,z5,zf⟩:=HZ9.out.later HB5.out
  simp only[zeroC10,StC.sv,StC.kv,StC.mv,List.length_nil] at z0 z1 z2 z3 z4 z5
  obtain⟨⟨r0,r1,r2,r3⟩,rf⟩:=HR9.out _ HB5.out
  clear ho5 hb5
  refine hK.out _ _ (⟨(HX9.out.later HB5.out).cells,(HQ9.out.later HB5.out).c0⟩) (fun hHeld=>?_)
  clear hK K
  try simp only[Act.put,getElem_toArray,getElem_cons_succ,getElem_cons_zero,setIfInBounds_toArray,set_cons_zero,set_cons_succ]
  refine wpAnyH_ready (rs:= [7]) (by kernel_rfl) (by simp) ?_
  refine AllReadyH.cons rfl (fun K hK=>?_) AllReadyH.nil
  go_simp
  refine hK.out _ _ (⟨((HX9.out.later HB5.out).other6 (show nb+2≠nb by omega) _ _ _ _ _ _).cells,((HQ9.out.later HB5.out).other6 (show nb+2≠nb+1 by omega) _ _ _ _ _ _).c0⟩) (fun hHeld=>?_)
  clear hK K
  try simp only[Act.put,getElem_toArray,getElem_cons_succ,getElem_cons_zero,setIfInBounds_toArray,set_cons_zero,set_cons_succ]
  refine wpAnyH_ready (rs:= [8]) (by kernel_rfl) (by simp) ?_
  refine AllReadyH.cons rfl (fun K hK=>?_) AllReadyH.nil
  go_simp
  refine hK.out _ _ (⟨(((HX9.out.later HB5.out).other6 (show nb+2≠nb by omega) _ _ _ _ _ _).other4 (show nb+3≠nb by omega) _ _ _ _).cells,(((HQ9.out.later HB5.out).other6 (show nb+2≠nb+1 by omega) _ _ _ _ _ _).other4 (show nb+3≠nb+1 by omega) _ _ _ _).c0⟩) (fun hHeld=>?_)
  clear hK K
  try simp only[Act.put,getElem_toArray,getElem_cons_succ,getElem_cons_zero,setIfInBounds_toArray,set_cons_zero,set_cons_succ]
  refine wpAnyH_done (by kernel_rfl) ?_ _
  have hl5:nb+3<W9.drew.heap.size:=Nat.lt_of_lt_of_le hlt3 hsz9
  have HOE:=hid (own_lowerX (own_set4z (own_set6z HO5.out (Nat.lt_of_succ_lt hl5) (.int .i64 xt) (.int .i64 xn) (.int .i64 xk) (.slice a6 rl.length p6) (.slice ka xK.length kc) (.slice ma xM.length mc)) hl5 (.int .i64 tc) (.int .i64 (findS rl rc).1.num) (.int .i64 ta) (.slice a5 (heldK (vals xK) rc).length p5)) (show w.heap.size<=W9.drew.heap.size from by have:=HNB.out;omega))
  have HBE:=hid (set4k (below_set6 (step HB9.out HB5.out) (nb+2) (by have:=HNB.out;omega) (.int .i64 xt) (.int .i64 xn) (.int .i64 xk) (.slice a6 rl.length p6) (.slice ka xK.length kc) (.slice ma xM.length mc)) (nb+3) (by have:=HNB.out;omega) (.int .i64 tc) (.int .i64 (findS rl rc).1.num) (.int .i64 ta) (.slice a5 (heldK (vals xK) rc).length p5))
  have HFE:=hid ((FromS.set4 (FromS.set6 (HF9.out.later HB5.out) (show nb+2<HI from by omega) (.int .i64 xt) (.int .i64 xn) (.int .i64 xk) (.slice a6 rl.length p6) (.slice ka xK.length kc) (.slice ma xM.length mc)) (show nb+3<HI from hlt3) (.int .i64 tc) (.int .i64 (findS rl rc).1.num) (.int .i64 ta) (.slice a5 (heldK (vals xK) rc).length p5)).lower hHI)
  go_wp2
  refine bodyPost_ret (by simp [results,Tryz.results59,go_sem,z0,z1,z2,z3,z4,z5,zf,r0,r1,r2,r3,rf]<;>rfl) rfl ?_
  rw[HRV.out]
  exact⟨⟨xt,xn,xk,rl,a6,p6,xK,ka,kc,xM,ma,mc⟩,a5,p5,rfl,rfl,HFE.out,HOE.out,HBE.out⟩
set_option maxHeartbeats 8000000 in
theorem Does_free (x:StC) (r:ReqV) (w:World) (h:RdSt w x) (hs:Small x) (hk9:x.K.length<=900) (hn:0<=x.num/\x.num<=2305843009213693952) (hk:r.cmd.kind=5) (hyes:(findS x.S r.client).2=true/\(findS x.S r.client).1.num =r.cmd.session):Calls Tryz.prog 59 #[stVal x,reqVal r] w (GetsSR (doesA x.v r) x w):=by
 obtain⟨W1,hW1⟩: ∃W1,W1=w.alloc (.cells #[.int .i64 x.time,.int .i64 x.num,.int .i64 x.token,x.sv,x.kv,x.mv] 26):=⟨_,rfl⟩
 have hb1:Below w.heap.size w W1:=by rw[hW1];exact newAlloc _ _
 have hB1:BoxS W1 w.heap.size x:=by rw[hW1];exact BoxS.new w x _
 have hs1:W1.heap.size=w.heap.size+1:=by rw[hW1];simp
 obtain⟨W2,hW2⟩: ∃W2,W2=W1.alloc (.cells #[.int .i64 r.client,.int .i64 r.seq,.int .i64 r.cmd.kind,.int .i64 r.cmd.session,.string (bstr r.cmd.name)] 30):=⟨_,rfl⟩
 have hb2:Below W1.heap.size W1 W2:=by rw[hW2];exact newAlloc _ _
 have hQ:BoxR W2 (w.heap.size+1) r:=by rw[<-hs1,hW2];exact BoxR.new W1 r _
 have hs2:W2.heap.size=w.heap.size+2:=by rw[hW2];simp [hs1]
 obtain⟨W3,hW3⟩: ∃W3,W3=W2.alloc (.cells #[.int .i64 0,.int .i64 0,.int .i64 0,.slice none 0 0,.slice none 0 0,.slice none 0 0] 26):=⟨_,rfl⟩
 have hb3:Below W2.heap.size W2 W3:=by rw[hW3];exact newAlloc _ _
 have hZ:BoxS W3 (w.heap.size+2) zeroC10:=by rw[<-hs2,hW3];exact BoxS.new W2 zeroC10 _
 have hs3:W3.heap.size=w.heap.size+3:=by rw[hW3];simp [hs2]
 obtain⟨W4,hW4⟩: ∃W4,W4=W3.alloc (.cells #[.int .i64 0,.int .i64 0,.int .i64 0,.slice none 0 0] 36):=⟨_,rfl⟩
 have hb4:Below W3.heap.size W3 W4:=by rw[hW4];exact newAlloc _ _
 have hR:EmptyR W4 (w.heap.size+3):=by rw[<-hs3,hW4];exact EmptyR.new W3
 have hs4:W4.heap.size=w.heap.size+4:=by rw[hW4];simp [hs3]
 have HX0:=hid (hB1.later (step hb2 (step hb3 hb4)))
 have HQ0:=hid (hQ.later (step hb3 hb4))
 have HZ0:=hid (hZ.later hb4)
 have HR0:=hid hR
 have HB0:=hid (step hb1 (step hb2 (step hb3 hb4)))
 have HRD:Hid (∀W,Below w.heap.size w W->RdSt W x):=hid fun W hb=>h.later hb
 have HSM:=hid hs
 obtain⟨HI,hHI'⟩: ∃HI,W4.heap.size=HI:=⟨_,rfl⟩
 obtain⟨nb,hnb⟩: ∃nb,w.heap.size=nb:=⟨_,rfl⟩
 have HNB:=hid hnb
 have hlt3:nb+3<HI:=by omega
 have hHI:w.heap.size<=HI:=by omega
 have hsz0:HI<=W4.heap.size:=Nat.le_of_eq hHI'.symm
 rw[hnb] at HX0 HZ0 HR0 HQ0
 clear hnb h hs hb1 hb2 hb3 hb4 hB1 hZ hQ hR hs1 hs2 hs3 hs4 hHI'
 have KF:=hid (Find_any x.sv x.S r.client W4 (HRD.out W4 HB0.out).s)
 have KR:=hid (fun W (hb:Below w.heap.size w W)=>Renew_any x.sv x.S r.client x.time W (HRD.out W hb).s HSM.out.s)
 have hrl:=renew_len x.S r.client x.time
 have hs1000:=HSM.out.s
 have KTK:=hid (fun W (hb:Below w.heap.size w W)=>FreeLock_any x.kv x.K r.cmd.name r.client x.token W (HRD.out W hb).k HSM.out.k HSM.out.l ⟨HSM.out.t.1,by have:=HSM.out.t.2;omega⟩)
 have htk:=HSM.out.t
 obtain⟨xt,xn,xk,xS,sa,sc,xK,ka,kc,xM,ma,mc⟩:=x
 obtain⟨rc,rs,⟨rk,rn,rm⟩⟩:=r
 unfold stVal reqVal
 simp only[StC.sv,StC.kv,StC.mv] at hW1 KF KR KTK ⊢
 dsimp only at hW2 hk9 hn hk hyes KF KR hrl hs1000 KTK htk
 obtain⟨c0,c1,c2,c3,c4,c5,cf⟩:=HX0.out
 simp only[StC.sv,StC.kv,StC.mv] at c0 c1 c2 c3 c4 c5
 obtain⟨q0,q1,q2,q3,q4⟩:=HQ0.out
 dsimp only at q0 q1 q2 q3 q4
 obtain⟨R,hR⟩: ∃R,doesA (StC.v ⟨xt,xn,xk,xS,sa,sc,xK,ka,kc,xM,ma,mc⟩) ⟨rc,rs,⟨rk,rn,rm⟩⟩=R:=⟨_,rfl⟩
 have HRR:=hid hR
 rw[hR]
 clear hR
 have hk1:rk≠1:=by omega
 have d1:(rk==(1:Int))=false:=by simpa using hk1
 have d3:(rk==(3:Int))=false:=by simp [hk]
 have d4:(rk==(4:Int))=false:=by simp [hk]
 have d5:(rk==(5:Int))=true:=by simpa using hk
 have hRR:R=cmdA ⟨xt,xn,xk,(renewS xS rc xt).1,vals xK,valsM xM⟩ rc ⟨rk,rn,rm⟩:=by
  rw[<-HRR.out]
  unfold doesA
  rw[if_neg hk1,if_neg (fun q=>q.elim (fun q=>Bool.noConfusion (hyes.1.symm.trans q)) (fun q=>q hyes.2))]
  rfl
 have HRC:=hid hRR
 clear hRR HRR
 have HRK:=hid hk
 clear hk hk1
 go_enter Tryz.func59,Tryz.ntmps59
 go_upto_region 1 with fail
 rw[<-hW1,<-hW2,<-hW3,<-hW4]
 rw[HNB.out]
 clear hW1 hW2 hW3 hW4
 obtain⟨⟨⟨fc,fn,fe⟩,fb⟩,hfr⟩: ∃p,findS xS rc=p:=⟨_,rfl⟩
 rw[hfr] at KF
 have HFR:=hid hfr
 clear hfr
 go_upto_region 4 with (go_at_call 49;refine KF.out.mono ?_;rintro e w5 ⟨rfl,hb5⟩;unfold sesVal;dsimp only;have HB5:=hid hb5;clear hb5)
 obtain⟨W5,hW5⟩: ∃W5,W5=w5.alloc (.cells #[.int .i64 fc,.int .i64 fn,.int .i64 fe] 73):=⟨_,rfl⟩
 have HB45:Hid (Below W4.heap.size W4 W5):=hid (by rw[hW5];exact stepAlloc HB5.out _)
 have hy5:W5.cell? ⟨w5.heap.size,1,none⟩=some (.int .i64 fn):=by rw[hW5];exact(box3s (Below.refl _ _)).2.1
 rw[<-hW5]
 clear hW5
 have HBN5:=hid (step HB0.out HB45.out)
 have HX5:=hid (HX0.out.later HB45.out)
 have HQ5:=hid (HQ0.out.later HB45.out)
 have HZ5:=hid (HZ0.out.later HB45.out)
 have HR5:=hid (HR0.out.later HB45.out)
 have hsz5:HI<=W5.heap.size:=Nat.le_trans hsz0 HB45.out.size
 have HF5:Hid (FromS HI W5 ⟨xt,xn,xk,xS,sa,sc,xK,ka,kc,xM,ma,mc⟩ ⟨xt,xn,xk,xS,sa,sc,xK,ka,kc,xM,ma,mc⟩):=hid (FromS.refl _ _ _)
 clear c0 c1 c2 c3 c4 c5 cf q0 q1 q2 q3 q4 HX0 HZ0 HR0 HQ0 KF
 obtain⟨c0,c1,c2,c3,c4,c5,cf⟩:=HX5.out
 simp only[StC.sv,StC.kv,StC.mv] at c0 c1 c2 c3 c4 c5
 obtain⟨q0,q1,q2,q3,q4⟩:=HQ5.out
 dsimp only at q0 q1 q2 q3 q4
 have hfb:fb=true:=by have:=hyes.1;rw[HFR.out] at this;exact this
 have hfn:fn=rn:=by have:=hyes.2;rw[HFR.out] at this;exact this
 subst hfb
 have d2:(fn != rn)=false:=by simp [hfn]
 obtain⟨⟨rl,rcd⟩,hrn⟩: ∃p,renewS xS rc xt=p:=⟨_,rfl⟩
 rw[hrn] at KR hrl
 dsimp only at hrl
 have HRN:=hid hrn
 clear hrn hfn hyes
 go_upto_region 7 with (go_at_call 124;refine(KR.out W5 HBN5.out).mono ?_;rintro e w6 ⟨v6,rfl,ho6,hb6⟩;dsimp only at ho6;obtain⟨a6,p6,rfl⟩:=Rw.own_form ho6;have HO6:=hid ho6;have HB56:=hid hb6;clear ho6 hb6)
 have HBN6:=hid (step HBN5.out HB56.out)
 have hX7:=(HX5.out.later HB56.out).set3 rl a6 p6
 have hQ7:=(HQ5.out.later HB56.out).other (show nb≠nb+1 by omega) 3 (.slice a6 rl.length p6)
 have hZ7:=(HZ5.out.later HB56.out).other (show nb≠nb+2 by omega) 3 (.slice a6 rl.length p6)
 have hR7:=(HR5.out.later HB56.out).other (show nb≠nb+3 by omega) 3 (.slice a6 rl.length p6)
 have hf6:FromS HI w6 ⟨xt,xn,xk,xS,sa,sc,xK,ka,kc,xM,ma,mc⟩ ⟨xt,xn,xk,rl,a6,p6,xK,ka,kc,xM,ma,mc⟩:=⟨.inr (own_lowerX HO6.out hsz5),.inl ⟨rfl,rfl,rfl⟩,.inl ⟨rfl,rfl,rfl⟩⟩
 have hF7:=hf6.setBelow (show nb<HI by omega) 3 (.slice a6 rl.length p6)
 have hB7:Below w.heap.size w (w6.setCell ⟨nb,3,none⟩ (.slice a6 rl.length p6)):=HBN6.out.setCell (Nat.le_of_eq HNB.out) _
 have hsz7:HI<=(w6.setCell ⟨nb,3,none⟩ (.slice a6 rl.length p6)).heap.size :=by simpa using Nat.le_trans hsz5 HB56.out.size
 obtain⟨c3',cf'⟩:(w6.cell? ⟨nb,3,none⟩=some (.slice sa xS.length sc))/\ ∀k,w6.frozen? ⟨nb,k,none⟩=false:=⟨(HX5.out.later HB56.out).c3,(HX5.out.later HB56.out).fr⟩
 go_upto_region 8 with fail
 obtain⟨W7,hW7⟩: ∃W7,W7=w6.setCell ⟨nb,3,none⟩ (.slice a6 rl.length p6):=⟨_,rfl⟩
 rw[<-hW7] at hX7 hQ7 hZ7 hR7 hF7 hB7 hsz7 ⊢
 have HX7:=hid hX7
 have HQ7:=hid hQ7
 have HZ7:=hid hZ7
 have HR7:=hid hR7
 have HF7:=hid hF7
 have HB7:=hid hB7
 have HRD7:Hid (∀W,Below W7.heap.size W7 W->RdSt W ⟨xt,xn,xk,rl,a6,p6,xK,ka,kc,xM,ma,mc⟩):=hid fun W hb=>(HF7.out.later hb).rd (HRD.out W (step HB7.out hb))
 clear hW7 hX7 hQ7 hZ7 hR7 hF7 hB7 hf6 c3' cf' c0 c1 c2 c3 c4 c5 cf q0 q1 q2 q3 q4 HX5 HQ5 HZ5 HR5 HF5 KR
 obtain⟨c0,c1,c2,c3,c4,c5,cf⟩:=HX7.out
 simp only[StC.sv,StC.kv,StC.mv] at c0 c1 c2 c3 c4 c5
 obtain⟨q0,q1,q2,q3,q4⟩:=HQ7.out
 dsimp only at q0 q1 q2 q3 q4
 obtain⟨⟨tl,ta,tc⟩,htt⟩: ∃p,freeK (vals xK) rm rc xk=p:=⟨_,rfl⟩
 have htl:=free_len (vals xK) rm rc xk
 have htg:=free_givenA (vals xK) rm rc xk
 rw[htt] at KTK htl htg
 dsimp only at htl htg
 rw[vals_length] at htl
 have HTT:=hid htt
 have HK4:Hid (cmdA ⟨xt,xn,xk,(renewS xS rc xt).1,vals xK,valsM xM⟩ rc ⟨rk,rn,rm⟩=(freedA ⟨xt,xn,xk,rl,vals xK,valsM xM⟩ rm rc,toldA (freedA ⟨xt,xn,xk,rl,vals xK,valsM xM⟩ rm rc) rc tc 0)):=hid (by
  have hrk:=HRK.out
  rw[HRN.out]
  unfold cmdA
  rw[if_neg (by dsimp only;omega),if_pos hrk]
  dsimp only
  rw[htt])
 have e1:IntKind.i64.wrap (xk+ta)=xk+ta:=by rw[IntKind.wrap_i64];omega
 clear htt
 go_upto_region 19 with (go_at_call 127;refine(KTK.out W7 HB7.out).mono ?_;rintro e w8 ⟨v8,M8,rfl,hm8,ho8,hb8⟩;dsimp only at hm8 ho8;obtain⟨a8,p8,rfl⟩:=Rw.own_form ho8.row;have HM8:=hid hm8;have HO8:=hid ho8;have HB78:=hid hb8;clear hm8 ho8 hb8)
 have HBN8:=hid (step HB7.out HB78.out)
 have hM8:M8.length<=901:=by
  have:=vals_length M8
  rw[HM8.out] at this
  omega
 clear c0 c1 c2 c3 c4 c5 cf q0 q1 q2 q3 q4
 obtain⟨c0,c1,c2,c3,c4,c5,cf⟩:=HX7.out.later HB78.out
 simp only[StC.sv,StC.kv,StC.mv] at c0 c1 c2 c3 c4 c5
 obtain⟨q0,q1,q2,q3,q4⟩:=HQ7.out.later HB78.out
 dsimp only at q0 q1 q2 q3 q4
 have hf8n:FromS HI w8 ⟨xt,xn,xk,xS,sa,sc,xK,ka,kc,xM,ma,mc⟩ ⟨xt,xn,xk,rl,a6,p6,M8,a8,p8,xM,ma,mc⟩:=⟨(HF7.out.later HB78.out).s,.inr (HO8.out.lower hsz7),(HF7.out.later HB78.out).m⟩
 by_cases ht0:tc=0
 ·have g1:(tc==(0:Int))=true:=by simpa using ht0
  have HRV:Hid (R=(⟨xt,xn,(xk+ta),rl,vals M8,valsM xM⟩,⟨tc,(findS rl rc).1.num,0,heldK (vals M8) rc⟩)):=hid (by
   rw[HRC.out,HK4.out]
   unfold toldA freedA
   dsimp only
   rw[HTT.out]
   simp [ht0,HM8.out])
  have hf8:FromS HI w8 ⟨xt,xn,xk,xS,sa,sc,xK,ka,kc,xM,ma,mc⟩ ⟨xt,xn,xk+ta,rl,a6,p6,M8,a8,p8,xM,ma,mc⟩:=⟨hf8n.s,hf8n.k,hf8n.m⟩
  clear ht0 hf8n
  have hX9:=(((HX7.out.later HB78.out).set4 M8 a8 p8).set2 (xk+ta))
  have hQ9:=(((HQ7.out.later HB78.out).other (show nb≠nb+1 by omega) 4 (.slice a8 M8.length p8)).other (show nb≠nb+1 by omega) 2 (.int .i64 (xk+ta)))
  have hZ9:=(((HZ7.out.later HB78.out).other (show nb≠nb+2 by omega) 4 (.slice a8 M8.length p8)).other (show nb≠nb+2 by omega) 2 (.int .i64 (xk+ta)))
  have hR9:=(((HR7.out.later HB78.out).other (show nb≠nb+3 by omega) 4 (.slice a8 M8.length p8)).other (show nb≠nb+3 by omega) 2 (.int .i64 (xk+ta)))
  have hF9:=((hf8.setBelow (show nb<HI by omega) 4 (.slice a8 M8.length p8)).setBelow (show nb<HI by omega) 2 (.int .i64 (xk+ta)))
  have hB9:Below w.heap.size w ((w8.setCell ⟨nb,4,none⟩ (.slice a8 M8.length p8)).setCell ⟨nb,2,none⟩ (.int .i64 (xk+ta))):=((HBN8.out.setCell (Nat.le_of_eq HNB.out) _).setCell (Nat.le_of_eq HNB.out) _)
  have hsz9:HI<=((w8.setCell ⟨nb,4,none⟩ (.slice a8 M8.length p8)).setCell ⟨nb,2,none⟩ (.int .i64 (xk+ta))).heap.size :=by simpa using Nat.le_trans hsz7 HB78.out.size
  go_upto_region 22 with fail
  obtain⟨W9,hW9⟩: ∃W9,W9=((w8.setCell ⟨nb,4,none⟩ (.slice a8 M8.length p8)).setCell ⟨nb,2,none⟩ (.int .i64 (xk+ta))):=⟨_,rfl⟩
  rw[<-hW9] at hX9 hQ9 hZ9 hR9 hF9 hB9 hsz9 ⊢
  have HX9:=hid hX9
  have HQ9:=hid hQ9
  have HZ9:=hid hZ9
  have HR9:=hid hR9
  have HF9:=hid hF9
  have HB9:=hid hB9
  clear hW9 hX9 hQ9 hZ9 hR9 hF9 hB9 hf8 c0 c1 c2 c3 c4 c5 cf q0 q1 q2 q3 q4 HX7 HQ7 HZ7 HR7 HF7
  have KT:=hid (fun W (hb:Below W9.heap.size W9 W)=>RefTold_any ⟨xt,xn,(xk+ta),rl,a6,p6,M8,a8,p8,xM,ma,mc⟩ rc tc 0 W ((HF9.out.later hb).rd (HRD.out W (step HB9.out hb))) (by show M8.length<=1000;omega))
  unfold toldA GetsTold stVal at KT
  simp only[StC.sv,StC.kv,StC.mv,StC.v] at KT
  obtain⟨c0,c1,c2,c3,c4,c5,cf⟩:=HX9.out
  simp only[StC.sv,StC.kv,StC.mv] at c0 c1 c2 c3 c4 c5
  obtain⟨q0,q1,q2,q3,q4⟩:=HQ9.out
  dsimp only at q0 q1 q2 q3 q4
  refine wp_region_held_drew (S:=(fun W=>((W.cell? ⟨nb,0,none⟩=some (.int .i64 xt)/\W.cell? ⟨nb,1,none⟩=some (.int .i64 xn)/\W.cell? ⟨nb,2,none⟩=some (.int .i64 (xk+ta)))/\W.cell? ⟨nb,3,none⟩=some (.slice a6 rl.length p6)/\W.cell? ⟨nb,4,none⟩=some (.slice a8 M8.length p8)/\W.cell? ⟨nb,5,none⟩=some (.slice ma xM.length mc))/\W.cell? ⟨nb+1,0,none⟩=some (.int .i64 rc))) (by kernel_rfl) (⟨(HX9.out.later (Below.refl _ W9).drew).cells,(HQ9.out.later (Below.refl _ W9).drew).c0⟩) (fun hHeld=>?_)
  refine wpAnyH_take (i:=0) (v:=?_) rfl (by kernel_rfl) (by kernel_rfl) (by kernel_rfl) (fun _ _ _ h=>h) (Or.inl ⟨by rfl,?_⟩) (by assumption) ?_
  rotate_left
  ·intro w hSw;(try dsimp only at hSw);go_simp<;>with_reducible rfl
  try simp only[Act.put,getElem_toArray,getElem_cons_zero,setIfInBounds_toArray,set_cons_zero,set_cons_succ]
  refine wpAnyH_take (i:=1) (v:=?_) rfl (by kernel_rfl) (by kernel_rfl) (by kernel_rfl) (fun _ _ _ h=>h) (Or.inl ⟨by rfl,?_⟩) (by assumption) ?_
  rotate_left
  ·intro w hSw;(try dsimp only at hSw);go_simp<;>with_reducible rfl
  try simp only[Act.put,getElem_toArray,getElem_cons_succ,getElem_cons_zero,setIfInBounds_toArray,set_cons_zero,set_cons_succ]
  refine wpAnyH_take (i:=2) (v:=?_) rfl (by kernel_rfl) (by kernel_rfl) (by kernel_rfl) (fun _ _ _ h=>h) (Or.inl ⟨by rfl,?_⟩) (by assumption) ?_
  rotate_left
  ·intro w hSw;(try dsimp only at hSw);go_simp<;>with_reducible rfl
  try simp only[Act.put,getElem_toArray,getElem_cons_succ,getElem_cons_zero,setIfInBounds_toArray,set_cons_zero,set_cons_succ]
  refine wpAnyH_take (i:=3) (v:=?_) rfl (by kernel_rfl) (by kernel_rfl) (by kernel_rfl) (fun _ _ _ h=>h) (Or.inl ⟨by rfl,?_⟩) (by assumption) ?_
  rotate_left
  ·intro w hSw;(try dsimp only at hSw);go_simp<;>with_reducible rfl
  try simp only[Act.put,getElem_toArray,getElem_cons_succ,getElem_cons_zero,setIfInBounds_toArray,set_cons_zero,set_cons_succ]
  refine wpAnyH_take (i:=4) (v:=?_) rfl (by kernel_rfl) (by kernel_rfl) (by kernel_rfl) (fun _ _ _ h=>h) (Or.inl ⟨by rfl,?_⟩) (by assumption) ?_
  rotate_left
  ·intro w hSw;(try dsimp only at hSw);go_simp<;>with_reducible rfl
  try simp only[Act.put,getElem_toArray,getElem_cons_succ,getElem_cons_zero,setIfInBounds_toArray,set_cons_zero,set_cons_succ]
  refine wpAnyH_ready (rs:= [5]) (by kernel_rfl) (by simp) ?_
  refine AllReadyH.cons rfl (fun K hK=>?_) AllReadyH.nil
  go_simp
  go_at_call 126
  refine(KT.out W9.drew (Below.refl _ W9).drew).mono ?_
  rintro e w5 ⟨a5,p5,rfl,ho5,hb5⟩
  have HO5:=hid ho5
  have HB5:Hid (Below W9.heap.size W9 w5):=hid (step (Below.refl W9.heap.size W9).drew hb5)
  obtain⟨z0,z1,z2,z3,z4,z5,zf⟩:=HZ9.out.later HB5.out
  simp only[zeroC10,StC.sv,StC.kv,StC.mv,List.length_nil] at z0 z1 z2 z3 z4 z5
  obtain⟨⟨r0,r1,r2,r3⟩,rf⟩:=HR9.out _ HB5.out
  clear ho5 hb5
  refine hK.out _ _ (⟨(HX9.out.later HB5.out).cells,(HQ9.out.later HB5.out).c0⟩) (fun hHeld=>?_)
  clear hK K
  try simp only[Act.put,getElem_toArray,getElem_cons_succ,getElem_cons_zero,setIfInBounds_toArray,set_cons_zero,set_cons_succ]
  refine wpAnyH_ready (rs:= [6]) (by kernel_rfl) (by simp) ?_
  refine AllReadyH.cons rfl (fun K hK=>?_) AllReadyH.nil
  go_simp
  refine hK.out _ _ (⟨((HX9.out.later HB5.out).other6 (show nb+2≠nb by omega) _ _ _ _ _ _).cells,((HQ9.out.later HB5.out).other6 (show nb+2≠nb+1 by omega) _ _ _ _ _ _).c0⟩) (fun hHeld=>?_)
  clear hK K
  try simp only[Act.put,getElem_toArray,getElem_cons_succ,getElem_cons_zero,setIfInBounds_toArray,set_cons_zero,set_cons_succ]
  refine wpAnyH_ready (rs:= [7]) (by kernel_rfl) (by simp) ?_
  refine AllReadyH.cons rfl (fun K hK=>?_) AllReadyH.nil
  go_simp
  refine hK.out _ _ (⟨(((HX9.out.later HB5.out).other6 (show nb+2≠nb by omega) _ _ _ _ _ _).other4 (show nb+3≠nb by omega) _ _ _ _).cells,(((HQ9.out.later HB5.out).other6 (show nb+2≠nb+1 by omega) _ _ _ _ _ _).other4 (show nb+3≠nb+1 by omega) _ _ _ _).c0⟩) (fun hHeld=>?_)
  clear hK K
  try simp only[Act.put,getElem_toArray,getElem_cons_succ,getElem_cons_zero,setIfInBounds_toArray,set_cons_zero,set_cons_succ]
  refine wpAnyH_done (by kernel_rfl) ?_ _
  have hl5:nb+3<W9.drew.heap.size:=Nat.lt_of_lt_of_le hlt3 hsz9
  have HOE:=hid (own_lowerX (own_set4z (own_set6z HO5.out (Nat.lt_of_succ_lt hl5) (.int .i64 xt) (.int .i64 xn) (.int .i64 (xk+ta)) (.slice a6 rl.length p6) (.slice a8 M8.length p8) (.slice ma xM.length mc)) hl5 (.int .i64 tc) (.int .i64 (findS rl rc).1.num) (.int .i64 0) (.slice a5 (heldK (vals M8) rc).length p5)) (show w.heap.size<=W9.drew.heap.size from by have:=HNB.out;omega))
  have HBE:=hid (set4k (below_set6 (step HB9.out HB5.out) (nb+2) (by have:=HNB.out;omega) (.int .i64 xt) (.int .i64 xn) (.int .i64 (xk+ta)) (.slice a6 rl.length p6) (.slice a8 M8.length p8) (.slice ma xM.length mc)) (nb+3) (by have:=HNB.out;omega) (.int .i64 tc) (.int .i64 (findS rl rc).1.num) (.int .i64 0) (.slice a5 (heldK (vals M8) rc).length p5))
  have HFE:=hid ((FromS.set4 (FromS.set6 (HF9.out.later HB5.out) (show nb+2<HI from by omega) (.int .i64 xt) (.int .i64 xn) (.int .i64 (xk+ta)) (.slice a6 rl.length p6) (.slice a8 M8.length p8) (.slice ma xM.length mc)) (show nb+3<HI from hlt3) (.int .i64 tc) (.int .i64 (findS rl rc).1.num) (.int .i64 0) (.slice a5 (heldK (vals M8) rc).length p5)).lower hHI)
  go_wp2
  refine bodyPost_ret (by simp [results,Tryz.results59,go_sem,z0,z1,z2,z3,z4,z5,zf,r0,r1,r2,r3,rf]<;>rfl) rfl ?_
  rw[HRV.out]
  exact⟨⟨xt,xn,(xk+ta),rl,a6,p6,M8,a8,p8,xM,ma,mc⟩,a5,p5,rfl,rfl,HFE.out,HOE.out,HBE.out⟩
 ·have g1:(tc==(0:Int))=false:=by simpa using ht0
  have HRV:Hid (R=(⟨xt,xn,xk,rl,vals xK,valsM xM⟩,⟨tc,(findS rl rc).1.num,0,heldK (vals xK) rc⟩)):=hid (by
   rw[HRC.out,HK4.out]
   unfold toldA freedA
   dsimp only
   rw[HTT.out]
   simp [ht0])
  have hf8:=HF7.out.later HB78.out
  clear ht0 hf8n
  have hX9:=(HX7.out.later HB78.out)
  have hQ9:=(HQ7.out.later HB78.out)
  have hZ9:=(HZ7.out.later HB78.out)
  have hR9:=(HR7.out.later HB78.out)
  have hF9:=hf8
  have hB9:Below w.heap.size w w8:=HBN8.out
  have hsz9:HI<=w8.heap.size:=by simpa using Nat.le_trans hsz7 HB78.out.size
  go_upto_region 22 with fail
  obtain⟨W9,hW9⟩: ∃W9,W9=w8:=⟨_,rfl⟩
  rw[<-hW9] at hX9 hQ9 hZ9 hR9 hF9 hB9 hsz9 ⊢
  have HX9:=hid hX9
  have HQ9:=hid hQ9
  have HZ9:=hid hZ9
  have HR9:=hid hR9
  have HF9:=hid hF9
  have HB9:=hid hB9
  clear hW9 hX9 hQ9 hZ9 hR9 hF9 hB9 hf8 c0 c1 c2 c3 c4 c5 cf q0 q1 q2 q3 q4 HX7 HQ7 HZ7 HR7 HF7
  have KT:=hid (fun W (hb:Below W9.heap.size W9 W)=>RefTold_any ⟨xt,xn,xk,rl,a6,p6,xK,ka,kc,xM,ma,mc⟩ rc tc 0 W ((HF9.out.later hb).rd (HRD.out W (step HB9.out hb))) (by show xK.length<=1000;omega))
  unfold toldA GetsTold stVal at KT
  simp only[StC.sv,StC.kv,StC.mv,StC.v] at KT
  obtain⟨c0,c1,c2,c3,c4,c5,cf⟩:=HX9.out
  simp only[StC.sv,StC.kv,StC.mv] at c0 c1 c2 c3 c4 c5
  obtain⟨q0,q1,q2,q3,q4⟩:=HQ9.out
  dsimp only at q0 q1 q2 q3 q4
  refine wp_region_held_drew (S:=(fun W=>((W.cell? ⟨nb,0,none⟩=some (.int .i64 xt)/\W.cell? ⟨nb,1,none⟩=some (.int .i64 xn)/\W.cell? ⟨nb,2,none⟩=some (.int .i64 xk))/\W.cell? ⟨nb,3,none⟩=some (.slice a6 rl.length p6)/\W.cell? ⟨nb,4,none⟩=some (.slice ka xK.length kc)/\W.cell? ⟨nb,5,none⟩=some (.slice ma xM.length mc))/\W.cell? ⟨nb+1,0,none⟩=some (.int .i64 rc))) (by kernel_rfl) (⟨(HX9.out.later (Below.refl _ W9).drew).cells,(HQ9.out.later (Below.refl _ W9).drew).c0⟩) (fun hHeld=>?_)
  refine wpAnyH_take (i:=0) (v:=?_) rfl (by kernel_rfl) (by kernel_rfl) (by kernel_rfl) (fun _ _ _ h=>h) (Or.inl ⟨by rfl,?_⟩) (by assumption) ?_
  rotate_left
  ·intro w hSw;(try dsimp only at hSw);go_simp<;>with_reducible rfl
  try simp only[Act.put,getElem_toArray,getElem_cons_zero,setIfInBounds_toArray,set_cons_zero,set_cons_succ]
  refine wpAnyH_take (i:=1) (v:=?_) rfl (by kernel_rfl) (by kernel_rfl) (by kernel_rfl) (fun _ _ _ h=>h) (Or.inl ⟨by rfl,?_⟩) (by assumption) ?_
  rotate_left
  ·intro w hSw;(try dsimp only at hSw);go_simp<;>with_reducible rfl
  try simp only[Act.put,getElem_toArray,getElem_cons_succ,getElem_cons_zero,setIfInBounds_toArray,set_cons_zero,set_cons_succ]
  refine wpAnyH_take (i:=2) (v:=?_) rfl (by kernel_rfl) (by kernel_rfl) (by kernel_rfl) (fun _ _ _ h=>h) (Or.inl ⟨by rfl,?_⟩) (by assumption) ?_
  rotate_left
  ·intro w hSw;(try dsimp only at hSw);go_simp<;>with_reducible rfl
  try simp only[Act.put,getElem_toArray,getElem_cons_succ,getElem_cons_zero,setIfInBounds_toArray,set_cons_zero,set_cons_succ]
  refine wpAnyH_take (i:=3) (v:=?_) rfl (by kernel_rfl) (by kernel_rfl) (by kernel_rfl) (fun _ _ _ h=>h) (Or.inl ⟨by rfl,?_⟩) (by assumption) ?_
  rotate_left
  ·intro w hSw;(try dsimp only at hSw);go_simp<;>with_reducible rfl
  try simp only[Act.put,getElem_toArray,getElem_cons_succ,getElem_cons_zero,setIfInBounds_toArray,set_cons_zero,set_cons_succ]
  refine wpAnyH_take (i:=4) (v:=?_) rfl (by kernel_rfl) (by kernel_rfl) (by kernel_rfl) (fun _ _ _ h=>h) (Or.inl ⟨by rfl,?_⟩) (by assumption) ?_
  rotate_left
  ·intro w hSw;(try dsimp only at hSw);go_simp<;>with_reducible rfl
  try simp only[Act.put,getElem_toArray,getElem_cons_succ,getElem_cons_zero,setIfInBounds_toArray,set_cons_zero,set_cons_succ]
  refine wpAnyH_ready (rs:= [5]) (by kernel_rfl) (by simp) ?_
  refine AllReadyH.cons rfl (fun K hK=>?_) AllReadyH.nil
  go_simp
  go_at_call 126
  refine(KT.out W9.drew (Below.refl _ W9).drew).mono ?_
  rintro e w5 ⟨a5,p5,rfl,ho5,hb5⟩
  have HO5:=hid ho5
  have HB5:Hid (Below W9.heap.size W9 w5):=hid (step (Below.refl W9.heap.size W9).drew hb5)
  obtain⟨z0,z1,z2,z3,z4,z5,zf⟩:=HZ9.out.later HB5.out
  simp only[zeroC10,StC.sv,StC.kv,StC.mv,List.length_nil] at z0 z1 z2 z3 z4 z5
  obtain⟨⟨r0,r1,r2,r3⟩,rf⟩:=HR9.out _ HB5.out
  clear ho5 hb5
  refine hK.out _ _ (⟨(HX9.out.later HB5.out).cells,(HQ9.out.later HB5.out).c0⟩) (fun hHeld=>?_)
  clear hK K
  try simp only[Act.put,getElem_toArray,getElem_cons_succ,getElem_cons_zero,setIfInBounds_toArray,set_cons_zero,set_cons_succ]
  refine wpAnyH_ready (rs:= [6]) (by kernel_rfl) (by simp) ?_
  refine AllReadyH.cons rfl (fun K hK=>?_) AllReadyH.nil
  go_simp
  refine hK.out _ _ (⟨((HX9.out.later HB5.out).other6 (show nb+2≠nb by omega) _ _ _ _ _ _).cells,((HQ9.out.later HB5.out).other6 (show nb+2≠nb+1 by omega) _ _ _ _ _ _).c0⟩) (fun hHeld=>?_)
  clear hK K
  try simp only[Act.put,getElem_toArray,getElem_cons_succ,getElem_cons_zero,setIfInBounds_toArray,set_cons_zero,set_cons_succ]
  refine wpAnyH_ready (rs:= [7]) (by kernel_rfl) (by simp) ?_
  refine AllReadyH.cons rfl (fun K hK=>?_) AllReadyH.nil
  go_simp
  refine hK.out _ _ (⟨(((HX9.out.later HB5.out).other6 (show nb+2≠nb by omega) _ _ _ _ _ _).other4 (show nb+3≠nb by omega) _ _ _ _).cells,(((HQ9.out.later HB5.out).other6 (show nb+2≠nb+1 by omega) _ _ _ _ _ _).other4 (show nb+3≠nb+1 by omega) _ _ _ _).c0⟩) (fun hHeld=>?_)
  clear hK K
  try simp only[Act.put,getElem_toArray,getElem_cons_succ,getElem_cons_zero,setIfInBounds_toArray,set_cons_zero,set_cons_succ]
  refine wpAnyH_done (by kernel_rfl) ?_ _
  have hl5:nb+3<W9.drew.heap.size:=Nat.lt_of_lt_of_le hlt3 hsz9
  have HOE:=hid (own_lowerX (own_set4z (own_set6z HO5.out (Nat.lt_of_succ_lt hl5) (.int .i64 xt) (.int .i64 xn) (.int .i64 xk) (.slice a6 rl.length p6) (.slice ka xK.length kc) (.slice ma xM.length mc)) hl5 (.int .i64 tc) (.int .i64 (findS rl rc).1.num) (.int .i64 0) (.slice a5 (heldK (vals xK) rc).length p5)) (show w.heap.size<=W9.drew.heap.size from by have:=HNB.out;omega))
  have HBE:=hid (set4k (below_set6 (step HB9.out HB5.out) (nb+2) (by have:=HNB.out;omega) (.int .i64 xt) (.int .i64 xn) (.int .i64 xk) (.slice a6 rl.length p6) (.slice ka xK.length kc) (.slice ma xM.length mc)) (nb+3) (by have:=HNB.out;omega) (.int .i64 tc) (.int .i64 (findS rl rc).1.num) (.int .i64 0) (.slice a5 (heldK (vals xK) rc).length p5))
  have HFE:=hid ((FromS.set4 (FromS.set6 (HF9.out.later HB5.out) (show nb+2<HI from by omega) (.int .i64 xt) (.int .i64 xn) (.int .i64 xk) (.slice a6 rl.length p6) (.slice ka xK.length kc) (.slice ma xM.length mc)) (show nb+3<HI from hlt3) (.int .i64 tc) (.int .i64 (findS rl rc).1.num) (.int .i64 0) (.slice a5 (heldK (vals xK) rc).length p5)).lower hHI)
  go_wp2
  refine bodyPost_ret (by simp [results,Tryz.results59,go_sem,z0,z1,z2,z3,z4,z5,zf,r0,r1,r2,r3,rf]<;>rfl) rfl ?_
  rw[HRV.out]
  exact⟨⟨xt,xn,xk,rl,a6,p6,xK,ka,kc,xM,ma,mc⟩,a5,p5,rfl,rfl,HFE.out,HOE.out,HBE.out⟩
theorem RefDoes_any (x:StC) (r:ReqV) (w:World) (h:RdSt w x) (hs:Small x) (hk9:x.K.length<=900) (hn:0<=x.num/\x.num<=2305843009213693952):Calls Tryz.prog 59 #[stVal x,reqVal r] w (GetsSR (doesA x.v r) x w):=by
 by_cases hk:r.cmd.kind=1
 ·exact Does_open x r w h hs hk9 hn hk
 by_cases hno:(findS x.S r.client).2=false\/(findS x.S r.client).1.num ≠r.cmd.session
 ·exact Does_no x r w h hs hk9 hn hk hno
 have hyes:(findS x.S r.client).2=true/\(findS x.S r.client).1.num =r.cmd.session:=by
  refine⟨?_,Decidable.byContradiction fun q=>hno (Or.inr q)⟩
  cases q:(findS x.S r.client).2 with
  | true=>rfl
  | false=>exact absurd (Or.inl q) hno
 by_cases h3:r.cmd.kind=3
 ·exact Does_take3 x r w h hs hk9 hn h3 hyes
 by_cases h4:r.cmd.kind=4
 ·exact Does_take4 x r w h hs hk9 hn h4 hyes
 by_cases h5:r.cmd.kind=5
 ·exact Does_free x r w h hs hk9 hn h5 hyes
 by_cases h6:r.cmd.kind=6
 ·exact Does_close x r w h hs hk9 hn h6 hyes
 exact Does_keep x r w h hs hk9 hn hk h3 h4 h5 h6 hyes
end Cm
end Go.Proofs.YtlnbmblbeaodcaaGreat
