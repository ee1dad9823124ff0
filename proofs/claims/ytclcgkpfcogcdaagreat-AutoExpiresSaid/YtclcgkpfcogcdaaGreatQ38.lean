/- Texts laid together by program. -/
import Derived.Test.YtclcgkpfcogcdaaGreatQ22
import Derived.Test.YtclcgkpfcogcdaaGreatQ37
import Derived.Deep.RegionHeld3
/- Contract: padlockref6's Apply, all ways (made by tools/gen_aucg.py). -/
set_option linter.unusedVariables false
set_option maxRecDepth 8000
set_option linter.unusedSimpArgs false
namespace Go.Proofs.YtclcgkpfcogcdaaGreat
open Lib (hid)
open List (getElem_toArray getElem_cons_succ getElem_cons_zero setIfInBounds_toArray set_cons_zero set_cons_succ)
open Go.RowKit Go.Shelf
namespace Cm

structure CurA (w:World) (HI nb:Nat) (r:ReqV) (x y:StC) (W:World):Prop where
 sz:HI<=W.heap.size
 X:BoxS W nb y
 Q:BoxR W (nb+1) r
 Z:BoxS W (nb+2) zeroC10
 R:EmptyR W (nb+3)
 F:FromS HI W x y
 B:Below w.heap.size w W
theorem CurA.later {w W W':World} {HI nb:Nat} {r:ReqV} {x y:StC} (h:CurA w HI nb r x y W) (hb:Below W.heap.size W W'):CurA w HI nb r x y W':=
 ⟨Nat.le_trans h.sz hb.size,h.X.later hb,h.Q.later hb,h.Z.later hb,h.R.later hb,h.F.later hb,step h.B hb⟩
theorem CurA.set3 {w W:World} {HI nb:Nat} {r:ReqV} {x y:StC} (h:CurA w HI nb r x y W) (hw:w.heap.size=nb) (hl:nb+3<HI) (S:List SesV) (a:Option Addr) (p:Nat) {base:Nat} (hb:HI<=base) (ho:W.ownsRow base 46 3 (.slice a S.length p) S.length (flatX cellsS S)):
  CurA w HI nb r x { y with S:=S,sa:=a,sc:=p } (W.setCell ⟨nb,3,none⟩ (.slice a S.length p)):=
 ⟨by simpa using h.sz,h.X.set3 S a p,h.Q.other (by omega) 3 _,h.Z.other (by omega) 3 _,h.R.other (by omega) 3 _,FromS.setBelow (y:= { y with S:=S,sa:=a,sc:=p }) ⟨.inr (own_lowerX ho hb),h.F.k,h.F.m⟩ (by omega) 3 _,h.B.setCell (Nat.le_of_eq hw) _⟩
theorem CurA.put {w W:World} {HI nb:Nat} {r:ReqV} {x y:StC} (h:CurA w HI nb r x y W) (hw:w.heap.size=nb) (hl:nb+3<HI) (z:StC) {base:Nat} (hb:HI<=base) (hF:FromS base W y z):
  CurA w HI nb r x z ((((((W.setCell ⟨nb,0,none⟩ (.int .i64 z.time)).setCell ⟨nb,1,none⟩ (.int .i64 z.num)).setCell ⟨nb,2,none⟩ (.int .i64 z.token)).setCell ⟨nb,3,none⟩ (.slice z.sa z.S.length z.sc)).setCell ⟨nb,4,none⟩ (.slice z.ka z.K.length z.kc)).setCell ⟨nb,5,none⟩ (.slice z.ma z.M.length z.mc)):=
 ⟨by simpa using h.sz,h.X.put _ _ _ _ _ _ _ _ _ _ _ _,h.Q.other6 (by omega) _ _ _ _ _ _,h.Z.other6 (by omega) _ _ _ _ _ _,h.R.other6 (by omega) _ _ _ _ _ _,(h.F.trans (hF.lower hb)).set6 (by omega) _ _ _ _ _ _,below_set6 h.B nb (Nat.le_of_eq hw) _ _ _ _ _ _⟩
theorem CurA.z {w W:World} {HI nb:Nat} {r:ReqV} {x y:StC} (h:CurA w HI nb r x y W):CurZ w HI nb x y W:=⟨h.sz,h.Z,h.R,h.F,h.B⟩
def FourM (w:World) (b:Nat) (v0 v1 v2 v3:Value):Prop:=w.cell? ⟨b,2,none⟩=some v0/\w.cell? ⟨b,3,none⟩=some v1/\w.cell? ⟨b,4,none⟩=some v2/\w.cell? ⟨b,5,none⟩=some v3
theorem FourM.drew {w:World} {b:Nat} {v0 v1 v2 v3:Value} (h:FourM w b v0 v1 v2 v3):FourM w.drew b v0 v1 v2 v3:=h
theorem FourM.other {w:World} {b g:Nat} {v0 v1 v2 v3:Value} (h:FourM w b v0 v1 v2 v3) (hg:g≠b) (j:Nat) (v:Value):FourM (w.setCell ⟨g,j,none⟩ v) b v0 v1 v2 v3:=by
 have hn: ∀k,(w.setCell ⟨g,j,none⟩ v).cell? ⟨b,k,none⟩=w.cell? ⟨b,k,none⟩:=fun k=>by
  simp only[World.cell?]
  rw[Below.heap_setCell w ⟨g,j,none⟩ v b (fun q=>hg (by have:b=g:=q;exact this.symm))]
 exact⟨(hn 2).trans h.1,(hn 3).trans h.2.1,(hn 4).trans h.2.2.1,(hn 5).trans h.2.2.2⟩
theorem FourM.other4 {w:World} {b g:Nat} {v0 v1 v2 v3:Value} (h:FourM w b v0 v1 v2 v3) (hg:g≠b) (x0 x1 x2 x3:Value):FourM ((((w.setCell ⟨g,0,none⟩ x0).setCell ⟨g,1,none⟩ x1).setCell ⟨g,2,none⟩ x2).setCell ⟨g,3,none⟩ x3) b v0 v1 v2 v3:=
 (((h.other hg 0 x0).other hg 1 x1).other hg 2 x2).other hg 3 x3
theorem FourM.other6 {w:World} {b g:Nat} {v0 v1 v2 v3:Value} (h:FourM w b v0 v1 v2 v3) (hg:g≠b) (x0 x1 x2 x3 x4 x5:Value):FourM ((((((w.setCell ⟨g,0,none⟩ x0).setCell ⟨g,1,none⟩ x1).setCell ⟨g,2,none⟩ x2).setCell ⟨g,3,none⟩ x3).setCell ⟨g,4,none⟩ x4).setCell ⟨g,5,none⟩ x5) b v0 v1 v2 v3:=
 (((((h.other hg 0 x0).other hg 1 x1).other hg 2 x2).other hg 3 x3).other hg 4 x4).other hg 5 x5
def HeldOk (HI:Nat) (w W:World) (v:Value) (l:List GrantV):Prop:=(∀V,Below w.heap.size w V->RdH V v l)\/W.ownsRow HI 57 2 v l.length (flatX cellsG l)
theorem HeldOk.later {HI:Nat} {w W W':World} {v:Value} {l:List GrantV} (h:HeldOk HI w W v l) (hb:Below W.heap.size W W'):HeldOk HI w W' v l:=h.imp id fun q=>Rw.own_below q hb
theorem HeldOk.set4 {HI:Nat} {w W:World} {v:Value} {l:List GrantV} (h:HeldOk HI w W v l) {g:Nat} (hg:g<HI) (v0 v1 v2 v3:Value):HeldOk HI w ((((W.setCell ⟨g,0,none⟩ v0).setCell ⟨g,1,none⟩ v1).setCell ⟨g,2,none⟩ v2).setCell ⟨g,3,none⟩ v3) v l:=h.imp id fun q=>own_set4z q hg _ _ _ _
theorem HeldOk.set6 {HI:Nat} {w W:World} {v:Value} {l:List GrantV} (h:HeldOk HI w W v l) {g:Nat} (hg:g<HI) (v0 v1 v2 v3 v4 v5:Value):HeldOk HI w ((((((W.setCell ⟨g,0,none⟩ v0).setCell ⟨g,1,none⟩ v1).setCell ⟨g,2,none⟩ v2).setCell ⟨g,3,none⟩ v3).setCell ⟨g,4,none⟩ v4).setCell ⟨g,5,none⟩ v5) v l:=h.imp id fun q=>own_set6z q hg _ _ _ _ _ _
theorem HeldOk.rd {HI:Nat} {w W:World} {v:Value} {l:List GrantV} (h:HeldOk HI w W v l) (hb:Below w.heap.size w W):RdH W v l:=by
 rcases h with q | q
 ·exact q W hb
 ·exact RdH.of (RdX.own cellsG_length q)
theorem heldOk_of {HI base:Nat} {w W W':World} {x y:StC} (hF:FromS HI W x y) (hx: ∀V,Below w.heap.size w V->RdSt V x) (hb:Below W.heap.size W W') (hbase:HI<=base) {z:MemC}
  (h:z∈y.M\/W'.ownsRow base 57 2 z.hv z.m.rep.held.length (flatX cellsG z.m.rep.held)):HeldOk HI w W' z.hv z.m.rep.held:=by
 rcases h with q | q
 ·rcases hF.m with ⟨p1,_,_⟩ | ⟨_,p⟩
  ·rw[p1] at q
   exact .inl fun V hV=>(hx V hV).m.held z q
  ·rcases p z q with r | r
   ·exact .inl fun V hV=>(hx V hV).m.held z r
   ·exact .inr (Rw.own_below r hb)
 ·exact .inr (own_lowerX q hbase)
theorem fresh_vals (l:List AnsV) (c s:Int):freshM l c s=1\/freshM l c s=0\/freshM l c s= -1:=by
 unfold freshM
 split
 ·exact .inl rfl
 ·split
  ·exact .inl rfl
  ·split
   ·exact .inr (.inl rfl)
   ·exact .inr (.inr rfl)
set_option maxHeartbeats 8000000 in
theorem Apply_same (x:StC) (r:ReqV) (w:World) (h:RdSt w x) (hR:Rst x.v) (hma:mayR r=true) (hfs:freshM (valsM x.M) r.client r.seq=0):Calls Tryz.prog 16 #[stVal x,reqVal r] w (GetsAp (applyA x.v r) x w):=by
 obtain⟨W1,hW1⟩: ∃W1,W1=w.alloc (.cells #[.int .i64 x.time,.int .i64 x.num,.int .i64 x.token,x.sv,x.kv,x.mv] 26):=⟨_,rfl⟩
 have hb1:Below w.heap.size w W1:=by rw[hW1];exact newAlloc _ _
 have hB1:BoxS W1 w.heap.size x:=by rw[hW1];exact BoxS.new w x _
 have hs1:W1.heap.size=w.heap.size+1:=by rw[hW1];simp
 obtain⟨W2,hW2⟩: ∃W2,W2=W1.alloc (.cells #[.int .i64 r.client,.int .i64 r.seq,.int .i64 r.cmd.kind,.int .i64 r.cmd.session,.string (bstr r.cmd.name)] 30):=⟨_,rfl⟩
 have hb2:Below W1.heap.size W1 W2:=by rw[hW2];exact newAlloc _ _
 have hQ:BoxR W2 (w.heap.size+1) r:=by rw[<-hs1,hW2];exact BoxR.new W1 r _
 have hs2:W2.heap.size=w.heap.size+2:=by rw[hW2];simp [hs1]
 obtain⟨W3,hW3⟩: ∃W3,W3=W2.alloc (.cells #[.int .i64 0,.int .i64 0,.int .i64 0,.slice none 0 0,.slice none 0 0,.slice none 0 0] 26):=⟨_,rfl⟩
 have hb3:Below W2.heap.size W2 W3:=by rw[hW3];exact newAlloc _ _
 have hZ:BoxS W3 (w.heap.size+2) zeroC10:=by rw[<-hs2,hW3];exact BoxS.new W2 zeroC10 _
 have hs3:W3.heap.size=w.heap.size+3:=by rw[hW3];simp [hs2]
 obtain⟨W4,hW4⟩: ∃W4,W4=W3.alloc (.cells #[.int .i64 0,.int .i64 0,.int .i64 0,.slice none 0 0] 36):=⟨_,rfl⟩
 have hb4:Below W3.heap.size W3 W4:=by rw[hW4];exact newAlloc _ _
 have hER:EmptyR W4 (w.heap.size+3):=by rw[<-hs3,hW4];exact EmptyR.new W3
 have hs4:W4.heap.size=w.heap.size+4:=by rw[hW4];simp [hs3]
 have hCU:CurA w W4.heap.size w.heap.size r x x W4:=⟨Nat.le_refl _,hB1.later (step hb2 (step hb3 hb4)),hQ.later (step hb3 hb4),hZ.later hb4,hER,FromS.refl _ _ _,step hb1 (step hb2 (step hb3 hb4))⟩
 have HRD:Hid (∀W,Below w.heap.size w W->RdSt W x):=hid fun W hb=>h.later hb
 have HRR:=hid hR
 have HSM:=hid hR.small
 obtain⟨HI,hHI'⟩: ∃HI,W4.heap.size=HI:=⟨_,rfl⟩
 obtain⟨nb,hnb⟩: ∃nb,w.heap.size=nb:=⟨_,rfl⟩
 have HNB:=hid hnb
 have hlt3:nb+3<HI:=by omega
 have hHI:w.heap.size<=HI:=by omega
 rw[hHI'] at hCU
 have HC0:Hid (CurA w HI nb r x x W4):=hid (by rw[hnb] at hCU;exact hCU)
 clear hCU hnb h hR hb1 hb2 hb3 hb4 hB1 hZ hQ hER hs1 hs2 hs3 hs4 hHI'
 obtain⟨R,hRV⟩: ∃R,applyA x.v r=R:=⟨_,rfl⟩
 have HRV:=hid hRV
 rw[hRV]
 clear hRV
 have KM:=hid (fun W=>RefMayReq_any r W)
 obtain⟨xt,xn,xk,xS,sa,sc,xK,ka,kc,xM,ma,mc⟩:=x
 obtain⟨rc,rs,⟨rk,rn,rm⟩⟩:=r
 unfold stVal reqVal
 unfold reqVal at KM
 simp only[StC.sv,StC.kv,StC.mv] at hW1 ⊢
 dsimp only at hW2 KM
 obtain⟨c0,c1,c2,c3,c4,c5,cf⟩:=HC0.out.X
 simp only[StC.sv,StC.kv,StC.mv] at c0 c1 c2 c3 c4 c5
 obtain⟨q0,q1,q2,q3,q4⟩:=HC0.out.Q
 dsimp only at q0 q1 q2 q3 q4
 dsimp only at hfs
 go_enter Tryz.func16,Tryz.ntmps16
 go_upto_region 1 with fail
 rw[<-hW1,<-hW2,<-hW3,<-hW4]
 rw[HNB.out]
 try rw[show nb+1+1+1=nb+3 from rfl]
 try rw[show nb+1+1=nb+2 from rfl]
 clear hW1 hW2 hW3 hW4
 have HC5:=HC0
 have HRU:=HRR
 have HRV5:=HRV
 have HRDU:Hid (∀W,Below W4.heap.size W4 W->RdSt W ⟨xt,xn,xk,xS,sa,sc,xK,ka,kc,xM,ma,mc⟩):=hid fun W hb=>HRD.out W (step HC0.out.B hb)
 clear HRV HSM
 have KFU:=hid (fun W (hb:Below W4.heap.size W4 W)=>RefFresh_any (.slice ma xM.length mc) xM rc rs W (HRDU.out W hb).m)
 obtain⟨fr,hfr⟩: ∃fr,freshM (valsM xM) rc rs=fr:=⟨_,rfl⟩
 rw[hfr] at KFU
 have HFR:=hid hfr
 clear hfr
 have hnlt: ¬freshM (valsM xM) rc rs<0:=by rw[hfs];omega
 have KL:=hid (fun W (hb:Below W4.heap.size W4 W)=>RefLast_x (.slice ma xM.length mc) xM rc W (HRDU.out W hb).m)
 have HLS:Hid (R=(StC.v ⟨xt,xn,xk,xS,sa,sc,xK,ka,kc,xM,ma,mc⟩,(lastM (valsM xM) rc).1.rep,false)):=hid (by
  rw[<-HRV5.out]
  unfold applyA
  exact(if_neg (fun q=>Bool.noConfusion (hma.symm.trans q))).trans ((if_neg hnlt).trans (if_pos hfs)))
 obtain⟨⟨lm,lb⟩,hlm⟩: ∃l,lastM (valsM xM) rc=l:=⟨_,rfl⟩
 rw[hlm] at KL HLS
 dsimp only at HLS
 clear hlm hnlt
 obtain⟨mr,hmr⟩: ∃mr,mayR ⟨rc,rs,⟨rk,rn,rm⟩⟩=mr:=⟨_,rfl⟩
 rw[hmr] at KM
 have hm0:mr=true:=by rw[<-hmr];exact hma
 subst hm0
 go_upto_region 3 with (go_at_call 62;refine(KM.out W4).mono ?_;rintro e w6 ⟨rfl,hb6⟩;have HB56:=hid hb6;clear hb6)
 have HC6:=hid (HC5.out.later HB56.out)
 clear hmr KM
 clear c0 c1 c2 c3 c4 c5 cf q0 q1 q2 q3 q4
 obtain⟨c0,c1,c2,c3,c4,c5,cf⟩:=HC6.out.X
 simp only[StC.sv,StC.kv,StC.mv] at c0 c1 c2 c3 c4 c5
 obtain⟨q0,q1,q2,q3,q4⟩:=HC6.out.Q
 dsimp only at q0 q1 q2 q3 q4
 go_upto_region 4 with (go_at_call 63;refine(KFU.out w6 HB56.out).mono ?_;rintro e w7 ⟨rfl,hb7⟩;have HB67:=hid hb7;clear hb7)
 have HC7:=hid (HC6.out.later HB67.out)
 have HB57:=hid (step HB56.out HB67.out)
 clear KFU
 clear c0 c1 c2 c3 c4 c5 cf q0 q1 q2 q3 q4
 obtain⟨c0,c1,c2,c3,c4,c5,cf⟩:=HC7.out.X
 simp only[StC.sv,StC.kv,StC.mv] at c0 c1 c2 c3 c4 c5
 obtain⟨q0,q1,q2,q3,q4⟩:=HC7.out.Q
 dsimp only at q0 q1 q2 q3 q4
 have hfe:fr=0:=by rw[<-HFR.out];exact hfs
 have g1:decide (fr<0)=false:=by simp [hfe]
 have g2:(fr==(0:Int))=true:=by simpa using hfe
 clear hfe
 go_upto_region 8 with (go_at_call 24;refine(KL.out w7 HB57.out).mono ?_;rintro e w8 ⟨⟨⟨zc,zs,zk,zn,zd,zl⟩,za,zp⟩,he,hm8,ho8,hb8⟩;unfold memVal MemC.hv at he;dsimp only at he hm8;subst he;have HM8:=hid hm8;have HO8:=hid ho8;have HB78:=hid hb8;clear hm8 ho8 hb8)
 obtain⟨W9,hW9⟩: ∃W9,W9=w8.alloc (.cells #[.int .i64 zc,.int .i64 zs,.int .i64 zk,.int .i64 zn,.int .i64 zd,.slice za zl.length zp] 51):=⟨_,rfl⟩
 have HB89:Hid (Below w8.heap.size w8 W9):=hid (by rw[hW9];exact newAlloc _ _)
 have HB79:Hid (Below w7.heap.size w7 W9):=hid (step HB78.out HB89.out)
 have hm9:FourM W9 w8.heap.size (.int .i64 zk) (.int .i64 zn) (.int .i64 zd) (.slice za zl.length zp):=by
  rw[hW9]
  obtain⟨_,_,q2,q3,q4,q5⟩:=box6 (Below.refl _ (w8.alloc (.cells #[.int .i64 zc,.int .i64 zs,.int .i64 zk,.int .i64 zn,.int .i64 zd,.slice za zl.length zp] 51)))
  exact⟨q2,q3,q4,q5⟩
 rw[<-hW9]
 have HC9:=hid (HC7.out.later HB79.out)
 have HH9:Hid (HeldOk HI w W9 (.slice za zl.length zp) zl):=hid ((heldOk_of HC7.out.F HRD.out HB78.out HC7.out.sz HO8.out).later HB89.out)
 obtain⟨bt,hbt⟩: ∃bt,w8.heap.size=bt:=⟨_,rfl⟩
 have hltb:nb+3<bt:=by have:=HB78.out.size;have:=HC7.out.sz;omega
 have HM9:Hid (FourM W9 bt (.int .i64 zk) (.int .i64 zn) (.int .i64 zd) (.slice za zl.length zp)):=hid (by rw[<-hbt];exact hm9)
 rw[hbt]
 have HRF:Hid (R=(StC.v ⟨xt,xn,xk,xS,sa,sc,xK,ka,kc,xM,ma,mc⟩,⟨zk,zn,zd,zl⟩,false)):=hid (by rw[HLS.out,<-HM8.out])
 clear hW9 hbt hm9 hfs hma
 clear c0 c1 c2 c3 c4 c5 cf q0 q1 q2 q3 q4
 obtain⟨c0,c1,c2,c3,c4,c5,cf⟩:=HC9.out.X
 simp only[StC.sv,StC.kv,StC.mv] at c0 c1 c2 c3 c4 c5
 obtain⟨q0,q1,q2,q3,q4⟩:=HC9.out.Q
 dsimp only at q0 q1 q2 q3 q4
 obtain⟨z0,z1,z2,z3,z4,z5,zf⟩:=HC9.out.Z
 simp only[zeroC10,StC.sv,StC.kv,StC.mv,List.length_nil] at z0 z1 z2 z3 z4 z5
 obtain⟨⟨r0,r1,r2,r3⟩,rf⟩:=HC9.out.R _ (Below.refl _ _)
 refine wp_region_held_drew (S:=(fun W=>((W.cell? ⟨nb,0,none⟩=some (.int .i64 xt)/\W.cell? ⟨nb,1,none⟩=some (.int .i64 xn)/\W.cell? ⟨nb,2,none⟩=some (.int .i64 xk))/\W.cell? ⟨nb,3,none⟩=some (.slice sa xS.length sc)/\W.cell? ⟨nb,4,none⟩=some (.slice ka xK.length kc)/\W.cell? ⟨nb,5,none⟩=some (.slice ma xM.length mc))/\W.cell? ⟨bt,2,none⟩=some (.int .i64 zk)/\W.cell? ⟨bt,3,none⟩=some (.int .i64 zn)/\W.cell? ⟨bt,4,none⟩=some (.int .i64 zd)/\W.cell? ⟨bt,5,none⟩=some (.slice za zl.length zp))) (by kernel_rfl) (⟨(HC9.out.X.later (Below.refl _ W9).drew).cells,HM9.out.drew⟩) (fun hHeld=>?_)
 refine wpAnyH_take (i:=0) (v:=?_) rfl (by kernel_rfl) (by kernel_rfl) (by kernel_rfl) (fun _ _ _ h=>h) (Or.inl ⟨by rfl,?_⟩) (by assumption) ?_
 rotate_left
 ·intro w hSw;(try dsimp only at hSw);go_simp<;>with_reducible rfl
 try simp only[Act.put,getElem_toArray,getElem_cons_zero,setIfInBounds_toArray,set_cons_zero,set_cons_succ]
 refine wpAnyH_take (i:=1) (v:=?_) rfl (by kernel_rfl) (by kernel_rfl) (by kernel_rfl) (fun _ _ _ h=>h) (Or.inl ⟨by rfl,?_⟩) (by assumption) ?_
 rotate_left
 ·intro w hSw;(try dsimp only at hSw);go_simp<;>with_reducible rfl
 try simp only[Act.put,getElem_toArray,getElem_cons_succ,getElem_cons_zero,setIfInBounds_toArray,set_cons_zero,set_cons_succ]
 refine wpAnyH_take (i:=2) (v:=?_) rfl (by kernel_rfl) (by kernel_rfl) (by kernel_rfl) (fun _ _ _ h=>h) (Or.inl ⟨by rfl,?_⟩) (by assumption) ?_
 rotate_left
 ·intro w hSw;(try dsimp only at hSw);go_simp<;>with_reducible rfl
 try simp only[Act.put,getElem_toArray,getElem_cons_succ,getElem_cons_zero,setIfInBounds_toArray,set_cons_zero,set_cons_succ]
 refine wpAnyH_ready (rs:= [3]) (by kernel_rfl) (by simp) ?_
 refine AllReadyH.cons rfl (fun K hK=>?_) AllReadyH.nil
 go_simp
 refine hK.out _ _ ((⟨((HC9.out.X.other6 (show nb+2≠nb by omega) (.int .i64 xt) (.int .i64 xn) (.int .i64 xk) (.slice sa xS.length sc) (.slice ka xK.length kc) (.slice ma xM.length mc)).later (Below.refl _ _).drew).cells,(HM9.out.other6 (show nb+2≠bt by omega) (.int .i64 xt) (.int .i64 xn) (.int .i64 xk) (.slice sa xS.length sc) (.slice ka xK.length kc) (.slice ma xM.length mc)).drew⟩)) (fun hHeld=>?_)
 clear hK K
 try simp only[Act.put,getElem_toArray,getElem_cons_succ,getElem_cons_zero,setIfInBounds_toArray,set_cons_zero,set_cons_succ]
 refine wpAnyH_ready (rs:= [4]) (by kernel_rfl) (by simp) ?_
 refine AllReadyH.cons rfl (fun K hK=>?_) AllReadyH.nil
 go_simp
 refine hK.out _ _ ((⟨(((HC9.out.X.other6 (show nb+2≠nb by omega) (.int .i64 xt) (.int .i64 xn) (.int .i64 xk) (.slice sa xS.length sc) (.slice ka xK.length kc) (.slice ma xM.length mc)).other4 (show nb+3≠nb by omega) (.int .i64 zk) (.int .i64 zn) (.int .i64 zd) (.slice za zl.length zp)).later (Below.refl _ _).drew).cells,((HM9.out.other6 (show nb+2≠bt by omega) (.int .i64 xt) (.int .i64 xn) (.int .i64 xk) (.slice sa xS.length sc) (.slice ka xK.length kc) (.slice ma xM.length mc)).other4 (show nb+3≠bt by omega) (.int .i64 zk) (.int .i64 zn) (.int .i64 zd) (.slice za zl.length zp)).drew⟩)) (fun hHeld=>?_)
 clear hK K
 try simp only[Act.put,getElem_toArray,getElem_cons_succ,getElem_cons_zero,setIfInBounds_toArray,set_cons_zero,set_cons_succ]
 refine wpAnyH_take (i:=5) (v:=?_) rfl (by kernel_rfl) (by kernel_rfl) (by kernel_rfl) (fun _ _ _ h=>h) (Or.inl ⟨by rfl,?_⟩) (by assumption) ?_
 rotate_left
 ·intro w hSw;(try dsimp only at hSw);go_simp<;>with_reducible rfl
 try simp only[Act.put,getElem_toArray,getElem_cons_succ,getElem_cons_zero,setIfInBounds_toArray,set_cons_zero,set_cons_succ]
 refine wpAnyH_done (by kernel_rfl) ?_ _
 have HBE:=hid (set4k (below_set6 HC9.out.B (nb+2) (by have:=HNB.out;omega) (.int .i64 xt) (.int .i64 xn) (.int .i64 xk) (.slice sa xS.length sc) (.slice ka xK.length kc) (.slice ma xM.length mc)) (nb+3) (by have:=HNB.out;omega) (.int .i64 zk) (.int .i64 zn) (.int .i64 zd) (.slice za zl.length zp)).drew
 have HFE:=hid (((FromS.set4 (FromS.set6 HC9.out.F (show nb+2<HI from by omega) (.int .i64 xt) (.int .i64 xn) (.int .i64 xk) (.slice sa xS.length sc) (.slice ka xK.length kc) (.slice ma xM.length mc)) (show nb+3<HI from hlt3) (.int .i64 zk) (.int .i64 zn) (.int .i64 zd) (.slice za zl.length zp)).lower hHI).later (Below.refl _ _).drew)
 have HOE:=hid (((HH9.out.set6 (show nb+2<HI from by omega) (.int .i64 xt) (.int .i64 xn) (.int .i64 xk) (.slice sa xS.length sc) (.slice ka xK.length kc) (.slice ma xM.length mc)).set4 hlt3 (.int .i64 zk) (.int .i64 zn) (.int .i64 zd) (.slice za zl.length zp)).later (Below.refl _ _).drew)
 go_wp2
 refine bodyPost_ret (by simp [results,Tryz.results16,go_sem,z0,z1,z2,z3,z4,z5,zf,r0,r1,r2,r3,rf]<;>rfl) rfl ?_
 rw[HRF.out]
 exact⟨⟨xt,xn,xk,xS,sa,sc,xK,ka,kc,xM,ma,mc⟩,za,zp,rfl,rfl,HFE.out,HOE.out.rd HBE.out,HBE.out⟩
theorem RefApply_any (x:StC) (r:ReqV) (w:World) (h:RdSt w x) (hR:Rst x.v):Calls Tryz.prog 16 #[stVal x,reqVal r] w (GetsAp (applyA x.v r) x w):=by
 have hk9:x.K.length<=900:=by have:=(good_small (L:=x.K) hR.good).1;omega
 cases hma:mayR r with
 | false=>exact Apply_arg x r w h hR.small hk9 hR.num hR.memos hma
 | true=>
  by_cases hfo:freshM (valsM x.M) r.client r.seq<0
  ·exact Apply_old x r w h hR.small hk9 hR.num hR.memos hma hfo
  by_cases hfn:freshM (valsM x.M) r.client r.seq=0
  ·exact Apply_same x r w h hR hma hfn
  ·exact Apply_new x r w h hR.small hk9 hR.num hR.memos hma hfo hfn
end Cm
end Go.Proofs.YtclcgkpfcogcdaaGreat

/- Contracts: package memo's Right. -/
set_option linter.unusedVariables false
set_option maxRecDepth 8000
set_option linter.unusedSimpArgs false
namespace Go.Proofs.YtclcgkpfcogcdaaGreat
open Lib (hid)
open Go.RowKit Go.Shelf
namespace Cm

set_option maxHeartbeats 4000000 in
theorem MemRight_any (v:Value) (L:List MemC) (w:World) (h:RdM w v L):Calls Tryz.prog 49 #[v] w (SaysB (rightM (valsM L)) w):=by
 have hm:=h.len
 obtain⟨a,cap,rfl⟩:=h.form
 have HA:=hid (fun i hi=>rdm_at h.row i hi)
 have HM:Hid (∀i (hi:i<L.length) (w':World),Below w.heap.size w w'->Calls Tryz.prog 96 #[ansVal L[i].m L[i].hv] w' (SaysB (mayA L[i].m) w')):=hid fun i hi w' hb=>RepMayAnswer_any _ _ w' ((h.held _ (List.getElem_mem hi)).later hb)
 have W1:=hid (fun j hj=>wrongM_may (l:=valsM L) (j:=j) (hj:=hj))
 have W3:=hid (fun j hj=>wrongM_up (l:=valsM L) (j:=j) (hj:=hj))
 have HR:=hid (rightM_of (valsM L))
 have HVG:Hid (∀i (h:i<L.length) (h':i<(valsM L).length),(valsM L)[i]=L[i].m):=hid (valsM_get L)
 have HVL:=hid (valsM_length L)
 clear h
 generalize valsM L=V at*
 obtain⟨N,hL⟩: ∃N,L.length=N:=⟨_,rfl⟩
 have HLL:=hid hL
 rw[hL] at hm HVL ⊢
 clear hL
 go_enter Tryz.func49,Tryz.ntmps49
 go_wp2
 go_loopw [7] (fun i wr=> ∃j:Nat,j<=N/\i= .int .i64 j/\Hid (Below w.heap.size w wr)/\Hid (∀q (hq:q<V.length),q<j->mayA V[q]=true/\ ∀p (hp:p+1=q),(V[p]'(by omega)).client <V[q].client)) (fun i _=>N - (intOf i).toNat)
 case atStart=>exact⟨0,by omega,rfl,hid (Below.refl _ _),hid (fun q hq h=>absurd h (Nat.not_lt_zero _))⟩
 case round=>
  obtain⟨j,hj,rfl,HB,HG⟩:=hrel
  by_cases hlt:j<N
  ·have hjl:j<L.length:=by rw[HLL.out];exact hlt
   have hjv:j<V.length:=by rw[HVL.out];exact hlt
   have HJ:=hid hjv
   obtain⟨b,o,rfl,hc⟩:=HA.out j hjl
   obtain⟨q0,q1,q2,q3,q4,q5⟩:=hc _ HB.out
   have HC:Hid (∀i (hi:i<V.length) (w':World),Below w.heap.size w w'->w'.cell? ⟨b,o+i*6,none⟩=some (.int .i64 V[i].client)):=hid fun i hi w' hb=>by
    have hi':i<L.length:=by rw[HLL.out,<-HVL.out];exact hi
    obtain⟨b',o',e,hc'⟩:=HA.out i hi'
    cases e
    have:=(hc' w' hb).1
    rw[HVG.out i hi' hi]
    exact this
   have K1:=W1.out j hjv
   have HN:mayA (V[j]'hjv)=true->(∀p (hp:p+1=j) (hpl:p<V.length),V[p].client <(V[j]'hjv).client)-> ∀q (hq:q<V.length),q<j+1->mayA V[q]=true/\ ∀p (hp:p+1=q),(V[p]'(by omega)).client <V[q].client :=fun a1 a3 q hq hqj=>by
    by_cases e:q=j
    ·subst e;exact⟨a1,fun p hp=>a3 p hp (by omega)⟩
    ·exact HG.out q hq (by omega)
   have K3: ∀p (hp:p+1=j) (hpl:p<V.length),(V[j]'hjv).client <=V[p].client ->rightM V=false:=fun p hp _ hle=>by
    subst hp
    exact W3.out p hjv hle
   have KI:=fun w' hb=>HM.out j hjl w' hb
   rw[HVG.out j hjl hjv] at K1 HN K3
   clear hc W1 W3 HM HA HG
   generalize L[j]=x at q0 q1 q2 q3 q4 q5 K1 K3 HN KI
   clear hjl hjv
   obtain⟨⟨xc,xs,xk,xn,xd,xl⟩,xa,xp⟩:=x
   unfold ansVal MemC.hv at KI
   unfold MemC.hv at q5
   dsimp only at q0 q1 q2 q3 q4 q5 K1 K3 HN KI
   have KI:=hid KI
   have f1:(0:Int)<=(j:Int):=by omega
   have f2:(j:Int)<(N:Int):=by omega
   generalize xl.length=XN at*
   go_upto_region 4 with fail
   obtain⟨W2,hW2⟩: ∃W2,W2=wr.alloc (.cells #[.int .i64 xc,.int .i64 xs,.int .i64 xk,.int .i64 xn,.int .i64 xd,.slice xa XN xp] 51):=⟨_,rfl⟩
   have HB2:Hid (Below w.heap.size w W2):=hid (by rw[hW2];exact step HB.out (newAlloc _ _))
   have hz:=box6 (Below.refl _ (wr.alloc (.cells #[.int .i64 xc,.int .i64 xs,.int .i64 xk,.int .i64 xn,.int .i64 xd,.slice xa XN xp] 51)))
   rw[<-hW2] at hz ⊢
   clear hW2
   have HZ:Hid (∀w',Below W2.heap.size W2 w'->w'.cell? ⟨wr.heap.size,0,none⟩=some (.int .i64 xc)):=hid fun w' hb=>(hb.cell (lt_of_cell hz.1)).trans hz.1
   obtain⟨z0,z1,z2,z3,z4,z5⟩:=hz
   have KD:=hid (KI.out W2 HB2.out)
   clear KI q1 q2 q3 q4 q5 q0
   cases n1:mayA ⟨xc,xs,⟨xk,xn,xd,xl⟩⟩
   case false=>
    have HE:=hid (K1 n1)
    rw[n1] at KD
    clear n1 HN K1 K3 HC
    go_wp2_with (go_at_call 96;refine KD.out.mono ?_;rintro e w3 ⟨rfl,hb3⟩)
    go_ret
    exact⟨by rw[HE.out];rfl,step HB2.out hb3⟩
   rw[n1] at KD
   have HN2:=hid (HN n1)
   have HK3:=hid K3
   clear n1 HN K1 K3
   go_upto_region 6 with (go_at_call 96;refine KD.out.mono ?_;rintro e w3 ⟨rfl,hb3⟩)
   have HB3:=hid (step HB2.out hb3)
   have k0:=cell_regrown (HZ.out _ hb3)
   clear hb3 z0 z1 z2 z3 z4 z5 KD
   have hjc:j=0\/ ∃p,j=p+1:=by rcases j with _ | p;exact .inl rfl;exact .inr ⟨p,rfl⟩
   rcases hjc with rfl | ⟨p,rfl⟩
   case inl=>
    have HN3:=hid (HN2.out (fun p hp _=>by omega))
    clear HN2 HK3 HC
    refine wp_region_quiet_below (by kernel_rfl) (by kernel_rfl) ?_
    repeat (go_big_quiet_step (fail))
    refine wpQuiet_nil ?_
    intro _ hw'
    obtain⟨⟨dq,osq⟩,hw''⟩:=hw'
    subst hw''
    have HBF:=hid (step HB3.out (below_regrown w3 dq osq))
    go_wp2
    go_roundw
    case rel=>exact⟨1,by omega,by go_num,HBF,HN3⟩
    case measure=>simp [intOf];omega
   case inr=>
    have hpl:p<V.length:=by have:=HJ.out;omega
    have K4:=HK3.out p rfl hpl
    have HC2:=HC.out p hpl w3 HB3.out
    have HN3:(V[p]'hpl).client <xc->_:=fun q=>HN2.out (fun r hr _=>by cases hr;exact q)
    clear HN2 HK3 HC
    generalize (V[p]'hpl).client =pc at K4 HC2 HN3
    have g0:=cell_regrown HC2
    have g1:IntKind.i64.wrap (((p+1:Nat):Int) - 1)=(p:Int):=by rw[IntKind.wrap_i64];omega
    have g2:(0:Int)<=(p:Int):=by omega
    have g3:(p:Int)<(N:Int):=by omega
    have g4:decide ((0:Int)<((p+1:Nat):Int))=true:=decide_eq_true (by omega)
    clear HC2
    by_cases e1:xc<=pc
    ·have d1:decide (xc<=pc)=true:=decide_eq_true e1
     have HE:=hid (K4 e1)
     clear e1 K4 HN3
     refine wp_region_quiet_below (by kernel_rfl) (by kernel_rfl) ?_
     repeat (go_big_quiet_step (fail))
     refine wpQuiet_nil ?_
     intro _ hw'
     obtain⟨⟨dq,osq⟩,hw''⟩:=hw'
     subst hw''
     go_wp2
     go_ret
     exact⟨by rw[HE.out];rfl,step HB3.out (below_regrown w3 dq osq)⟩
    ·have d1:decide (xc<=pc)=false:=decide_eq_false e1
     have HN4:=hid (HN3 (by omega))
     clear e1 K4 HN3
     refine wp_region_quiet_below (by kernel_rfl) (by kernel_rfl) ?_
     repeat (go_big_quiet_step (fail))
     refine wpQuiet_nil ?_
     intro _ hw'
     obtain⟨⟨dq,osq⟩,hw''⟩:=hw'
     subst hw''
     have HBF:=hid (step HB3.out (below_regrown w3 dq osq))
     go_wp2
     go_roundw
     case rel=>exact⟨p+2,by omega,by go_num,HBF,HN4⟩
     case measure=>simp [intOf];omega
  ·obtain rfl:j=N:=by omega
   have hr:=HR.out (fun q hq=>(HG.out q hq (by rw[<-HVL.out];exact hq)).1) (fun q hq=>(HG.out (q+1) hq (by rw[<-HVL.out];exact hq)).2 q rfl)
   have HE:=hid hr
   clear hr W1 W3
   go_wp2
   go_ret
   exact⟨by rw[HE.out];rfl,HB.out⟩
end Cm
end Go.Proofs.YtclcgkpfcogcdaaGreat
