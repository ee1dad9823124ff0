/- Texts laid together by program. -/
import Derived.Test.YtlnbmblbeaodcaaGreatQS37
import Derived.Test.YtlnbmblbeaodcaaGreatQS43
import Derived.Deep.RegionHeld3
import Derived.Laws.CopyOwn
import Derived.Lib.Overlaps
import Derived.Lib.AppendZerosOnto
import Derived.Shelf.RegionOpenPlain
import Derived.ProofKit
import Derived.OpenShut
import Derived.Deep.Strs
import Derived.Deep.Slices
import Derived.Lib.SmallJoins
/- Contract: padlockref6's Apply, all ways (made by tools/gen_aucg.py). -/
set_option linter.unusedVariables false
set_option maxRecDepth 8000
set_option linter.unusedSimpArgs false
namespace Go.Proofs.YtlnbmblbeaodcaaGreat
open Lib (hid)
open List (getElem_toArray getElem_cons_succ getElem_cons_zero setIfInBounds_toArray set_cons_zero set_cons_succ)
open Go.RowKit Go.Shelf
namespace Cm

structure CurA (w:World) (HI nb:Nat) (r:ReqV) (x y:StC) (W:World):Prop where
 sz:HI<=W.heap.size
 X:BoxS W nb y
 Q:BoxR W (nb+1) r
 Z:BoxS W (nb+2) zeroC10
 R:EmptyR W (nb+3)
 F:FromS HI W x y
 B:Below w.heap.size w W
theorem CurA.later {w W W':World} {HI nb:Nat} {r:ReqV} {x y:StC} (h:CurA w HI nb r x y W) (hb:Below W.heap.size W W'):CurA w HI nb r x y W':=
 ⟨Nat.le_trans h.sz hb.size,h.X.later hb,h.Q.later hb,h.Z.later hb,h.R.later hb,h.F.later hb,step h.B hb⟩
theorem CurA.set3 {w W:World} {HI nb:Nat} {r:ReqV} {x y:StC} (h:CurA w HI nb r x y W) (hw:w.heap.size=nb) (hl:nb+3<HI) (S:List SesV) (a:Option Addr) (p:Nat) {base:Nat} (hb:HI<=base) (ho:W.ownsRow base 73 3 (.slice a S.length p) S.length (flatX cellsS S)):
  CurA w HI nb r x { y with S:=S,sa:=a,sc:=p } (W.setCell ⟨nb,3,none⟩ (.slice a S.length p)):=
 ⟨by simpa using h.sz,h.X.set3 S a p,h.Q.other (by omega) 3 _,h.Z.other (by omega) 3 _,h.R.other (by omega) 3 _,FromS.setBelow (y:= { y with S:=S,sa:=a,sc:=p }) ⟨.inr (own_lowerX ho hb),h.F.k,h.F.m⟩ (by omega) 3 _,h.B.setCell (Nat.le_of_eq hw) _⟩
theorem CurA.put {w W:World} {HI nb:Nat} {r:ReqV} {x y:StC} (h:CurA w HI nb r x y W) (hw:w.heap.size=nb) (hl:nb+3<HI) (z:StC) {base:Nat} (hb:HI<=base) (hF:FromS base W y z):
  CurA w HI nb r x z ((((((W.setCell ⟨nb,0,none⟩ (.int .i64 z.time)).setCell ⟨nb,1,none⟩ (.int .i64 z.num)).setCell ⟨nb,2,none⟩ (.int .i64 z.token)).setCell ⟨nb,3,none⟩ (.slice z.sa z.S.length z.sc)).setCell ⟨nb,4,none⟩ (.slice z.ka z.K.length z.kc)).setCell ⟨nb,5,none⟩ (.slice z.ma z.M.length z.mc)):=
 ⟨by simpa using h.sz,h.X.put _ _ _ _ _ _ _ _ _ _ _ _,h.Q.other6 (by omega) _ _ _ _ _ _,h.Z.other6 (by omega) _ _ _ _ _ _,h.R.other6 (by omega) _ _ _ _ _ _,(h.F.trans (hF.lower hb)).set6 (by omega) _ _ _ _ _ _,below_set6 h.B nb (Nat.le_of_eq hw) _ _ _ _ _ _⟩
theorem CurA.z {w W:World} {HI nb:Nat} {r:ReqV} {x y:StC} (h:CurA w HI nb r x y W):CurZ w HI nb x y W:=⟨h.sz,h.Z,h.R,h.F,h.B⟩
def FourM (w:World) (b:Nat) (v0 v1 v2 v3:Value):Prop:=w.cell? ⟨b,2,none⟩=some v0/\w.cell? ⟨b,3,none⟩=some v1/\w.cell? ⟨b,4,none⟩=some v2/\w.cell? ⟨b,5,none⟩=some v3
theorem FourM.drew {w:World} {b:Nat} {v0 v1 v2 v3:Value} (h:FourM w b v0 v1 v2 v3):FourM w.drew b v0 v1 v2 v3:=h
theorem FourM.other {w:World} {b g:Nat} {v0 v1 v2 v3:Value} (h:FourM w b v0 v1 v2 v3) (hg:g≠b) (j:Nat) (v:Value):FourM (w.setCell ⟨g,j,none⟩ v) b v0 v1 v2 v3:=by
 have hn: ∀k,(w.setCell ⟨g,j,none⟩ v).cell? ⟨b,k,none⟩=w.cell? ⟨b,k,none⟩:=fun k=>by
  simp only[World.cell?]
  rw[Below.heap_setCell w ⟨g,j,none⟩ v b (fun q=>hg (by have:b=g:=q;exact this.symm))]
 exact⟨(hn 2).trans h.1,(hn 3).trans h.2.1,(hn 4).trans h.2.2.1,(hn 5).trans h.2.2.2⟩
theorem FourM.other4 {w:World} {b g:Nat} {v0 v1 v2 v3:Value} (h:FourM w b v0 v1 v2 v3) (hg:g≠b) (x0 x1 x2 x3:Value):FourM ((((w.setCell ⟨g,0,none⟩ x0).setCell ⟨g,1,none⟩ x1).setCell ⟨g,2,none⟩ x2).setCell ⟨g,3,none⟩ x3) b v0 v1 v2 v3:=
 (((h.other hg 0 x0).other hg 1 x1).other hg 2 x2).other hg 3 x3
theorem FourM.other6 {w:World} {b g:Nat} {v0 v1 v2 v3:Value} (h:FourM w b v0 v1 v2 v3) (hg:g≠b) (x0 x1 x2 x3 x4 x5:Value):FourM ((((((w.setCell ⟨g,0,none⟩ x0).setCell ⟨g,1,none⟩ x1).setCell ⟨g,2,none⟩ x2).setCell ⟨g,3,none⟩ x3).setCell ⟨g,4,none⟩ x4).setCell ⟨g,5,none⟩ x5) b v0 v1 v2 v3:=
 (((((h.other hg 0 x0).other hg 1 x1).other hg 2 x2).other hg 3 x3).other hg 4 x4).other hg 5 x5
def HeldOk (HI:Nat) (w W:World) (v:Value) (l:List GrantV):Prop:=(∀V,Below w.heap.size w V->RdH V v l)\/W.ownsRow HI 141 2 v l.length (flatX cellsG l)
theorem HeldOk.later {HI:Nat} {w W W':World} {v:Value} {l:List GrantV} (h:HeldOk HI w W v l) (hb:Below W.heap.size W W'):HeldOk HI w W' v l:=h.imp id fun q=>Rw.own_below q hb
theorem HeldOk.set4 {HI:Nat} {w W:World} {v:Value} {l:List GrantV} (h:HeldOk HI w W v l) {g:Nat} (hg:g<HI) (v0 v1 v2 v3:Value):HeldOk HI w ((((W.setCell ⟨g,0,none⟩ v0).setCell ⟨g,1,none⟩ v1).setCell ⟨g,2,none⟩ v2).setCell ⟨g,3,none⟩ v3) v l:=h.imp id fun q=>own_set4z q hg _ _ _ _
theorem HeldOk.set6 {HI:Nat} {w W:World} {v:Value} {l:List GrantV} (h:HeldOk HI w W v l) {g:Nat} (hg:g<HI) (v0 v1 v2 v3 v4 v5:Value):HeldOk HI w ((((((W.setCell ⟨g,0,none⟩ v0).setCell ⟨g,1,none⟩ v1).setCell ⟨g,2,none⟩ v2).setCell ⟨g,3,none⟩ v3).setCell ⟨g,4,none⟩ v4).setCell ⟨g,5,none⟩ v5) v l:=h.imp id fun q=>own_set6z q hg _ _ _ _ _ _
theorem HeldOk.rd {HI:Nat} {w W:World} {v:Value} {l:List GrantV} (h:HeldOk HI w W v l) (hb:Below w.heap.size w W):RdH W v l:=by
 rcases h with q | q
 ·exact q W hb
 ·exact RdH.of (RdX.own cellsG_length q)
theorem heldOk_of {HI base:Nat} {w W W':World} {x y:StC} (hF:FromS HI W x y) (hx: ∀V,Below w.heap.size w V->RdSt V x) (hb:Below W.heap.size W W') (hbase:HI<=base) {z:MemC}
  (h:z∈y.M\/W'.ownsRow base 141 2 z.hv z.m.rep.held.length (flatX cellsG z.m.rep.held)):HeldOk HI w W' z.hv z.m.rep.held:=by
 rcases h with q | q
 ·rcases hF.m with ⟨p1,_,_⟩ | ⟨_,p⟩
  ·rw[p1] at q
   exact .inl fun V hV=>(hx V hV).m.held z q
  ·rcases p z q with r | r
   ·exact .inl fun V hV=>(hx V hV).m.held z r
   ·exact .inr (Rw.own_below r hb)
 ·exact .inr (own_lowerX q hbase)
set_option maxHeartbeats 8000000 in
theorem Apply_same (x:StC) (r:ReqV) (w:World) (h:RdSt w x) (hR:Rst x.v) (hma:mayR r=true) (hfs:freshM (valsM x.M) r.client r.seq=0):Calls Tryz.prog 15 #[stVal x,reqVal r] w (GetsAp (applyA x.v r) x w):=by
 obtain⟨W1,hW1⟩: ∃W1,W1=w.alloc (.cells #[.int .i64 x.time,.int .i64 x.num,.int .i64 x.token,x.sv,x.kv,x.mv] 26):=⟨_,rfl⟩
 have hb1:Below w.heap.size w W1:=by rw[hW1];exact newAlloc _ _
 have hB1:BoxS W1 w.heap.size x:=by rw[hW1];exact BoxS.new w x _
 have hs1:W1.heap.size=w.heap.size+1:=by rw[hW1];simp
 obtain⟨W2,hW2⟩: ∃W2,W2=W1.alloc (.cells #[.int .i64 r.client,.int .i64 r.seq,.int .i64 r.cmd.kind,.int .i64 r.cmd.session,.string (bstr r.cmd.name)] 30):=⟨_,rfl⟩
 have hb2:Below W1.heap.size W1 W2:=by rw[hW2];exact newAlloc _ _
 have hQ:BoxR W2 (w.heap.size+1) r:=by rw[<-hs1,hW2];exact BoxR.new W1 r _
 have hs2:W2.heap.size=w.heap.size+2:=by rw[hW2];simp [hs1]
 obtain⟨W3,hW3⟩: ∃W3,W3=W2.alloc (.cells #[.int .i64 0,.int .i64 0,.int .i64 0,.slice none 0 0,.slice none 0 0,.slice none 0 0] 26):=⟨_,rfl⟩
 have hb3:Below W2.heap.size W2 W3:=by rw[hW3];exact newAlloc _ _
 have hZ:BoxS W3 (w.heap.size+2) zeroC10:=by rw[<-hs2,hW3];exact BoxS.new W2 zeroC10 _
 have hs3:W3.heap.size=w.heap.size+3:=by rw[hW3];simp [hs2]
 obtain⟨W4,hW4⟩: ∃W4,W4=W3.alloc (.cells #[.int .i64 0,.int .i64 0,.int .i64 0,.slice none 0 0] 36):=⟨_,rfl⟩
 have hb4:Below W3.heap.size W3 W4:=by rw[hW4];exact newAlloc _ _
 have hER:EmptyR W4 (w.heap.size+3):=by rw[<-hs3,hW4];exact EmptyR.new W3
 have hs4:W4.heap.size=w.heap.size+4:=by rw[hW4];simp [hs3]
 have hCU:CurA w W4.heap.size w.heap.size r x x W4:=⟨Nat.le_refl _,hB1.later (step hb2 (step hb3 hb4)),hQ.later (step hb3 hb4),hZ.later hb4,hER,FromS.refl _ _ _,step hb1 (step hb2 (step hb3 hb4))⟩
 have HRD:Hid (∀W,Below w.heap.size w W->RdSt W x):=hid fun W hb=>h.later hb
 have HRR:=hid hR
 have HSM:=hid hR.small
 obtain⟨HI,hHI'⟩: ∃HI,W4.heap.size=HI:=⟨_,rfl⟩
 obtain⟨nb,hnb⟩: ∃nb,w.heap.size=nb:=⟨_,rfl⟩
 have HNB:=hid hnb
 have hlt3:nb+3<HI:=by omega
 have hHI:w.heap.size<=HI:=by omega
 rw[hHI'] at hCU
 have HC0:Hid (CurA w HI nb r x x W4):=hid (by rw[hnb] at hCU;exact hCU)
 clear hCU hnb h hR hb1 hb2 hb3 hb4 hB1 hZ hQ hER hs1 hs2 hs3 hs4 hHI'
 obtain⟨R,hRV⟩: ∃R,applyA x.v r=R:=⟨_,rfl⟩
 have HRV:=hid hRV
 rw[hRV]
 clear hRV
 have KM:=hid (fun W=>RefMayReq_any r W)
 obtain⟨xt,xn,xk,xS,sa,sc,xK,ka,kc,xM,ma,mc⟩:=x
 obtain⟨rc,rs,⟨rk,rn,rm⟩⟩:=r
 unfold stVal reqVal
 unfold reqVal at KM
 simp only[StC.sv,StC.kv,StC.mv] at hW1 ⊢
 dsimp only at hW2 KM
 obtain⟨c0,c1,c2,c3,c4,c5,cf⟩:=HC0.out.X
 simp only[StC.sv,StC.kv,StC.mv] at c0 c1 c2 c3 c4 c5
 obtain⟨q0,q1,q2,q3,q4⟩:=HC0.out.Q
 dsimp only at q0 q1 q2 q3 q4
 dsimp only at hfs
 go_enter Tryz.func15,Tryz.ntmps15
 go_upto_region 1 with fail
 rw[<-hW1,<-hW2,<-hW3,<-hW4]
 rw[HNB.out]
 try rw[show nb+1+1+1=nb+3 from rfl]
 try rw[show nb+1+1=nb+2 from rfl]
 clear hW1 hW2 hW3 hW4
 have HC5:=HC0
 have HRU:=HRR
 have HRV5:=HRV
 have HRDU:Hid (∀W,Below W4.heap.size W4 W->RdSt W ⟨xt,xn,xk,xS,sa,sc,xK,ka,kc,xM,ma,mc⟩):=hid fun W hb=>HRD.out W (step HC0.out.B hb)
 clear HRV HSM
 have KFU:=hid (fun W (hb:Below W4.heap.size W4 W)=>RefFresh_any (.slice ma xM.length mc) xM rc rs W (HRDU.out W hb).m)
 obtain⟨fr,hfr⟩: ∃fr,freshM (valsM xM) rc rs=fr:=⟨_,rfl⟩
 rw[hfr] at KFU
 have HFR:=hid hfr
 clear hfr
 have hnlt: ¬freshM (valsM xM) rc rs<0:=by rw[hfs];omega
 have KL:=hid (fun W (hb:Below W4.heap.size W4 W)=>RefLast_x (.slice ma xM.length mc) xM rc W (HRDU.out W hb).m)
 have HLS:Hid (R=(StC.v ⟨xt,xn,xk,xS,sa,sc,xK,ka,kc,xM,ma,mc⟩,(lastM (valsM xM) rc).1.rep,false)):=hid (by
  rw[<-HRV5.out]
  unfold applyA
  exact(if_neg (fun q=>Bool.noConfusion (hma.symm.trans q))).trans ((if_neg hnlt).trans (if_pos hfs)))
 obtain⟨⟨lm,lb⟩,hlm⟩: ∃l,lastM (valsM xM) rc=l:=⟨_,rfl⟩
 rw[hlm] at KL HLS
 dsimp only at HLS
 clear hlm hnlt
 obtain⟨mr,hmr⟩: ∃mr,mayR ⟨rc,rs,⟨rk,rn,rm⟩⟩=mr:=⟨_,rfl⟩
 rw[hmr] at KM
 have hm0:mr=true:=by rw[<-hmr];exact hma
 subst hm0
 go_upto_region 3 with (go_at_call 56;refine(KM.out W4).mono ?_;rintro e w6 ⟨rfl,hb6⟩;have HB56:=hid hb6;clear hb6)
 have HC6:=hid (HC5.out.later HB56.out)
 clear hmr KM
 clear c0 c1 c2 c3 c4 c5 cf q0 q1 q2 q3 q4
 obtain⟨c0,c1,c2,c3,c4,c5,cf⟩:=HC6.out.X
 simp only[StC.sv,StC.kv,StC.mv] at c0 c1 c2 c3 c4 c5
 obtain⟨q0,q1,q2,q3,q4⟩:=HC6.out.Q
 dsimp only at q0 q1 q2 q3 q4
 go_upto_region 4 with (go_at_call 57;refine(KFU.out w6 HB56.out).mono ?_;rintro e w7 ⟨rfl,hb7⟩;have HB67:=hid hb7;clear hb7)
 have HC7:=hid (HC6.out.later HB67.out)
 have HB57:=hid (step HB56.out HB67.out)
 clear KFU
 clear c0 c1 c2 c3 c4 c5 cf q0 q1 q2 q3 q4
 obtain⟨c0,c1,c2,c3,c4,c5,cf⟩:=HC7.out.X
 simp only[StC.sv,StC.kv,StC.mv] at c0 c1 c2 c3 c4 c5
 obtain⟨q0,q1,q2,q3,q4⟩:=HC7.out.Q
 dsimp only at q0 q1 q2 q3 q4
 have hfe:fr=0:=by rw[<-HFR.out];exact hfs
 have g1:decide (fr<0)=false:=by simp [hfe]
 have g2:(fr==(0:Int))=true:=by simpa using hfe
 clear hfe
 go_upto_region 8 with (go_at_call 58;refine(KL.out w7 HB57.out).mono ?_;rintro e w8 ⟨⟨⟨zc,zs,zk,zn,zd,zl⟩,za,zp⟩,he,hm8,ho8,hb8⟩;unfold memVal MemC.hv at he;dsimp only at he hm8;subst he;have HM8:=hid hm8;have HO8:=hid ho8;have HB78:=hid hb8;clear hm8 ho8 hb8)
 obtain⟨W9,hW9⟩: ∃W9,W9=w8.alloc (.cells #[.int .i64 zc,.int .i64 zs,.int .i64 zk,.int .i64 zn,.int .i64 zd,.slice za zl.length zp] 76):=⟨_,rfl⟩
 have HB89:Hid (Below w8.heap.size w8 W9):=hid (by rw[hW9];exact newAlloc _ _)
 have HB79:Hid (Below w7.heap.size w7 W9):=hid (step HB78.out HB89.out)
 have hm9:FourM W9 w8.heap.size (.int .i64 zk) (.int .i64 zn) (.int .i64 zd) (.slice za zl.length zp):=by
  rw[hW9]
  obtain⟨_,_,q2,q3,q4,q5⟩:=box6 (Below.refl _ (w8.alloc (.cells #[.int .i64 zc,.int .i64 zs,.int .i64 zk,.int .i64 zn,.int .i64 zd,.slice za zl.length zp] 76)))
  exact⟨q2,q3,q4,q5⟩
 rw[<-hW9]
 have HC9:=hid (HC7.out.later HB79.out)
 have HH9:Hid (HeldOk HI w W9 (.slice za zl.length zp) zl):=hid ((heldOk_of HC7.out.F HRD.out HB78.out HC7.out.sz HO8.out).later HB89.out)
 obtain⟨bt,hbt⟩: ∃bt,w8.heap.size=bt:=⟨_,rfl⟩
 have hltb:nb+3<bt:=by have:=HB78.out.size;have:=HC7.out.sz;omega
 have HM9:Hid (FourM W9 bt (.int .i64 zk) (.int .i64 zn) (.int .i64 zd) (.slice za zl.length zp)):=hid (by rw[<-hbt];exact hm9)
 rw[hbt]
 have HRF:Hid (R=(StC.v ⟨xt,xn,xk,xS,sa,sc,xK,ka,kc,xM,ma,mc⟩,⟨zk,zn,zd,zl⟩,false)):=hid (by rw[HLS.out,<-HM8.out])
 clear hW9 hbt hm9 hfs hma
 clear c0 c1 c2 c3 c4 c5 cf q0 q1 q2 q3 q4
 obtain⟨c0,c1,c2,c3,c4,c5,cf⟩:=HC9.out.X
 simp only[StC.sv,StC.kv,StC.mv] at c0 c1 c2 c3 c4 c5
 obtain⟨q0,q1,q2,q3,q4⟩:=HC9.out.Q
 dsimp only at q0 q1 q2 q3 q4
 obtain⟨z0,z1,z2,z3,z4,z5,zf⟩:=HC9.out.Z
 simp only[zeroC10,StC.sv,StC.kv,StC.mv,List.length_nil] at z0 z1 z2 z3 z4 z5
 obtain⟨⟨r0,r1,r2,r3⟩,rf⟩:=HC9.out.R _ (Below.refl _ _)
 refine wp_region_held_drew (S:=(fun W=>((W.cell? ⟨nb,0,none⟩=some (.int .i64 xt)/\W.cell? ⟨nb,1,none⟩=some (.int .i64 xn)/\W.cell? ⟨nb,2,none⟩=some (.int .i64 xk))/\W.cell? ⟨nb,3,none⟩=some (.slice sa xS.length sc)/\W.cell? ⟨nb,4,none⟩=some (.slice ka xK.length kc)/\W.cell? ⟨nb,5,none⟩=some (.slice ma xM.length mc))/\W.cell? ⟨bt,2,none⟩=some (.int .i64 zk)/\W.cell? ⟨bt,3,none⟩=some (.int .i64 zn)/\W.cell? ⟨bt,4,none⟩=some (.int .i64 zd)/\W.cell? ⟨bt,5,none⟩=some (.slice za zl.length zp))) (by kernel_rfl) (⟨(HC9.out.X.later (Below.refl _ W9).drew).cells,HM9.out.drew⟩) (fun hHeld=>?_)
 refine wpAnyH_take (i:=0) (v:=?_) rfl (by kernel_rfl) (by kernel_rfl) (by kernel_rfl) (fun _ _ _ h=>h) (Or.inl ⟨by rfl,?_⟩) (by assumption) ?_
 rotate_left
 ·intro w hSw;(try dsimp only at hSw);go_simp<;>with_reducible rfl
 try simp only[Act.put,getElem_toArray,getElem_cons_zero,setIfInBounds_toArray,set_cons_zero,set_cons_succ]
 refine wpAnyH_take (i:=1) (v:=?_) rfl (by kernel_rfl) (by kernel_rfl) (by kernel_rfl) (fun _ _ _ h=>h) (Or.inl ⟨by rfl,?_⟩) (by assumption) ?_
 rotate_left
 ·intro w hSw;(try dsimp only at hSw);go_simp<;>with_reducible rfl
 try simp only[Act.put,getElem_toArray,getElem_cons_succ,getElem_cons_zero,setIfInBounds_toArray,set_cons_zero,set_cons_succ]
 refine wpAnyH_take (i:=2) (v:=?_) rfl (by kernel_rfl) (by kernel_rfl) (by kernel_rfl) (fun _ _ _ h=>h) (Or.inl ⟨by rfl,?_⟩) (by assumption) ?_
 rotate_left
 ·intro w hSw;(try dsimp only at hSw);go_simp<;>with_reducible rfl
 try simp only[Act.put,getElem_toArray,getElem_cons_succ,getElem_cons_zero,setIfInBounds_toArray,set_cons_zero,set_cons_succ]
 refine wpAnyH_ready (rs:= [3]) (by kernel_rfl) (by simp) ?_
 refine AllReadyH.cons rfl (fun K hK=>?_) AllReadyH.nil
 go_simp
 refine hK.out _ _ ((⟨((HC9.out.X.other6 (show nb+2≠nb by omega) (.int .i64 xt) (.int .i64 xn) (.int .i64 xk) (.slice sa xS.length sc) (.slice ka xK.length kc) (.slice ma xM.length mc)).later (Below.refl _ _).drew).cells,(HM9.out.other6 (show nb+2≠bt by omega) (.int .i64 xt) (.int .i64 xn) (.int .i64 xk) (.slice sa xS.length sc) (.slice ka xK.length kc) (.slice ma xM.length mc)).drew⟩)) (fun hHeld=>?_)
 clear hK K
 try simp only[Act.put,getElem_toArray,getElem_cons_succ,getElem_cons_zero,setIfInBounds_toArray,set_cons_zero,set_cons_succ]
 refine wpAnyH_ready (rs:= [4]) (by kernel_rfl) (by simp) ?_
 refine AllReadyH.cons rfl (fun K hK=>?_) AllReadyH.nil
 go_simp
 refine hK.out _ _ ((⟨(((HC9.out.X.other6 (show nb+2≠nb by omega) (.int .i64 xt) (.int .i64 xn) (.int .i64 xk) (.slice sa xS.length sc) (.slice ka xK.length kc) (.slice ma xM.length mc)).other4 (show nb+3≠nb by omega) (.int .i64 zk) (.int .i64 zn) (.int .i64 zd) (.slice za zl.length zp)).later (Below.refl _ _).drew).cells,((HM9.out.other6 (show nb+2≠bt by omega) (.int .i64 xt) (.int .i64 xn) (.int .i64 xk) (.slice sa xS.length sc) (.slice ka xK.length kc) (.slice ma xM.length mc)).other4 (show nb+3≠bt by omega) (.int .i64 zk) (.int .i64 zn) (.int .i64 zd) (.slice za zl.length zp)).drew⟩)) (fun hHeld=>?_)
 clear hK K
 try simp only[Act.put,getElem_toArray,getElem_cons_succ,getElem_cons_zero,setIfInBounds_toArray,set_cons_zero,set_cons_succ]
 refine wpAnyH_take (i:=5) (v:=?_) rfl (by kernel_rfl) (by kernel_rfl) (by kernel_rfl) (fun _ _ _ h=>h) (Or.inl ⟨by rfl,?_⟩) (by assumption) ?_
 rotate_left
 ·intro w hSw;(try dsimp only at hSw);go_simp<;>with_reducible rfl
 try simp only[Act.put,getElem_toArray,getElem_cons_succ,getElem_cons_zero,setIfInBounds_toArray,set_cons_zero,set_cons_succ]
 refine wpAnyH_done (by kernel_rfl) ?_ _
 have HBE:=hid (set4k (below_set6 HC9.out.B (nb+2) (by have:=HNB.out;omega) (.int .i64 xt) (.int .i64 xn) (.int .i64 xk) (.slice sa xS.length sc) (.slice ka xK.length kc) (.slice ma xM.length mc)) (nb+3) (by have:=HNB.out;omega) (.int .i64 zk) (.int .i64 zn) (.int .i64 zd) (.slice za zl.length zp)).drew
 have HFE:=hid (((FromS.set4 (FromS.set6 HC9.out.F (show nb+2<HI from by omega) (.int .i64 xt) (.int .i64 xn) (.int .i64 xk) (.slice sa xS.length sc) (.slice ka xK.length kc) (.slice ma xM.length mc)) (show nb+3<HI from hlt3) (.int .i64 zk) (.int .i64 zn) (.int .i64 zd) (.slice za zl.length zp)).lower hHI).later (Below.refl _ _).drew)
 have HOE:=hid (((HH9.out.set6 (show nb+2<HI from by omega) (.int .i64 xt) (.int .i64 xn) (.int .i64 xk) (.slice sa xS.length sc) (.slice ka xK.length kc) (.slice ma xM.length mc)).set4 hlt3 (.int .i64 zk) (.int .i64 zn) (.int .i64 zd) (.slice za zl.length zp)).later (Below.refl _ _).drew)
 go_wp2
 refine bodyPost_ret (by simp [results,Tryz.results15,go_sem,z0,z1,z2,z3,z4,z5,zf,r0,r1,r2,r3,rf]<;>rfl) rfl ?_
 rw[HRF.out]
 exact⟨⟨xt,xn,xk,xS,sa,sc,xK,ka,kc,xM,ma,mc⟩,za,zp,rfl,rfl,HFE.out,HOE.out.rd HBE.out,HBE.out⟩
theorem RefApply_any (x:StC) (r:ReqV) (w:World) (h:RdSt w x) (hR:Rst x.v):Calls Tryz.prog 15 #[stVal x,reqVal r] w (GetsAp (applyA x.v r) x w):=by
 have hk9:x.K.length<=900:=by have:=(good_small (L:=x.K) hR.good).1;omega
 cases hma:mayR r with
 | false=>exact Apply_arg x r w h hR.small hk9 hR.num hR.memos hma
 | true=>
  by_cases hfo:freshM (valsM x.M) r.client r.seq<0
  ·exact Apply_old x r w h hR.small hk9 hR.num hR.memos hma hfo
  by_cases hfn:freshM (valsM x.M) r.client r.seq=0
  ·exact Apply_same x r w h hR hma hfn
  ·exact Apply_new x r w h hR.small hk9 hR.num hR.memos hma hfo hfn
end Cm
end Go.Proofs.YtlnbmblbeaodcaaGreat

/- Contract: package auto's Apply (made by tools/gen_aucg.py). -/
set_option linter.unusedVariables false
set_option maxRecDepth 8000
set_option linter.unusedSimpArgs false
namespace Go.Proofs.YtlnbmblbeaodcaaGreat
open Lib (hid)
open Go.RowKit Go.Shelf
namespace Cm

theorem heap_set4 (w:World) (b:Nat) (v0 v1 v2 v3:Value) {g:Nat} (hg:g≠b):((((w.setCell ⟨b,0,none⟩ v0).setCell ⟨b,1,none⟩ v1).setCell ⟨b,2,none⟩ v2).setCell ⟨b,3,none⟩ v3).heap[g]?=w.heap[g]?:=by
 rw[Below.heap_setCell _ ⟨b,3,none⟩ v3 g hg,Below.heap_setCell _ ⟨b,2,none⟩ v2 g hg,Below.heap_setCell _ ⟨b,1,none⟩ v1 g hg,Below.heap_setCell _ ⟨b,0,none⟩ v0 g hg]
theorem heap_set6 (w:World) (b:Nat) (v0 v1 v2 v3 v4 v5:Value) {g:Nat} (hg:g≠b):((((((w.setCell ⟨b,0,none⟩ v0).setCell ⟨b,1,none⟩ v1).setCell ⟨b,2,none⟩ v2).setCell ⟨b,3,none⟩ v3).setCell ⟨b,4,none⟩ v4).setCell ⟨b,5,none⟩ v5).heap[g]?=w.heap[g]?:=by
 rw[Below.heap_setCell _ ⟨b,5,none⟩ v5 g hg,Below.heap_setCell _ ⟨b,4,none⟩ v4 g hg,Below.heap_setCell _ ⟨b,3,none⟩ v3 g hg,Below.heap_setCell _ ⟨b,2,none⟩ v2 g hg,Below.heap_setCell _ ⟨b,1,none⟩ v1 g hg,Below.heap_setCell _ ⟨b,0,none⟩ v0 g hg]
theorem own_keepB {W V:World} {base:Nat} {e:TypeId} {size n:Nat} {v:Value} {xs:List Value} (h:W.ownsRow base e size v n xs) (hk: ∀g,base<=g->g<W.heap.size->V.heap[g]?=W.heap[g]?):V.ownsRow base e size v n xs:=
 Rw.own_keep h fun g hg=>hk g (Rw.own_lt h g hg).1 (Rw.own_lt h g hg).2
theorem FromS.keepB {base:Nat} {W V:World} {x y:StC} (h:FromS base W x y) (hk: ∀g,base<=g->g<W.heap.size->V.heap[g]?=W.heap[g]?):FromS base V x y:=by
 refine⟨h.s.imp id fun q=>own_keepB q hk,h.k.imp id fun q=>⟨own_keepB q.row hk,fun z hz=>?_⟩,h.m.imp id fun q=>⟨own_keepB q.1 hk,fun z hz=>(q.2 z hz).imp id fun r=>own_keepB r hk⟩⟩
 refine(q.line z hz).keep fun g hg=>?_
 obtain⟨h1,cs,h2⟩:=(q.line z hz).2 g hg
 exact hk g h1 (Array.getElem?_eq_some_iff.1 h2).1
theorem CurA.set5 {w W:World} {HI nb:Nat} {r:ReqV} {x y:StC} (h:CurA w HI nb r x y W) (hw:w.heap.size=nb) (hl:nb+3<HI) (M:List MemC) (a:Option Addr) (p:Nat) {base:Nat} (hb:HI<=base) (ho:OwnM base W (.slice a M.length p) M):
  CurA w HI nb r x { y with M:=M,ma:=a,mc:=p } (W.setCell ⟨nb,5,none⟩ (.slice a M.length p)):=
 ⟨by simpa using h.sz,h.X.set5 M a p,h.Q.other (by omega) 5 _,h.Z.other (by omega) 5 _,h.R.other (by omega) 5 _,FromS.setBelow (y:= { y with M:=M,ma:=a,mc:=p }) ⟨h.F.s,h.F.k,.inr ⟨own_lowerX ho.row hb,fun z hz=>.inr (own_lowerX (ho.held z hz) hb)⟩⟩ (by omega) 5 _,h.B.setCell (Nat.le_of_eq hw) _⟩
end Cm
end Go.Proofs.YtlnbmblbeaodcaaGreat
