/- Texts laid together by program. -/
import Derived.Test.YtclcgkpfcogcdaaGreatQ36
import Derived.Deep.RegionHeld3
/- Contract: package auto's execute (made by tools/gen_aucf.py). -/
set_option linter.unusedVariables false
set_option maxRecDepth 8000
set_option linter.unusedSimpArgs false
namespace Go.Proofs.YtclcgkpfcogcdaaGreat
open Lib (hid)
open List (getElem_toArray getElem_cons_succ getElem_cons_zero setIfInBounds_toArray set_cons_zero set_cons_succ)
open Go.RowKit Go.Shelf
namespace Cm

structure BoxC (w:World) (b:Nat) (m:CmdV):Prop where
 c0:w.cell? ⟨b,0,none⟩=some (.int .i64 m.kind)
 c1:w.cell? ⟨b,1,none⟩=some (.int .i64 m.session)
 c2:w.cell? ⟨b,2,none⟩=some (.string (bstr m.name))
theorem BoxC.later {w w':World} {b:Nat} {m:CmdV} (h:BoxC w b m) (hb:Below w.heap.size w w'):BoxC w' b m:=
 ⟨(hb.cell (lt_of_cell h.c0)).trans h.c0,(hb.cell (lt_of_cell h.c1)).trans h.c1,(hb.cell (lt_of_cell h.c2)).trans h.c2⟩
theorem BoxC.new (w:World) (m:CmdV) (t:TypeId):BoxC (w.alloc (.cells #[.int .i64 m.kind,.int .i64 m.session,.string (bstr m.name)] t)) w.heap.size m:=by
 refine⟨?_,?_,?_⟩<;>simp [go_sem]
theorem BoxC.other {w:World} {b g:Nat} {m:CmdV} (h:BoxC w b m) (hg:g≠b) (j:Nat) (v:Value):BoxC (w.setCell ⟨g,j,none⟩ v) b m:=by
 obtain⟨c0,c1,c2⟩:=h
 have hn: ∀k,(w.setCell ⟨g,j,none⟩ v).cell? ⟨b,k,none⟩=w.cell? ⟨b,k,none⟩:=fun k=>by
  simp only[World.cell?]
  rw[Below.heap_setCell w ⟨g,j,none⟩ v b (fun q=>hg (by have:b=g:=q;exact this.symm))]
 exact⟨(hn 0).trans c0,(hn 1).trans c1,(hn 2).trans c2⟩
theorem BoxC.other6 {w:World} {b g:Nat} {m:CmdV} (h:BoxC w b m) (hg:g≠b) (v0 v1 v2 v3 v4 v5:Value):BoxC ((((((w.setCell ⟨g,0,none⟩ v0).setCell ⟨g,1,none⟩ v1).setCell ⟨g,2,none⟩ v2).setCell ⟨g,3,none⟩ v3).setCell ⟨g,4,none⟩ v4).setCell ⟨g,5,none⟩ v5) b m:=
 (((((h.other hg 0 v0).other hg 1 v1).other hg 2 v2).other hg 3 v3).other hg 4 v4).other hg 5 v5
theorem EmptyR.other6 {w:World} {b g:Nat} (h:EmptyR w b) (hg:g≠b) (v0 v1 v2 v3 v4 v5:Value):EmptyR ((((((w.setCell ⟨g,0,none⟩ v0).setCell ⟨g,1,none⟩ v1).setCell ⟨g,2,none⟩ v2).setCell ⟨g,3,none⟩ v3).setCell ⟨g,4,none⟩ v4).setCell ⟨g,5,none⟩ v5) b:=
 (((((h.other hg 0 v0).other hg 1 v1).other hg 2 v2).other hg 3 v3).other hg 4 v4).other hg 5 v5
structure CurE (w:World) (HI nb:Nat) (m:CmdV) (x y:StC) (W:World):Prop where
 sz:HI<=W.heap.size
 X:BoxS W nb y
 Q:BoxC W (nb+1) m
 Z:BoxS W (nb+2) zeroC10
 R:EmptyR W (nb+3)
 F:FromS HI W x y
 B:Below w.heap.size w W
theorem CurE.later {w W W':World} {HI nb:Nat} {m:CmdV} {x y:StC} (h:CurE w HI nb m x y W) (hb:Below W.heap.size W W'):CurE w HI nb m x y W':=
 ⟨Nat.le_trans h.sz hb.size,h.X.later hb,h.Q.later hb,h.Z.later hb,h.R.later hb,h.F.later hb,step h.B hb⟩
theorem CurE.set3 {w W:World} {HI nb:Nat} {m:CmdV} {x y:StC} (h:CurE w HI nb m x y W) (hw:w.heap.size=nb) (hl:nb+3<HI) (S:List SesV) (a:Option Addr) (p:Nat) {base:Nat} (hb:HI<=base) (ho:W.ownsRow base 46 3 (.slice a S.length p) S.length (flatX cellsS S)):
  CurE w HI nb m x { y with S:=S,sa:=a,sc:=p } (W.setCell ⟨nb,3,none⟩ (.slice a S.length p)):=
 ⟨by simpa using h.sz,h.X.set3 S a p,h.Q.other (by omega) 3 _,h.Z.other (by omega) 3 _,h.R.other (by omega) 3 _,FromS.setBelow (y:= { y with S:=S,sa:=a,sc:=p }) ⟨.inr (own_lowerX ho hb),h.F.k,h.F.m⟩ (by omega) 3 _,h.B.setCell (Nat.le_of_eq hw) _⟩
theorem CurE.put {w W:World} {HI nb:Nat} {m:CmdV} {x y:StC} (h:CurE w HI nb m x y W) (hw:w.heap.size=nb) (hl:nb+3<HI) (z:StC) {base:Nat} (hb:HI<=base) (hF:FromS base W y z):
  CurE w HI nb m x z ((((((W.setCell ⟨nb,0,none⟩ (.int .i64 z.time)).setCell ⟨nb,1,none⟩ (.int .i64 z.num)).setCell ⟨nb,2,none⟩ (.int .i64 z.token)).setCell ⟨nb,3,none⟩ (.slice z.sa z.S.length z.sc)).setCell ⟨nb,4,none⟩ (.slice z.ka z.K.length z.kc)).setCell ⟨nb,5,none⟩ (.slice z.ma z.M.length z.mc)):=
 ⟨by simpa using h.sz,h.X.put _ _ _ _ _ _ _ _ _ _ _ _,h.Q.other6 (by omega) _ _ _ _ _ _,h.Z.other6 (by omega) _ _ _ _ _ _,h.R.other6 (by omega) _ _ _ _ _ _,(h.F.trans (hF.lower hb)).set6 (by omega) _ _ _ _ _ _,below_set6 h.B nb (Nat.le_of_eq hw) _ _ _ _ _ _⟩
structure CurZ (w:World) (HI nb:Nat) (x y:StC) (W:World):Prop where
 sz:HI<=W.heap.size
 Z:BoxS W (nb+2) zeroC10
 R:EmptyR W (nb+3)
 F:FromS HI W x y
 B:Below w.heap.size w W
theorem CurE.z {w W:World} {HI nb:Nat} {m:CmdV} {x y:StC} (h:CurE w HI nb m x y W):CurZ w HI nb x y W:=⟨h.sz,h.Z,h.R,h.F,h.B⟩
theorem rdi_one (w:World) (c:Int):RdI (w.alloc (.cells #[.int .i64 c] 3)) (.slice (some ⟨w.heap.size,0,none⟩) 1 1) [c]:=by
 refine RdX.own cellsI_length (base:=w.heap.size) (e:=3) ⟨by simp [flatX,cellsI],.inr ⟨w.heap.size,1,#[.int .i64 c],rfl,Nat.le_refl _,?_,by simp,by unfold maxLen;omega,by simp,by simp [flatX,cellsI]⟩⟩
 show(w.heap.push _)[w.heap.size]?= _
 simp
set_option maxHeartbeats 8000000 in
theorem Exec_open (x:StC) (c:Int) (m:CmdV) (w:World) (h:RdSt w x) (hR:Rst x.v) (hc:clientF c=true) (hm:mayF m=true) (hn:x.num<2305843009213693900) (ht:x.token<2305843009213693900) (hk:m.kind=1):Calls Tryz.prog 60 #[stVal x,.int .i64 c,.agg #[.int .i64 m.kind,.int .i64 m.session,.string (bstr m.name)]] w (GetsSR (execA x.v c m) x w):=by
 obtain⟨W1,hW1⟩: ∃W1,W1=w.alloc (.cells #[.int .i64 x.time,.int .i64 x.num,.int .i64 x.token,x.sv,x.kv,x.mv] 26):=⟨_,rfl⟩
 have hb1:Below w.heap.size w W1:=by rw[hW1];exact newAlloc _ _
 have hB1:BoxS W1 w.heap.size x:=by rw[hW1];exact BoxS.new w x _
 have hs1:W1.heap.size=w.heap.size+1:=by rw[hW1];simp
 obtain⟨W2,hW2⟩: ∃W2,W2=W1.alloc (.cells #[.int .i64 m.kind,.int .i64 m.session,.string (bstr m.name)] 28):=⟨_,rfl⟩
 have hb2:Below W1.heap.size W1 W2:=by rw[hW2];exact newAlloc _ _
 have hQ:BoxC W2 (w.heap.size+1) m:=by rw[<-hs1,hW2];exact BoxC.new W1 m _
 have hs2:W2.heap.size=w.heap.size+2:=by rw[hW2];simp [hs1]
 obtain⟨W3,hW3⟩: ∃W3,W3=W2.alloc (.cells #[.int .i64 0,.int .i64 0,.int .i64 0,.slice none 0 0,.slice none 0 0,.slice none 0 0] 26):=⟨_,rfl⟩
 have hb3:Below W2.heap.size W2 W3:=by rw[hW3];exact newAlloc _ _
 have hZ:BoxS W3 (w.heap.size+2) zeroC10:=by rw[<-hs2,hW3];exact BoxS.new W2 zeroC10 _
 have hs3:W3.heap.size=w.heap.size+3:=by rw[hW3];simp [hs2]
 obtain⟨W4,hW4⟩: ∃W4,W4=W3.alloc (.cells #[.int .i64 0,.int .i64 0,.int .i64 0,.slice none 0 0] 36):=⟨_,rfl⟩
 have hb4:Below W3.heap.size W3 W4:=by rw[hW4];exact newAlloc _ _
 have hER:EmptyR W4 (w.heap.size+3):=by rw[<-hs3,hW4];exact EmptyR.new W3
 have hs4:W4.heap.size=w.heap.size+4:=by rw[hW4];simp [hs3]
 have hCU:CurE w W4.heap.size w.heap.size m x x W4:=⟨Nat.le_refl _,hB1.later (step hb2 (step hb3 hb4)),hQ.later (step hb3 hb4),hZ.later hb4,hER,FromS.refl _ _ _,step hb1 (step hb2 (step hb3 hb4))⟩
 have HRD:Hid (∀W,Below w.heap.size w W->RdSt W x):=hid fun W hb=>h.later hb
 have HRR:=hid hR
 have HSM:=hid hR.small
 obtain⟨HI,hHI'⟩: ∃HI,W4.heap.size=HI:=⟨_,rfl⟩
 obtain⟨nb,hnb⟩: ∃nb,w.heap.size=nb:=⟨_,rfl⟩
 have HNB:=hid hnb
 have hlt3:nb+3<HI:=by omega
 have hHI:w.heap.size<=HI:=by omega
 rw[hHI'] at hCU
 have HC0:Hid (CurE w HI nb m x x W4):=hid (by rw[hnb] at hCU;exact hCU)
 clear hCU hnb h hb1 hb2 hb3 hb4 hB1 hZ hQ hER hs1 hs2 hs3 hs4 hHI'
 obtain⟨R,hRV⟩: ∃R,execA x.v c m=R:=⟨_,rfl⟩
 have HRV:=hid hRV
 rw[hRV]
 clear hRV
 have KO:=hid (fun W (hb:Below w.heap.size w W)=>AutoOpen_any x c W (HRD.out W hb) HSM.out ⟨by omega,HRR.out.num.1⟩)
 obtain⟨xt,xn,xk,xS,sa,sc,xK,ka,kc,xM,ma,mc⟩:=x
 obtain⟨rk,rn,rm⟩:=m
 unfold stVal
 simp only[StC.sv,StC.kv,StC.mv] at hW1 KO ⊢
 dsimp only at hW2 hm hn ht
 obtain⟨c0,c1,c2,c3,c4,c5,cf⟩:=HC0.out.X
 simp only[StC.sv,StC.kv,StC.mv] at c0 c1 c2 c3 c4 c5
 obtain⟨q0,q1,q2⟩:=HC0.out.Q
 dsimp only at q0 q1 q2
 unfold stVal at KO
 simp only[StC.sv,StC.kv,StC.mv] at KO
 have d1:(rk==(1:Int))=true:=by simpa using hk
 have hRE:R=((open1 (StC.v ⟨xt,xn,xk,xS,sa,sc,xK,ka,kc,xM,ma,mc⟩) c).1,tellA (open1 (StC.v ⟨xt,xn,xk,xS,sa,sc,xK,ka,kc,xM,ma,mc⟩) c).1 c 0 (open1 (StC.v ⟨xt,xn,xk,xS,sa,sc,xK,ka,kc,xM,ma,mc⟩) c).2):=by
  rw[<-HRV.out]
  unfold execA
  exact if_pos hk
 have HOG:Hid (Good (open1 (StC.v ⟨xt,xn,xk,xS,sa,sc,xK,ka,kc,xM,ma,mc⟩) c).1.locks (open1 (StC.v ⟨xt,xn,xk,xS,sa,sc,xK,ka,kc,xM,ma,mc⟩) c).1.token):=hid (by
  unfold open1
  split
  ·exact HRR.out.good
  ·exact HRR.out.good)
 obtain⟨⟨oS,oc⟩,hO⟩: ∃o,open1 (StC.v ⟨xt,xn,xk,xS,sa,sc,xK,ka,kc,xM,ma,mc⟩) c=o:=⟨_,rfl⟩
 rw[hO] at KO hRE HOG
 dsimp only at hRE HOG
 have HRE0:=hid hRE
 clear hO hRE hk
 go_enter Tryz.func60,Tryz.ntmps60
 go_upto_region 1 with fail
 rw[<-hW1,<-hW2,<-hW3,<-hW4]
 rw[HNB.out]
 clear hW1 hW2 hW3 hW4
 go_upto_region 3 with (go_at_call 115;refine(KO.out _ HC0.out.B).mono ?_;rintro e w5 ⟨⟨yt,yn,yk,yS,ya,yc,yK,yka,ykc,yM,yma,ymc⟩,he,hv5,hf5,hb5⟩;unfold stVal at he;simp only[StC.sv,StC.kv,StC.mv] at he;subst he;have HV5:=hid hv5;have HF5:=hid hf5;have HB45:=hid hb5;clear hv5 hf5 hb5)
 obtain⟨W6,hW6⟩: ∃W6,W6=w5.alloc (.cells #[.int .i64 yt,.int .i64 yn,.int .i64 yk,.slice ya yS.length yc,.slice yka yK.length ykc,.slice yma yM.length ymc] 26):=⟨_,rfl⟩
 have HB46:Hid (Below W4.heap.size W4 W6):=hid (by rw[hW6];exact stepAlloc HB45.out _)
 have HB56:Hid (Below w5.heap.size w5 W6):=hid (by rw[hW6];exact newAlloc _ _)
 have HX6:Hid (BoxS W6 w5.heap.size ⟨yt,yn,yk,yS,ya,yc,yK,yka,ykc,yM,yma,ymc⟩):=hid (by rw[hW6];exact BoxS.new w5 ⟨yt,yn,yk,yS,ya,yc,yK,yka,ykc,yM,yma,ymc⟩ _)
 rw[<-hW6]
 clear hW6
 have h0:=HC0.out.later HB46.out
 have HC6:Hid (CurE w HI nb ⟨rk,rn,rm⟩ ⟨xt,xn,xk,xS,sa,sc,xK,ka,kc,xM,ma,mc⟩ ⟨yt,yn,yk,yS,ya,yc,yK,yka,ykc,yM,yma,ymc⟩ W6->True):=hid fun _=>trivial
 have HF6:Hid (FromS HI W6 ⟨xt,xn,xk,xS,sa,sc,xK,ka,kc,xM,ma,mc⟩ ⟨yt,yn,yk,yS,ya,yc,yK,yka,ykc,yM,yma,ymc⟩):=hid ((HF5.out.lower HC0.out.sz).later HB56.out)
 have HCC:Hid (CurZ w HI nb ⟨xt,xn,xk,xS,sa,sc,xK,ka,kc,xM,ma,mc⟩ ⟨yt,yn,yk,yS,ya,yc,yK,yka,ykc,yM,yma,ymc⟩ W6):=hid ⟨h0.sz,h0.Z,h0.R,HF6.out,h0.B⟩
 obtain⟨bt,hbt⟩: ∃bt,w5.heap.size=bt:=⟨_,rfl⟩
 have hltb:nb+3<bt:=by have:=HB45.out.size;have:=HC0.out.sz;omega
 rw[hbt] at HX6 ⊢
 clear hbt h0 HC6 c0 c1 c2 c3 c4 c5 cf q0 q1 q2
 obtain⟨c0,c1,c2,c3,c4,c5,cf⟩:=HX6.out
 simp only[StC.sv,StC.kv,StC.mv] at c0 c1 c2 c3 c4 c5
 have HGD:Hid (Good (vals yK) yk):=hid (by
  have e1:=congrArg StV.locks HV5.out
  have e2:=congrArg StV.token HV5.out
  have e1:vals yK=oS.locks:=e1
  have e2:yk=oS.token:=e2
  rw[e1,e2]
  exact HOG.out)
 have HRE:Hid (R=(StC.v ⟨yt,yn,yk,yS,ya,yc,yK,yka,ykc,yM,yma,ymc⟩,tellA (StC.v ⟨yt,yn,yk,yS,ya,yc,yK,yka,ykc,yM,yma,ymc⟩) c 0 oc)):=hid (by rw[HV5.out];exact HRE0.out)
 obtain⟨⟨dc,dn,da,dh⟩,hD⟩: ∃D,tellA (StC.v ⟨yt,yn,yk,yS,ya,yc,yK,yka,ykc,yM,yma,ymc⟩) c 0 oc=D:=⟨_,rfl⟩
 have KT:=hid (fun W (hb:Below W6.heap.size W6 W)=>AutoTell_any ⟨yt,yn,yk,yS,ya,yc,yK,yka,ykc,yM,yma,ymc⟩ c 0 oc W ((HCC.out.F.later hb).rd (HRD.out W (step HCC.out.B hb))) HGD.out hc)
 rw[hD] at KT
 unfold GetsTold stVal at KT
 simp only[StC.sv,StC.kv,StC.mv] at KT
 have HDD:=hid hD
 clear hD
 refine wp_region_held_drew (S:=(fun W=>(W.cell? ⟨bt,0,none⟩=some (.int .i64 yt)/\W.cell? ⟨bt,1,none⟩=some (.int .i64 yn)/\W.cell? ⟨bt,2,none⟩=some (.int .i64 yk))/\W.cell? ⟨bt,3,none⟩=some (.slice ya yS.length yc)/\W.cell? ⟨bt,4,none⟩=some (.slice yka yK.length ykc)/\W.cell? ⟨bt,5,none⟩=some (.slice yma yM.length ymc))) (by kernel_rfl) ((HX6.out.later (Below.refl _ W6).drew).cells) (fun hHeld=>?_)
 refine wpAnyH_take (i:=0) (v:=?_) rfl (by kernel_rfl) (by kernel_rfl) (by kernel_rfl) (fun _ _ _ h=>h) (Or.inl ⟨by rfl,?_⟩) (by assumption) ?_
 rotate_left
 ·intro w hSw;(try dsimp only at hSw);go_simp<;>with_reducible rfl
 try simp only[Act.put,getElem_toArray,getElem_cons_zero,setIfInBounds_toArray,set_cons_zero,set_cons_succ]
 refine wpAnyH_take (i:=1) (v:=?_) rfl (by kernel_rfl) (by kernel_rfl) (by kernel_rfl) (fun _ _ _ h=>h) (Or.inl ⟨by rfl,?_⟩) (by assumption) ?_
 rotate_left
 ·intro w hSw;(try dsimp only at hSw);go_simp<;>with_reducible rfl
 try simp only[Act.put,getElem_toArray,getElem_cons_succ,getElem_cons_zero,setIfInBounds_toArray,set_cons_zero,set_cons_succ]
 refine wpAnyH_take (i:=2) (v:=?_) rfl (by kernel_rfl) (by kernel_rfl) (by kernel_rfl) (fun _ _ _ h=>h) (Or.inl ⟨by rfl,?_⟩) (by assumption) ?_
 rotate_left
 ·intro w hSw;(try dsimp only at hSw);go_simp<;>with_reducible rfl
 try simp only[Act.put,getElem_toArray,getElem_cons_succ,getElem_cons_zero,setIfInBounds_toArray,set_cons_zero,set_cons_succ]
 refine wpAnyH_take (i:=3) (v:=?_) rfl (by kernel_rfl) (by kernel_rfl) (by kernel_rfl) (fun _ _ _ h=>h) (Or.inl ⟨by rfl,?_⟩) (by assumption) ?_
 rotate_left
 ·intro w hSw;(try dsimp only at hSw);go_simp<;>with_reducible rfl
 try simp only[Act.put,getElem_toArray,getElem_cons_succ,getElem_cons_zero,setIfInBounds_toArray,set_cons_zero,set_cons_succ]
 refine wpAnyH_ready (rs:= [4]) (by kernel_rfl) (by simp) ?_
 refine AllReadyH.cons rfl (fun K hK=>?_) AllReadyH.nil
 go_simp
 go_at_call 116
 refine(KT.out W6.drew (Below.refl _ W6).drew).mono ?_
 rintro e w5 ⟨a5,p5,rfl,ho5,hb5⟩
 have HO5:=hid ho5
 have HB5:Hid (Below W6.heap.size W6 w5):=hid (step (Below.refl W6.heap.size W6).drew hb5)
 obtain⟨z0,z1,z2,z3,z4,z5,zf⟩:=HCC.out.Z.later HB5.out
 simp only[zeroC10,StC.sv,StC.kv,StC.mv,List.length_nil] at z0 z1 z2 z3 z4 z5
 obtain⟨⟨r0,r1,r2,r3⟩,rf⟩:=HCC.out.R _ HB5.out
 clear ho5 hb5
 refine hK.out _ _ ((HX6.out.later HB5.out).cells) (fun hHeld=>?_)
 clear hK K
 try simp only[Act.put,getElem_toArray,getElem_cons_succ,getElem_cons_zero,setIfInBounds_toArray,set_cons_zero,set_cons_succ]
 refine wpAnyH_ready (rs:= [5]) (by kernel_rfl) (by simp) ?_
 refine AllReadyH.cons rfl (fun K hK=>?_) AllReadyH.nil
 go_simp
 refine hK.out _ _ (((HX6.out.later HB5.out).other6 (show nb+2≠bt by omega) _ _ _ _ _ _).cells) (fun hHeld=>?_)
 clear hK K
 try simp only[Act.put,getElem_toArray,getElem_cons_succ,getElem_cons_zero,setIfInBounds_toArray,set_cons_zero,set_cons_succ]
 refine wpAnyH_ready (rs:= [6]) (by kernel_rfl) (by simp) ?_
 refine AllReadyH.cons rfl (fun K hK=>?_) AllReadyH.nil
 go_simp
 refine hK.out _ _ ((((HX6.out.later HB5.out).other6 (show nb+2≠bt by omega) _ _ _ _ _ _).other4 (show nb+3≠bt by omega) _ _ _ _).cells) (fun hHeld=>?_)
 clear hK K
 try simp only[Act.put,getElem_toArray,getElem_cons_succ,getElem_cons_zero,setIfInBounds_toArray,set_cons_zero,set_cons_succ]
 refine wpAnyH_done (by kernel_rfl) ?_ _
 have hl5:nb+3<W6.drew.heap.size:=Nat.lt_of_lt_of_le hlt3 HCC.out.sz
 have HOE:=hid (own_lowerX (own_set4z (own_set6z HO5.out (Nat.lt_of_succ_lt hl5) (.int .i64 yt) (.int .i64 yn) (.int .i64 yk) (.slice ya yS.length yc) (.slice yka yK.length ykc) (.slice yma yM.length ymc)) hl5 (.int .i64 dc) (.int .i64 dn) (.int .i64 da) (.slice a5 dh.length p5)) (show w.heap.size<=W6.drew.heap.size from by have:=HNB.out;omega))
 have HBE:=hid (set4k (below_set6 (step HCC.out.B HB5.out) (nb+2) (by have:=HNB.out;omega) (.int .i64 yt) (.int .i64 yn) (.int .i64 yk) (.slice ya yS.length yc) (.slice yka yK.length ykc) (.slice yma yM.length ymc)) (nb+3) (by have:=HNB.out;omega) (.int .i64 dc) (.int .i64 dn) (.int .i64 da) (.slice a5 dh.length p5))
 have HFE:=hid ((FromS.set4 (FromS.set6 (HCC.out.F.later HB5.out) (show nb+2<HI from by omega) (.int .i64 yt) (.int .i64 yn) (.int .i64 yk) (.slice ya yS.length yc) (.slice yka yK.length ykc) (.slice yma yM.length ymc)) (show nb+3<HI from hlt3) (.int .i64 dc) (.int .i64 dn) (.int .i64 da) (.slice a5 dh.length p5)).lower hHI)
 go_wp2
 refine bodyPost_ret (by simp [results,Tryz.results60,go_sem,z0,z1,z2,z3,z4,z5,zf,r0,r1,r2,r3,rf]<;>rfl) rfl ?_
 have hRE:=HRE.out
 rw[HDD.out] at hRE
 rw[hRE]
 exact⟨⟨yt,yn,yk,yS,ya,yc,yK,yka,ykc,yM,yma,ymc⟩,a5,p5,rfl,rfl,HFE.out,HOE.out,HBE.out⟩
set_option maxHeartbeats 8000000 in
theorem Exec_no (x:StC) (c:Int) (m:CmdV) (w:World) (h:RdSt w x) (hR:Rst x.v) (hc:clientF c=true) (hm:mayF m=true) (hn:x.num<2305843009213693900) (ht:x.token<2305843009213693900) (hk:m.kind≠1) (hno:(findS x.S c).2=false\/(findS x.S c).1.num ≠m.session):Calls Tryz.prog 60 #[stVal x,.int .i64 c,.agg #[.int .i64 m.kind,.int .i64 m.session,.string (bstr m.name)]] w (GetsSR (execA x.v c m) x w):=by
 obtain⟨W1,hW1⟩: ∃W1,W1=w.alloc (.cells #[.int .i64 x.time,.int .i64 x.num,.int .i64 x.token,x.sv,x.kv,x.mv] 26):=⟨_,rfl⟩
 have hb1:Below w.heap.size w W1:=by rw[hW1];exact newAlloc _ _
 have hB1:BoxS W1 w.heap.size x:=by rw[hW1];exact BoxS.new w x _
 have hs1:W1.heap.size=w.heap.size+1:=by rw[hW1];simp
 obtain⟨W2,hW2⟩: ∃W2,W2=W1.alloc (.cells #[.int .i64 m.kind,.int .i64 m.session,.string (bstr m.name)] 28):=⟨_,rfl⟩
 have hb2:Below W1.heap.size W1 W2:=by rw[hW2];exact newAlloc _ _
 have hQ:BoxC W2 (w.heap.size+1) m:=by rw[<-hs1,hW2];exact BoxC.new W1 m _
 have hs2:W2.heap.size=w.heap.size+2:=by rw[hW2];simp [hs1]
 obtain⟨W3,hW3⟩: ∃W3,W3=W2.alloc (.cells #[.int .i64 0,.int .i64 0,.int .i64 0,.slice none 0 0,.slice none 0 0,.slice none 0 0] 26):=⟨_,rfl⟩
 have hb3:Below W2.heap.size W2 W3:=by rw[hW3];exact newAlloc _ _
 have hZ:BoxS W3 (w.heap.size+2) zeroC10:=by rw[<-hs2,hW3];exact BoxS.new W2 zeroC10 _
 have hs3:W3.heap.size=w.heap.size+3:=by rw[hW3];simp [hs2]
 obtain⟨W4,hW4⟩: ∃W4,W4=W3.alloc (.cells #[.int .i64 0,.int .i64 0,.int .i64 0,.slice none 0 0] 36):=⟨_,rfl⟩
 have hb4:Below W3.heap.size W3 W4:=by rw[hW4];exact newAlloc _ _
 have hER:EmptyR W4 (w.heap.size+3):=by rw[<-hs3,hW4];exact EmptyR.new W3
 have hs4:W4.heap.size=w.heap.size+4:=by rw[hW4];simp [hs3]
 have hCU:CurE w W4.heap.size w.heap.size m x x W4:=⟨Nat.le_refl _,hB1.later (step hb2 (step hb3 hb4)),hQ.later (step hb3 hb4),hZ.later hb4,hER,FromS.refl _ _ _,step hb1 (step hb2 (step hb3 hb4))⟩
 have HRD:Hid (∀W,Below w.heap.size w W->RdSt W x):=hid fun W hb=>h.later hb
 have HRR:=hid hR
 have HSM:=hid hR.small
 obtain⟨HI,hHI'⟩: ∃HI,W4.heap.size=HI:=⟨_,rfl⟩
 obtain⟨nb,hnb⟩: ∃nb,w.heap.size=nb:=⟨_,rfl⟩
 have HNB:=hid hnb
 have hlt3:nb+3<HI:=by omega
 have hHI:w.heap.size<=HI:=by omega
 rw[hHI'] at hCU
 have HC0:Hid (CurE w HI nb m x x W4):=hid (by rw[hnb] at hCU;exact hCU)
 clear hCU hnb h hb1 hb2 hb3 hb4 hB1 hZ hQ hER hs1 hs2 hs3 hs4 hHI'
 obtain⟨R,hRV⟩: ∃R,execA x.v c m=R:=⟨_,rfl⟩
 have HRV:=hid hRV
 rw[hRV]
 clear hRV
 have KF:=hid (SesFind_any x.sv x.S c W4 (HRD.out W4 HC0.out.B).s)
 obtain⟨xt,xn,xk,xS,sa,sc,xK,ka,kc,xM,ma,mc⟩:=x
 obtain⟨rk,rn,rm⟩:=m
 unfold stVal
 simp only[StC.sv,StC.kv,StC.mv] at hW1 KF ⊢
 dsimp only at hW2 hm hn ht
 obtain⟨c0,c1,c2,c3,c4,c5,cf⟩:=HC0.out.X
 simp only[StC.sv,StC.kv,StC.mv] at c0 c1 c2 c3 c4 c5
 obtain⟨q0,q1,q2⟩:=HC0.out.Q
 dsimp only at q0 q1 q2
 dsimp only at hno
 have d1:(rk==(1:Int))=false:=by simpa using hk
 have hRE:R=(StC.v ⟨xt,xn,xk,xS,sa,sc,xK,ka,kc,xM,ma,mc⟩,⟨9,0,0,[]⟩):=by
  rw[<-HRV.out]
  unfold execA
  rw[if_neg hk]
  exact if_pos hno
 subst hRE
 clear HRV hk
 go_enter Tryz.func60,Tryz.ntmps60
 go_upto_region 1 with fail
 rw[<-hW1,<-hW2,<-hW3,<-hW4]
 rw[HNB.out]
 clear hW1 hW2 hW3 hW4
 obtain⟨⟨⟨fc,fn,fe⟩,fb⟩,hfr⟩: ∃p,findS xS c=p:=⟨_,rfl⟩
 rw[hfr] at KF
 have HFR:=hid hfr
 clear hfr
 go_upto_region 5 with (go_at_call 117;refine KF.out.mono ?_;rintro e w5 ⟨rfl,hb5⟩;unfold sesVal;dsimp only;have HB5:=hid hb5;clear hb5)
 obtain⟨W5,hW5⟩: ∃W5,W5=w5.alloc (.cells #[.int .i64 fc,.int .i64 fn,.int .i64 fe] 46):=⟨_,rfl⟩
 have HB45:Hid (Below W4.heap.size W4 W5):=hid (by rw[hW5];exact stepAlloc HB5.out _)
 have hy5:W5.cell? ⟨w5.heap.size,1,none⟩=some (.int .i64 fn):=by rw[hW5];exact(box3s (Below.refl _ _)).2.1
 rw[<-hW5]
 clear hW5
 have HC5:=hid (HC0.out.later HB45.out)
 clear c0 c1 c2 c3 c4 c5 cf q0 q1 q2 KF
 obtain⟨c0,c1,c2,c3,c4,c5,cf⟩:=HC5.out.X
 simp only[StC.sv,StC.kv,StC.mv] at c0 c1 c2 c3 c4 c5
 obtain⟨q0,q1,q2⟩:=HC5.out.Q
 dsimp only at q0 q1 q2
 obtain⟨z0,z1,z2,z3,z4,z5,zf⟩:=HC5.out.Z
 simp only[zeroC10,StC.sv,StC.kv,StC.mv,List.length_nil] at z0 z1 z2 z3 z4 z5
 obtain⟨⟨r0,r1,r2,r3⟩,rf⟩:=HC5.out.R _ (Below.refl _ _)
 have HBE:=hid (set4k (below_set6 HC5.out.B (nb+2) (by have:=HNB.out;omega) (.int .i64 xt) (.int .i64 xn) (.int .i64 xk) (.slice sa xS.length sc) (.slice ka xK.length kc) (.slice ma xM.length mc)) (nb+3) (by have:=HNB.out;omega) (.int .i64 9) (.int .i64 0) (.int .i64 0) (.slice none 0 0))
 have hor:fb=false\/(fb=true/\(fn != rn)=true):=by
  rw[HFR.out] at hno
  cases fb
  ·exact .inl rfl
  ·refine .inr ⟨rfl,?_⟩
   rcases hno with q | q
   ·cases q
   ·simpa using q
 clear hno
 rcases hor with hfb | ⟨hfb,d2⟩
 all_goals
  subst hfb
  go_wp2
  refine bodyPost_ret (by simp [results,Tryz.results60,go_sem,z0,z1,z2,z3,z4,z5,zf,r0,r1,r2,r3,rf]<;>rfl) rfl ?_
  exact⟨⟨xt,xn,xk,xS,sa,sc,xK,ka,kc,xM,ma,mc⟩,none,0,rfl,rfl,FromS.refl _ _ _,World.ownsRow_nil _ _ _ _,HBE.out⟩
set_option maxHeartbeats 8000000 in
theorem Exec_keep (x:StC) (c:Int) (m:CmdV) (w:World) (h:RdSt w x) (hR:Rst x.v) (hc:clientF c=true) (hm:mayF m=true) (hn:x.num<2305843009213693900) (ht:x.token<2305843009213693900) (hk1:m.kind≠1) (hyes:(findS x.S c).2=true/\(findS x.S c).1.num =m.session) (hk3:m.kind≠3) (hk4:m.kind≠4) (hk5:m.kind≠5) (hk6:m.kind≠6):Calls Tryz.prog 60 #[stVal x,.int .i64 c,.agg #[.int .i64 m.kind,.int .i64 m.session,.string (bstr m.name)]] w (GetsSR (execA x.v c m) x w):=by
 obtain⟨W1,hW1⟩: ∃W1,W1=w.alloc (.cells #[.int .i64 x.time,.int .i64 x.num,.int .i64 x.token,x.sv,x.kv,x.mv] 26):=⟨_,rfl⟩
 have hb1:Below w.heap.size w W1:=by rw[hW1];exact newAlloc _ _
 have hB1:BoxS W1 w.heap.size x:=by rw[hW1];exact BoxS.new w x _
 have hs1:W1.heap.size=w.heap.size+1:=by rw[hW1];simp
 obtain⟨W2,hW2⟩: ∃W2,W2=W1.alloc (.cells #[.int .i64 m.kind,.int .i64 m.session,.string (bstr m.name)] 28):=⟨_,rfl⟩
 have hb2:Below W1.heap.size W1 W2:=by rw[hW2];exact newAlloc _ _
 have hQ:BoxC W2 (w.heap.size+1) m:=by rw[<-hs1,hW2];exact BoxC.new W1 m _
 have hs2:W2.heap.size=w.heap.size+2:=by rw[hW2];simp [hs1]
 obtain⟨W3,hW3⟩: ∃W3,W3=W2.alloc (.cells #[.int .i64 0,.int .i64 0,.int .i64 0,.slice none 0 0,.slice none 0 0,.slice none 0 0] 26):=⟨_,rfl⟩
 have hb3:Below W2.heap.size W2 W3:=by rw[hW3];exact newAlloc _ _
 have hZ:BoxS W3 (w.heap.size+2) zeroC10:=by rw[<-hs2,hW3];exact BoxS.new W2 zeroC10 _
 have hs3:W3.heap.size=w.heap.size+3:=by rw[hW3];simp [hs2]
 obtain⟨W4,hW4⟩: ∃W4,W4=W3.alloc (.cells #[.int .i64 0,.int .i64 0,.int .i64 0,.slice none 0 0] 36):=⟨_,rfl⟩
 have hb4:Below W3.heap.size W3 W4:=by rw[hW4];exact newAlloc _ _
 have hER:EmptyR W4 (w.heap.size+3):=by rw[<-hs3,hW4];exact EmptyR.new W3
 have hs4:W4.heap.size=w.heap.size+4:=by rw[hW4];simp [hs3]
 have hCU:CurE w W4.heap.size w.heap.size m x x W4:=⟨Nat.le_refl _,hB1.later (step hb2 (step hb3 hb4)),hQ.later (step hb3 hb4),hZ.later hb4,hER,FromS.refl _ _ _,step hb1 (step hb2 (step hb3 hb4))⟩
 have HRD:Hid (∀W,Below w.heap.size w W->RdSt W x):=hid fun W hb=>h.later hb
 have HRR:=hid hR
 have HSM:=hid hR.small
 obtain⟨HI,hHI'⟩: ∃HI,W4.heap.size=HI:=⟨_,rfl⟩
 obtain⟨nb,hnb⟩: ∃nb,w.heap.size=nb:=⟨_,rfl⟩
 have HNB:=hid hnb
 have hlt3:nb+3<HI:=by omega
 have hHI:w.heap.size<=HI:=by omega
 rw[hHI'] at hCU
 have HC0:Hid (CurE w HI nb m x x W4):=hid (by rw[hnb] at hCU;exact hCU)
 clear hCU hnb h hb1 hb2 hb3 hb4 hB1 hZ hQ hER hs1 hs2 hs3 hs4 hHI'
 obtain⟨R,hRV⟩: ∃R,execA x.v c m=R:=⟨_,rfl⟩
 have HRV:=hid hRV
 rw[hRV]
 clear hRV
 have KF:=hid (SesFind_any x.sv x.S c W4 (HRD.out W4 HC0.out.B).s)
 have KR:=hid (fun W (hb:Below w.heap.size w W)=>SesRenew_any x.sv x.S c x.time W (HRD.out W hb).s HRR.out.ses)
 have HR7:Hid (Rst (renewedA x.v c)):=hid (HRR.out.renewed hyes.1)
 obtain⟨xt,xn,xk,xS,sa,sc,xK,ka,kc,xM,ma,mc⟩:=x
 obtain⟨rk,rn,rm⟩:=m
 unfold stVal
 simp only[StC.sv,StC.kv,StC.mv] at hW1 KF KR ⊢
 dsimp only at hW2 hm hn ht
 obtain⟨c0,c1,c2,c3,c4,c5,cf⟩:=HC0.out.X
 simp only[StC.sv,StC.kv,StC.mv] at c0 c1 c2 c3 c4 c5
 obtain⟨q0,q1,q2⟩:=HC0.out.Q
 dsimp only at q0 q1 q2
 dsimp only at hyes hk1
 have d1:(rk==(1:Int))=false:=by simpa using hk1
 have HRE1:Hid (R=execB ⟨xt,xn,xk,(renewS xS c xt).1,vals xK,valsM xM⟩ c ⟨rk,rn,rm⟩):=hid (by
  rw[<-HRV.out]
  unfold execA
  rw[if_neg hk1,if_neg (fun q=>q.elim (fun q=>Bool.noConfusion (hyes.1.symm.trans q)) (fun q=>q hyes.2))]
  rfl)
 clear HRV hk1
 dsimp only at hk3 hk4 hk5 hk6
 have d3:(rk==(3:Int))=false:=by simpa using hk3
 have d4:(rk==(4:Int))=false:=by simpa using hk4
 have d5:(rk==(5:Int))=false:=by simpa using hk5
 have d6:(rk==(6:Int))=false:=by simpa using hk6
 go_enter Tryz.func60,Tryz.ntmps60
 go_upto_region 1 with fail
 rw[<-hW1,<-hW2,<-hW3,<-hW4]
 rw[HNB.out]
 clear hW1 hW2 hW3 hW4
 obtain⟨⟨⟨fc,fn,fe⟩,fb⟩,hfr⟩: ∃p,findS xS c=p:=⟨_,rfl⟩
 rw[hfr] at KF
 have HFR:=hid hfr
 clear hfr
 go_upto_region 5 with (go_at_call 117;refine KF.out.mono ?_;rintro e w5 ⟨rfl,hb5⟩;unfold sesVal;dsimp only;have HB5:=hid hb5;clear hb5)
 obtain⟨W5,hW5⟩: ∃W5,W5=w5.alloc (.cells #[.int .i64 fc,.int .i64 fn,.int .i64 fe] 46):=⟨_,rfl⟩
 have HB45:Hid (Below W4.heap.size W4 W5):=hid (by rw[hW5];exact stepAlloc HB5.out _)
 have hy5:W5.cell? ⟨w5.heap.size,1,none⟩=some (.int .i64 fn):=by rw[hW5];exact(box3s (Below.refl _ _)).2.1
 rw[<-hW5]
 clear hW5
 have HC5:=hid (HC0.out.later HB45.out)
 clear c0 c1 c2 c3 c4 c5 cf q0 q1 q2 KF
 obtain⟨c0,c1,c2,c3,c4,c5,cf⟩:=HC5.out.X
 simp only[StC.sv,StC.kv,StC.mv] at c0 c1 c2 c3 c4 c5
 obtain⟨q0,q1,q2⟩:=HC5.out.Q
 dsimp only at q0 q1 q2
 have hfb:fb=true:=by have:=hyes.1;rw[HFR.out] at this;exact this
 have hfn:fn=rn:=by have:=hyes.2;rw[HFR.out] at this;exact this
 subst hfb
 have d2:(fn != rn)=false:=by simp [hfn]
 obtain⟨⟨rl,rcd⟩,hrn⟩: ∃p,renewS xS c xt=p:=⟨_,rfl⟩
 have HR7:Hid (Rst ⟨xt,xn,xk,rl,vals xK,valsM xM⟩):=hid (by
  have:=HR7.out
  unfold renewedA StC.v at this
  dsimp only at this
  rw[hrn] at this
  exact this)
 rw[hrn] at KR HRE1
 dsimp only at HRE1
 clear hrn hfn hyes
 go_upto_region 8 with (go_at_call 118;refine(KR.out W5 HC5.out.B).mono ?_;rintro e w6 ⟨v6,rfl,ho6,hb6⟩;dsimp only at ho6;obtain⟨a6,p6,rfl⟩:=Rw.own_form ho6;have HO6:=hid ho6;have HB56:=hid hb6;obtain⟨d0',d1',d2',c3',d4',d5',cf'⟩:=HC5.out.X.later hb6;simp only[StC.sv,StC.kv,StC.mv] at c3';clear ho6 hb6 d0' d1' d2' d4' d5')
 have hC7:=(HC5.out.later HB56.out).set3 HNB.out hlt3 rl a6 p6 HC5.out.sz HO6.out
 obtain⟨W7,hW7⟩: ∃W7,W7=w6.setCell ⟨nb,3,none⟩ (.slice a6 rl.length p6):=⟨_,rfl⟩
 rw[<-hW7] at hC7 ⊢
 have HC7:=hid hC7
 have HRD7:Hid (∀W,Below W7.heap.size W7 W->RdSt W ⟨xt,xn,xk,rl,a6,p6,xK,ka,kc,xM,ma,mc⟩):=hid fun W hb=>(HC7.out.F.later hb).rd (HRD.out W (step HC7.out.B hb))
 have HS7:Hid (Small ⟨xt,xn,xk,rl,a6,p6,xK,ka,kc,xM,ma,mc⟩):=hid (Rst.small (x:=⟨xt,xn,xk,rl,a6,p6,xK,ka,kc,xM,ma,mc⟩) HR7.out)
 clear hW7 hC7 c3' cf' c0 c1 c2 c3 c4 c5 cf q0 q1 q2 KR hy5 HO6 HB56 HC5 HC0 HB45 HB5
 obtain⟨c0,c1,c2,c3,c4,c5,cf⟩:=HC7.out.X
 simp only[StC.sv,StC.kv,StC.mv] at c0 c1 c2 c3 c4 c5
 obtain⟨q0,q1,q2⟩:=HC7.out.Q
 dsimp only at q0 q1 q2
 have HRE:Hid (R=(StC.v ⟨xt,xn,xk,rl,a6,p6,xK,ka,kc,xM,ma,mc⟩,tellA (StC.v ⟨xt,xn,xk,rl,a6,p6,xK,ka,kc,xM,ma,mc⟩) c 0 0)):=hid (by
  rw[HRE1.out]
  unfold execB
  rw[if_neg (by dsimp only;omega),if_neg hk5,if_neg hk6]
  rfl)
 have HGD:Hid (Good (vals xK) xk):=hid HR7.out.good
 clear hk3 hk4 hk5 hk6
 have HX7:=hid HC7.out.X
 go_upto_region 17 with fail
 obtain⟨⟨dc,dn,da,dh⟩,hD⟩: ∃D,tellA (StC.v ⟨xt,xn,xk,rl,a6,p6,xK,ka,kc,xM,ma,mc⟩) c 0 0=D:=⟨_,rfl⟩
 have KT:=hid (fun W (hb:Below W7.heap.size W7 W)=>AutoTell_any ⟨xt,xn,xk,rl,a6,p6,xK,ka,kc,xM,ma,mc⟩ c 0 0 W ((HC7.out.F.later hb).rd (HRD.out W (step HC7.out.B hb))) HGD.out hc)
 rw[hD] at KT
 unfold GetsTold stVal at KT
 simp only[StC.sv,StC.kv,StC.mv] at KT
 have HDD:=hid hD
 clear hD
 refine wp_region_held_drew (S:=(fun W=>(W.cell? ⟨nb,0,none⟩=some (.int .i64 xt)/\W.cell? ⟨nb,1,none⟩=some (.int .i64 xn)/\W.cell? ⟨nb,2,none⟩=some (.int .i64 xk))/\W.cell? ⟨nb,3,none⟩=some (.slice a6 rl.length p6)/\W.cell? ⟨nb,4,none⟩=some (.slice ka xK.length kc)/\W.cell? ⟨nb,5,none⟩=some (.slice ma xM.length mc))) (by kernel_rfl) ((HX7.out.later (Below.refl _ W7).drew).cells) (fun hHeld=>?_)
 refine wpAnyH_take (i:=0) (v:=?_) rfl (by kernel_rfl) (by kernel_rfl) (by kernel_rfl) (fun _ _ _ h=>h) (Or.inl ⟨by rfl,?_⟩) (by assumption) ?_
 rotate_left
 ·intro w hSw;(try dsimp only at hSw);go_simp<;>with_reducible rfl
 try simp only[Act.put,getElem_toArray,getElem_cons_zero,setIfInBounds_toArray,set_cons_zero,set_cons_succ]
 refine wpAnyH_take (i:=1) (v:=?_) rfl (by kernel_rfl) (by kernel_rfl) (by kernel_rfl) (fun _ _ _ h=>h) (Or.inl ⟨by rfl,?_⟩) (by assumption) ?_
 rotate_left
 ·intro w hSw;(try dsimp only at hSw);go_simp<;>with_reducible rfl
 try simp only[Act.put,getElem_toArray,getElem_cons_succ,getElem_cons_zero,setIfInBounds_toArray,set_cons_zero,set_cons_succ]
 refine wpAnyH_take (i:=2) (v:=?_) rfl (by kernel_rfl) (by kernel_rfl) (by kernel_rfl) (fun _ _ _ h=>h) (Or.inl ⟨by rfl,?_⟩) (by assumption) ?_
 rotate_left
 ·intro w hSw;(try dsimp only at hSw);go_simp<;>with_reducible rfl
 try simp only[Act.put,getElem_toArray,getElem_cons_succ,getElem_cons_zero,setIfInBounds_toArray,set_cons_zero,set_cons_succ]
 refine wpAnyH_take (i:=3) (v:=?_) rfl (by kernel_rfl) (by kernel_rfl) (by kernel_rfl) (fun _ _ _ h=>h) (Or.inl ⟨by rfl,?_⟩) (by assumption) ?_
 rotate_left
 ·intro w hSw;(try dsimp only at hSw);go_simp<;>with_reducible rfl
 try simp only[Act.put,getElem_toArray,getElem_cons_succ,getElem_cons_zero,setIfInBounds_toArray,set_cons_zero,set_cons_succ]
 refine wpAnyH_take (i:=4) (v:=?_) rfl (by kernel_rfl) (by kernel_rfl) (by kernel_rfl) (fun _ _ _ h=>h) (Or.inl ⟨by rfl,?_⟩) (by assumption) ?_
 rotate_left
 ·intro w hSw;(try dsimp only at hSw);go_simp<;>with_reducible rfl
 try simp only[Act.put,getElem_toArray,getElem_cons_succ,getElem_cons_zero,setIfInBounds_toArray,set_cons_zero,set_cons_succ]
 refine wpAnyH_ready (rs:= [5]) (by kernel_rfl) (by simp) ?_
 refine AllReadyH.cons rfl (fun K hK=>?_) AllReadyH.nil
 go_simp
 go_at_call 116
 refine(KT.out W7.drew (Below.refl _ W7).drew).mono ?_
 rintro e w5 ⟨a5,p5,rfl,ho5,hb5⟩
 have HO5:=hid ho5
 have HB5:Hid (Below W7.heap.size W7 w5):=hid (step (Below.refl W7.heap.size W7).drew hb5)
 obtain⟨z0,z1,z2,z3,z4,z5,zf⟩:=HC7.out.Z.later HB5.out
 simp only[zeroC10,StC.sv,StC.kv,StC.mv,List.length_nil] at z0 z1 z2 z3 z4 z5
 obtain⟨⟨r0,r1,r2,r3⟩,rf⟩:=HC7.out.R _ HB5.out
 clear ho5 hb5
 refine hK.out _ _ ((HX7.out.later HB5.out).cells) (fun hHeld=>?_)
 clear hK K
 try simp only[Act.put,getElem_toArray,getElem_cons_succ,getElem_cons_zero,setIfInBounds_toArray,set_cons_zero,set_cons_succ]
 refine wpAnyH_ready (rs:= [6]) (by kernel_rfl) (by simp) ?_
 refine AllReadyH.cons rfl (fun K hK=>?_) AllReadyH.nil
 go_simp
 refine hK.out _ _ (((HX7.out.later HB5.out).other6 (show nb+2≠nb by omega) _ _ _ _ _ _).cells) (fun hHeld=>?_)
 clear hK K
 try simp only[Act.put,getElem_toArray,getElem_cons_succ,getElem_cons_zero,setIfInBounds_toArray,set_cons_zero,set_cons_succ]
 refine wpAnyH_ready (rs:= [7]) (by kernel_rfl) (by simp) ?_
 refine AllReadyH.cons rfl (fun K hK=>?_) AllReadyH.nil
 go_simp
 refine hK.out _ _ ((((HX7.out.later HB5.out).other6 (show nb+2≠nb by omega) _ _ _ _ _ _).other4 (show nb+3≠nb by omega) _ _ _ _).cells) (fun hHeld=>?_)
 clear hK K
 try simp only[Act.put,getElem_toArray,getElem_cons_succ,getElem_cons_zero,setIfInBounds_toArray,set_cons_zero,set_cons_succ]
 refine wpAnyH_done (by kernel_rfl) ?_ _
 have hl5:nb+3<W7.drew.heap.size:=Nat.lt_of_lt_of_le hlt3 HC7.out.sz
 have HOE:=hid (own_lowerX (own_set4z (own_set6z HO5.out (Nat.lt_of_succ_lt hl5) (.int .i64 xt) (.int .i64 xn) (.int .i64 xk) (.slice a6 rl.length p6) (.slice ka xK.length kc) (.slice ma xM.length mc)) hl5 (.int .i64 dc) (.int .i64 dn) (.int .i64 da) (.slice a5 dh.length p5)) (show w.heap.size<=W7.drew.heap.size from by have:=HNB.out;omega))
 have HBE:=hid (set4k (below_set6 (step HC7.out.B HB5.out) (nb+2) (by have:=HNB.out;omega) (.int .i64 xt) (.int .i64 xn) (.int .i64 xk) (.slice a6 rl.length p6) (.slice ka xK.length kc) (.slice ma xM.length mc)) (nb+3) (by have:=HNB.out;omega) (.int .i64 dc) (.int .i64 dn) (.int .i64 da) (.slice a5 dh.length p5))
 have HFE:=hid ((FromS.set4 (FromS.set6 (HC7.out.F.later HB5.out) (show nb+2<HI from by omega) (.int .i64 xt) (.int .i64 xn) (.int .i64 xk) (.slice a6 rl.length p6) (.slice ka xK.length kc) (.slice ma xM.length mc)) (show nb+3<HI from hlt3) (.int .i64 dc) (.int .i64 dn) (.int .i64 da) (.slice a5 dh.length p5)).lower hHI)
 go_wp2
 refine bodyPost_ret (by simp [results,Tryz.results60,go_sem,z0,z1,z2,z3,z4,z5,zf,r0,r1,r2,r3,rf]<;>rfl) rfl ?_
 have hRE:=HRE.out
 rw[HDD.out] at hRE
 rw[hRE]
 exact⟨⟨xt,xn,xk,rl,a6,p6,xK,ka,kc,xM,ma,mc⟩,a5,p5,rfl,rfl,HFE.out,HOE.out,HBE.out⟩
set_option maxHeartbeats 8000000 in
theorem Exec_take3 (x:StC) (c:Int) (m:CmdV) (w:World) (h:RdSt w x) (hR:Rst x.v) (hc:clientF c=true) (hm:mayF m=true) (hn:x.num<2305843009213693900) (ht:x.token<2305843009213693900) (hk1:m.kind≠1) (hyes:(findS x.S c).2=true/\(findS x.S c).1.num =m.session) (hk:m.kind=3):Calls Tryz.prog 60 #[stVal x,.int .i64 c,.agg #[.int .i64 m.kind,.int .i64 m.session,.string (bstr m.name)]] w (GetsSR (execA x.v c m) x w):=by
 obtain⟨W1,hW1⟩: ∃W1,W1=w.alloc (.cells #[.int .i64 x.time,.int .i64 x.num,.int .i64 x.token,x.sv,x.kv,x.mv] 26):=⟨_,rfl⟩
 have hb1:Below w.heap.size w W1:=by rw[hW1];exact newAlloc _ _
 have hB1:BoxS W1 w.heap.size x:=by rw[hW1];exact BoxS.new w x _
 have hs1:W1.heap.size=w.heap.size+1:=by rw[hW1];simp
 obtain⟨W2,hW2⟩: ∃W2,W2=W1.alloc (.cells #[.int .i64 m.kind,.int .i64 m.session,.string (bstr m.name)] 28):=⟨_,rfl⟩
 have hb2:Below W1.heap.size W1 W2:=by rw[hW2];exact newAlloc _ _
 have hQ:BoxC W2 (w.heap.size+1) m:=by rw[<-hs1,hW2];exact BoxC.new W1 m _
 have hs2:W2.heap.size=w.heap.size+2:=by rw[hW2];simp [hs1]
 obtain⟨W3,hW3⟩: ∃W3,W3=W2.alloc (.cells #[.int .i64 0,.int .i64 0,.int .i64 0,.slice none 0 0,.slice none 0 0,.slice none 0 0] 26):=⟨_,rfl⟩
 have hb3:Below W2.heap.size W2 W3:=by rw[hW3];exact newAlloc _ _
 have hZ:BoxS W3 (w.heap.size+2) zeroC10:=by rw[<-hs2,hW3];exact BoxS.new W2 zeroC10 _
 have hs3:W3.heap.size=w.heap.size+3:=by rw[hW3];simp [hs2]
 obtain⟨W4,hW4⟩: ∃W4,W4=W3.alloc (.cells #[.int .i64 0,.int .i64 0,.int .i64 0,.slice none 0 0] 36):=⟨_,rfl⟩
 have hb4:Below W3.heap.size W3 W4:=by rw[hW4];exact newAlloc _ _
 have hER:EmptyR W4 (w.heap.size+3):=by rw[<-hs3,hW4];exact EmptyR.new W3
 have hs4:W4.heap.size=w.heap.size+4:=by rw[hW4];simp [hs3]
 have hCU:CurE w W4.heap.size w.heap.size m x x W4:=⟨Nat.le_refl _,hB1.later (step hb2 (step hb3 hb4)),hQ.later (step hb3 hb4),hZ.later hb4,hER,FromS.refl _ _ _,step hb1 (step hb2 (step hb3 hb4))⟩
 have HRD:Hid (∀W,Below w.heap.size w W->RdSt W x):=hid fun W hb=>h.later hb
 have HRR:=hid hR
 have HSM:=hid hR.small
 obtain⟨HI,hHI'⟩: ∃HI,W4.heap.size=HI:=⟨_,rfl⟩
 obtain⟨nb,hnb⟩: ∃nb,w.heap.size=nb:=⟨_,rfl⟩
 have HNB:=hid hnb
 have hlt3:nb+3<HI:=by omega
 have hHI:w.heap.size<=HI:=by omega
 rw[hHI'] at hCU
 have HC0:Hid (CurE w HI nb m x x W4):=hid (by rw[hnb] at hCU;exact hCU)
 clear hCU hnb h hb1 hb2 hb3 hb4 hB1 hZ hQ hER hs1 hs2 hs3 hs4 hHI'
 obtain⟨R,hRV⟩: ∃R,execA x.v c m=R:=⟨_,rfl⟩
 have HRV:=hid hRV
 rw[hRV]
 clear hRV
 have KF:=hid (SesFind_any x.sv x.S c W4 (HRD.out W4 HC0.out.B).s)
 have KR:=hid (fun W (hb:Below w.heap.size w W)=>SesRenew_any x.sv x.S c x.time W (HRD.out W hb).s HRR.out.ses)
 have HR7:Hid (Rst (renewedA x.v c)):=hid (HRR.out.renewed hyes.1)
 obtain⟨xt,xn,xk,xS,sa,sc,xK,ka,kc,xM,ma,mc⟩:=x
 obtain⟨rk,rn,rm⟩:=m
 unfold stVal
 simp only[StC.sv,StC.kv,StC.mv] at hW1 KF KR ⊢
 dsimp only at hW2 hm hn ht
 obtain⟨c0,c1,c2,c3,c4,c5,cf⟩:=HC0.out.X
 simp only[StC.sv,StC.kv,StC.mv] at c0 c1 c2 c3 c4 c5
 obtain⟨q0,q1,q2⟩:=HC0.out.Q
 dsimp only at q0 q1 q2
 dsimp only at hyes hk1
 have d1:(rk==(1:Int))=false:=by simpa using hk1
 have HRE1:Hid (R=execB ⟨xt,xn,xk,(renewS xS c xt).1,vals xK,valsM xM⟩ c ⟨rk,rn,rm⟩):=hid (by
  rw[<-HRV.out]
  unfold execA
  rw[if_neg hk1,if_neg (fun q=>q.elim (fun q=>Bool.noConfusion (hyes.1.symm.trans q)) (fun q=>q hyes.2))]
  rfl)
 clear HRV hk1
 dsimp only at hk
 have d3:(rk==(3:Int))=true:=by simpa using hk
 have HRK:=hid hk
 have HMN:Hid (nameF rm=true):=hid (mayF_name hm (by dsimp only;omega))
 have hHY:=hyes.1
 have HHY:=hid hHY
 clear hHY
 clear hk
 go_enter Tryz.func60,Tryz.ntmps60
 go_upto_region 1 with fail
 rw[<-hW1,<-hW2,<-hW3,<-hW4]
 rw[HNB.out]
 clear hW1 hW2 hW3 hW4
 obtain⟨⟨⟨fc,fn,fe⟩,fb⟩,hfr⟩: ∃p,findS xS c=p:=⟨_,rfl⟩
 rw[hfr] at KF
 have HFR:=hid hfr
 clear hfr
 go_upto_region 5 with (go_at_call 117;refine KF.out.mono ?_;rintro e w5 ⟨rfl,hb5⟩;unfold sesVal;dsimp only;have HB5:=hid hb5;clear hb5)
 obtain⟨W5,hW5⟩: ∃W5,W5=w5.alloc (.cells #[.int .i64 fc,.int .i64 fn,.int .i64 fe] 46):=⟨_,rfl⟩
 have HB45:Hid (Below W4.heap.size W4 W5):=hid (by rw[hW5];exact stepAlloc HB5.out _)
 have hy5:W5.cell? ⟨w5.heap.size,1,none⟩=some (.int .i64 fn):=by rw[hW5];exact(box3s (Below.refl _ _)).2.1
 rw[<-hW5]
 clear hW5
 have HC5:=hid (HC0.out.later HB45.out)
 clear c0 c1 c2 c3 c4 c5 cf q0 q1 q2 KF
 obtain⟨c0,c1,c2,c3,c4,c5,cf⟩:=HC5.out.X
 simp only[StC.sv,StC.kv,StC.mv] at c0 c1 c2 c3 c4 c5
 obtain⟨q0,q1,q2⟩:=HC5.out.Q
 dsimp only at q0 q1 q2
 have hfb:fb=true:=by have:=hyes.1;rw[HFR.out] at this;exact this
 have hfn:fn=rn:=by have:=hyes.2;rw[HFR.out] at this;exact this
 subst hfb
 have d2:(fn != rn)=false:=by simp [hfn]
 obtain⟨⟨rl,rcd⟩,hrn⟩: ∃p,renewS xS c xt=p:=⟨_,rfl⟩
 have HR7:Hid (Rst ⟨xt,xn,xk,rl,vals xK,valsM xM⟩):=hid (by
  have:=HR7.out
  unfold renewedA StC.v at this
  dsimp only at this
  rw[hrn] at this
  exact this)
 rw[hrn] at KR HRE1
 dsimp only at HRE1
 clear hrn hfn hyes
 go_upto_region 8 with (go_at_call 118;refine(KR.out W5 HC5.out.B).mono ?_;rintro e w6 ⟨v6,rfl,ho6,hb6⟩;dsimp only at ho6;obtain⟨a6,p6,rfl⟩:=Rw.own_form ho6;have HO6:=hid ho6;have HB56:=hid hb6;obtain⟨d0',d1',d2',c3',d4',d5',cf'⟩:=HC5.out.X.later hb6;simp only[StC.sv,StC.kv,StC.mv] at c3';clear ho6 hb6 d0' d1' d2' d4' d5')
 have hC7:=(HC5.out.later HB56.out).set3 HNB.out hlt3 rl a6 p6 HC5.out.sz HO6.out
 obtain⟨W7,hW7⟩: ∃W7,W7=w6.setCell ⟨nb,3,none⟩ (.slice a6 rl.length p6):=⟨_,rfl⟩
 rw[<-hW7] at hC7 ⊢
 have HC7:=hid hC7
 have HRD7:Hid (∀W,Below W7.heap.size W7 W->RdSt W ⟨xt,xn,xk,rl,a6,p6,xK,ka,kc,xM,ma,mc⟩):=hid fun W hb=>(HC7.out.F.later hb).rd (HRD.out W (step HC7.out.B hb))
 have HS7:Hid (Small ⟨xt,xn,xk,rl,a6,p6,xK,ka,kc,xM,ma,mc⟩):=hid (Rst.small (x:=⟨xt,xn,xk,rl,a6,p6,xK,ka,kc,xM,ma,mc⟩) HR7.out)
 clear hW7 hC7 c3' cf' c0 c1 c2 c3 c4 c5 cf q0 q1 q2 KR hy5 HO6 HB56 HC5 HC0 HB45 HB5
 obtain⟨c0,c1,c2,c3,c4,c5,cf⟩:=HC7.out.X
 simp only[StC.sv,StC.kv,StC.mv] at c0 c1 c2 c3 c4 c5
 obtain⟨q0,q1,q2⟩:=HC7.out.Q
 dsimp only at q0 q1 q2
 have HGO:Hid (Good (take1 (StC.v ⟨xt,xn,xk,rl,a6,p6,xK,ka,kc,xM,ma,mc⟩) c rm true).1.locks (take1 (StC.v ⟨xt,xn,xk,rl,a6,p6,xK,ka,kc,xM,ma,mc⟩) c rm true).1.token):=hid (by
  obtain⟨g0,g10⟩:=good_take HR7.out.good rm c true HMN.out hc (by dsimp only;omega)
  unfold take1 takenA StC.v
  dsimp only at g0 g10 ⊢
  by_cases e0:(takeK (vals xK) rm c xk true).2.2=0
  ·rw[if_pos e0,if_pos (.inl e0)];exact g0 e0
  ·rw[if_neg e0]
   by_cases e1:(takeK (vals xK) rm c xk true).2.2=10
   ·rw[if_pos (.inr e1)];exact g10 e1
   ·rw[if_neg (fun q=>q.elim e0 e1)];exact HR7.out.good)
 have KW:=hid (fun W (hb:Below W7.heap.size W7 W)=>AutoTake_any ⟨xt,xn,xk,rl,a6,p6,xK,ka,kc,xM,ma,mc⟩ c rm true W (HRD7.out W hb) HS7.out HR7.out.good HMN.out hc (by dsimp only;omega))
 have HRE2:Hid (R=((take1 (StC.v ⟨xt,xn,xk,rl,a6,p6,xK,ka,kc,xM,ma,mc⟩) c rm true).1,tellA (take1 (StC.v ⟨xt,xn,xk,rl,a6,p6,xK,ka,kc,xM,ma,mc⟩) c rm true).1 c (take1 (StC.v ⟨xt,xn,xk,rl,a6,p6,xK,ka,kc,xM,ma,mc⟩) c rm true).2.1 (take1 (StC.v ⟨xt,xn,xk,rl,a6,p6,xK,ka,kc,xM,ma,mc⟩) c rm true).2.2)):=hid (by
  have hrk:=HRK.out
  rw[HRE1.out]
  unfold execB
  rw[if_pos (by dsimp only;omega)]
  have e:decide (rk=3)=true:=by rw[hrk];rfl
  dsimp only
  rw[e]
  rfl)
 obtain⟨⟨oS,oa,oc⟩,hO⟩: ∃o,take1 (StC.v ⟨xt,xn,xk,rl,a6,p6,xK,ka,kc,xM,ma,mc⟩) c rm true=o:=⟨_,rfl⟩
 rw[hO] at KW HRE2 HGO
 clear hO HRE1
 unfold stVal at KW
 simp only[StC.sv,StC.kv,StC.mv] at KW
 dsimp only at HRE2 HGO
 go_upto_region 17 with (go_at_call 119;refine(KW.out W7 (Below.refl _ _)).mono ?_;rintro e w8 ⟨⟨yt,yn,yk,yS,ya,yc,yK,yka,ykc,yM,yma,ymc⟩,he,hv8,hf8,hb8⟩;unfold stVal at he;simp only[StC.sv,StC.kv,StC.mv] at he;subst he;have HV8:=hid hv8;have HF8:=hid hf8;have HB78:=hid hb8;obtain⟨c0,c1,c2,c3,c4,c5,cf⟩:=HC7.out.X.later hb8;simp only[StC.sv,StC.kv,StC.mv] at c0 c1 c2 c3 c4 c5;clear hv8 hf8 hb8)
 have hC9:=(HC7.out.later HB78.out).put HNB.out hlt3 ⟨yt,yn,yk,yS,ya,yc,yK,yka,ykc,yM,yma,ymc⟩ HC7.out.sz HF8.out
 dsimp only at hC9
 obtain⟨W9,hW9⟩: ∃W9,W9=(((((w8.setCell ⟨nb,0,none⟩ (.int .i64 yt)).setCell ⟨nb,1,none⟩ (.int .i64 yn)).setCell ⟨nb,2,none⟩ (.int .i64 yk)).setCell ⟨nb,3,none⟩ (.slice ya yS.length yc)).setCell ⟨nb,4,none⟩ (.slice yka yK.length ykc)).setCell ⟨nb,5,none⟩ (.slice yma yM.length ymc):=⟨_,rfl⟩
 rw[<-hW9] at hC9 ⊢
 have HC9:=hid hC9
 clear hW9 hC9 c0 c1 c2 c3 c4 c5 cf q0 q1 q2 HF8
 obtain⟨c0,c1,c2,c3,c4,c5,cf⟩:=HC9.out.X
 simp only[StC.sv,StC.kv,StC.mv] at c0 c1 c2 c3 c4 c5
 have HX9:=hid HC9.out.X
 have HGD:Hid (Good (vals yK) yk):=hid (by
  have e1:vals yK= _:=congrArg StV.locks HV8.out
  have e2:yk= _:=congrArg StV.token HV8.out
  rw[e1,e2]
  exact HGO.out)
 have HRE:Hid (R=(StC.v ⟨yt,yn,yk,yS,ya,yc,yK,yka,ykc,yM,yma,ymc⟩,tellA (StC.v ⟨yt,yn,yk,yS,ya,yc,yK,yka,ykc,yM,yma,ymc⟩) c oa oc)):=hid (by rw[HV8.out];exact HRE2.out)
 obtain⟨⟨dc,dn,da,dh⟩,hD⟩: ∃D,tellA (StC.v ⟨yt,yn,yk,yS,ya,yc,yK,yka,ykc,yM,yma,ymc⟩) c oa oc=D:=⟨_,rfl⟩
 have KT:=hid (fun W (hb:Below W9.heap.size W9 W)=>AutoTell_any ⟨yt,yn,yk,yS,ya,yc,yK,yka,ykc,yM,yma,ymc⟩ c oa oc W ((HC9.out.F.later hb).rd (HRD.out W (step HC9.out.B hb))) HGD.out hc)
 rw[hD] at KT
 unfold GetsTold stVal at KT
 simp only[StC.sv,StC.kv,StC.mv] at KT
 have HDD:=hid hD
 clear hD
 refine wp_region_held_drew (S:=(fun W=>(W.cell? ⟨nb,0,none⟩=some (.int .i64 yt)/\W.cell? ⟨nb,1,none⟩=some (.int .i64 yn)/\W.cell? ⟨nb,2,none⟩=some (.int .i64 yk))/\W.cell? ⟨nb,3,none⟩=some (.slice ya yS.length yc)/\W.cell? ⟨nb,4,none⟩=some (.slice yka yK.length ykc)/\W.cell? ⟨nb,5,none⟩=some (.slice yma yM.length ymc))) (by kernel_rfl) ((HX9.out.later (Below.refl _ W9).drew).cells) (fun hHeld=>?_)
 refine wpAnyH_take (i:=0) (v:=?_) rfl (by kernel_rfl) (by kernel_rfl) (by kernel_rfl) (fun _ _ _ h=>h) (Or.inl ⟨by rfl,?_⟩) (by assumption) ?_
 rotate_left
 ·intro w hSw;(try dsimp only at hSw);go_simp<;>with_reducible rfl
 try simp only[Act.put,getElem_toArray,getElem_cons_zero,setIfInBounds_toArray,set_cons_zero,set_cons_succ]
 refine wpAnyH_take (i:=1) (v:=?_) rfl (by kernel_rfl) (by kernel_rfl) (by kernel_rfl) (fun _ _ _ h=>h) (Or.inl ⟨by rfl,?_⟩) (by assumption) ?_
 rotate_left
 ·intro w hSw;(try dsimp only at hSw);go_simp<;>with_reducible rfl
 try simp only[Act.put,getElem_toArray,getElem_cons_succ,getElem_cons_zero,setIfInBounds_toArray,set_cons_zero,set_cons_succ]
 refine wpAnyH_take (i:=2) (v:=?_) rfl (by kernel_rfl) (by kernel_rfl) (by kernel_rfl) (fun _ _ _ h=>h) (Or.inl ⟨by rfl,?_⟩) (by assumption) ?_
 rotate_left
 ·intro w hSw;(try dsimp only at hSw);go_simp<;>with_reducible rfl
 try simp only[Act.put,getElem_toArray,getElem_cons_succ,getElem_cons_zero,setIfInBounds_toArray,set_cons_zero,set_cons_succ]
 refine wpAnyH_take (i:=3) (v:=?_) rfl (by kernel_rfl) (by kernel_rfl) (by kernel_rfl) (fun _ _ _ h=>h) (Or.inl ⟨by rfl,?_⟩) (by assumption) ?_
 rotate_left
 ·intro w hSw;(try dsimp only at hSw);go_simp<;>with_reducible rfl
 try simp only[Act.put,getElem_toArray,getElem_cons_succ,getElem_cons_zero,setIfInBounds_toArray,set_cons_zero,set_cons_succ]
 refine wpAnyH_take (i:=4) (v:=?_) rfl (by kernel_rfl) (by kernel_rfl) (by kernel_rfl) (fun _ _ _ h=>h) (Or.inl ⟨by rfl,?_⟩) (by assumption) ?_
 rotate_left
 ·intro w hSw;(try dsimp only at hSw);go_simp<;>with_reducible rfl
 try simp only[Act.put,getElem_toArray,getElem_cons_succ,getElem_cons_zero,setIfInBounds_toArray,set_cons_zero,set_cons_succ]
 refine wpAnyH_ready (rs:= [5]) (by kernel_rfl) (by simp) ?_
 refine AllReadyH.cons rfl (fun K hK=>?_) AllReadyH.nil
 go_simp
 go_at_call 116
 refine(KT.out W9.drew (Below.refl _ W9).drew).mono ?_
 rintro e w5 ⟨a5,p5,rfl,ho5,hb5⟩
 have HO5:=hid ho5
 have HB5:Hid (Below W9.heap.size W9 w5):=hid (step (Below.refl W9.heap.size W9).drew hb5)
 obtain⟨z0,z1,z2,z3,z4,z5,zf⟩:=HC9.out.Z.later HB5.out
 simp only[zeroC10,StC.sv,StC.kv,StC.mv,List.length_nil] at z0 z1 z2 z3 z4 z5
 obtain⟨⟨r0,r1,r2,r3⟩,rf⟩:=HC9.out.R _ HB5.out
 clear ho5 hb5
 refine hK.out _ _ ((HX9.out.later HB5.out).cells) (fun hHeld=>?_)
 clear hK K
 try simp only[Act.put,getElem_toArray,getElem_cons_succ,getElem_cons_zero,setIfInBounds_toArray,set_cons_zero,set_cons_succ]
 refine wpAnyH_ready (rs:= [6]) (by kernel_rfl) (by simp) ?_
 refine AllReadyH.cons rfl (fun K hK=>?_) AllReadyH.nil
 go_simp
 refine hK.out _ _ (((HX9.out.later HB5.out).other6 (show nb+2≠nb by omega) _ _ _ _ _ _).cells) (fun hHeld=>?_)
 clear hK K
 try simp only[Act.put,getElem_toArray,getElem_cons_succ,getElem_cons_zero,setIfInBounds_toArray,set_cons_zero,set_cons_succ]
 refine wpAnyH_ready (rs:= [7]) (by kernel_rfl) (by simp) ?_
 refine AllReadyH.cons rfl (fun K hK=>?_) AllReadyH.nil
 go_simp
 refine hK.out _ _ ((((HX9.out.later HB5.out).other6 (show nb+2≠nb by omega) _ _ _ _ _ _).other4 (show nb+3≠nb by omega) _ _ _ _).cells) (fun hHeld=>?_)
 clear hK K
 try simp only[Act.put,getElem_toArray,getElem_cons_succ,getElem_cons_zero,setIfInBounds_toArray,set_cons_zero,set_cons_succ]
 refine wpAnyH_done (by kernel_rfl) ?_ _
 have hl5:nb+3<W9.drew.heap.size:=Nat.lt_of_lt_of_le hlt3 HC9.out.sz
 have HOE:=hid (own_lowerX (own_set4z (own_set6z HO5.out (Nat.lt_of_succ_lt hl5) (.int .i64 yt) (.int .i64 yn) (.int .i64 yk) (.slice ya yS.length yc) (.slice yka yK.length ykc) (.slice yma yM.length ymc)) hl5 (.int .i64 dc) (.int .i64 dn) (.int .i64 da) (.slice a5 dh.length p5)) (show w.heap.size<=W9.drew.heap.size from by have:=HNB.out;omega))
 have HBE:=hid (set4k (below_set6 (step HC9.out.B HB5.out) (nb+2) (by have:=HNB.out;omega) (.int .i64 yt) (.int .i64 yn) (.int .i64 yk) (.slice ya yS.length yc) (.slice yka yK.length ykc) (.slice yma yM.length ymc)) (nb+3) (by have:=HNB.out;omega) (.int .i64 dc) (.int .i64 dn) (.int .i64 da) (.slice a5 dh.length p5))
 have HFE:=hid ((FromS.set4 (FromS.set6 (HC9.out.F.later HB5.out) (show nb+2<HI from by omega) (.int .i64 yt) (.int .i64 yn) (.int .i64 yk) (.slice ya yS.length yc) (.slice yka yK.length ykc) (.slice yma yM.length ymc)) (show nb+3<HI from hlt3) (.int .i64 dc) (.int .i64 dn) (.int .i64 da) (.slice a5 dh.length p5)).lower hHI)
 go_wp2
 refine bodyPost_ret (by simp [results,Tryz.results60,go_sem,z0,z1,z2,z3,z4,z5,zf,r0,r1,r2,r3,rf]<;>rfl) rfl ?_
 have hRE:=HRE.out
 rw[HDD.out] at hRE
 rw[hRE]
 exact⟨⟨yt,yn,yk,yS,ya,yc,yK,yka,ykc,yM,yma,ymc⟩,a5,p5,rfl,rfl,HFE.out,HOE.out,HBE.out⟩
set_option maxHeartbeats 8000000 in
theorem Exec_take4 (x:StC) (c:Int) (m:CmdV) (w:World) (h:RdSt w x) (hR:Rst x.v) (hc:clientF c=true) (hm:mayF m=true) (hn:x.num<2305843009213693900) (ht:x.token<2305843009213693900) (hk1:m.kind≠1) (hyes:(findS x.S c).2=true/\(findS x.S c).1.num =m.session) (hk:m.kind=4):Calls Tryz.prog 60 #[stVal x,.int .i64 c,.agg #[.int .i64 m.kind,.int .i64 m.session,.string (bstr m.name)]] w (GetsSR (execA x.v c m) x w):=by
 obtain⟨W1,hW1⟩: ∃W1,W1=w.alloc (.cells #[.int .i64 x.time,.int .i64 x.num,.int .i64 x.token,x.sv,x.kv,x.mv] 26):=⟨_,rfl⟩
 have hb1:Below w.heap.size w W1:=by rw[hW1];exact newAlloc _ _
 have hB1:BoxS W1 w.heap.size x:=by rw[hW1];exact BoxS.new w x _
 have hs1:W1.heap.size=w.heap.size+1:=by rw[hW1];simp
 obtain⟨W2,hW2⟩: ∃W2,W2=W1.alloc (.cells #[.int .i64 m.kind,.int .i64 m.session,.string (bstr m.name)] 28):=⟨_,rfl⟩
 have hb2:Below W1.heap.size W1 W2:=by rw[hW2];exact newAlloc _ _
 have hQ:BoxC W2 (w.heap.size+1) m:=by rw[<-hs1,hW2];exact BoxC.new W1 m _
 have hs2:W2.heap.size=w.heap.size+2:=by rw[hW2];simp [hs1]
 obtain⟨W3,hW3⟩: ∃W3,W3=W2.alloc (.cells #[.int .i64 0,.int .i64 0,.int .i64 0,.slice none 0 0,.slice none 0 0,.slice none 0 0] 26):=⟨_,rfl⟩
 have hb3:Below W2.heap.size W2 W3:=by rw[hW3];exact newAlloc _ _
 have hZ:BoxS W3 (w.heap.size+2) zeroC10:=by rw[<-hs2,hW3];exact BoxS.new W2 zeroC10 _
 have hs3:W3.heap.size=w.heap.size+3:=by rw[hW3];simp [hs2]
 obtain⟨W4,hW4⟩: ∃W4,W4=W3.alloc (.cells #[.int .i64 0,.int .i64 0,.int .i64 0,.slice none 0 0] 36):=⟨_,rfl⟩
 have hb4:Below W3.heap.size W3 W4:=by rw[hW4];exact newAlloc _ _
 have hER:EmptyR W4 (w.heap.size+3):=by rw[<-hs3,hW4];exact EmptyR.new W3
 have hs4:W4.heap.size=w.heap.size+4:=by rw[hW4];simp [hs3]
 have hCU:CurE w W4.heap.size w.heap.size m x x W4:=⟨Nat.le_refl _,hB1.later (step hb2 (step hb3 hb4)),hQ.later (step hb3 hb4),hZ.later hb4,hER,FromS.refl _ _ _,step hb1 (step hb2 (step hb3 hb4))⟩
 have HRD:Hid (∀W,Below w.heap.size w W->RdSt W x):=hid fun W hb=>h.later hb
 have HRR:=hid hR
 have HSM:=hid hR.small
 obtain⟨HI,hHI'⟩: ∃HI,W4.heap.size=HI:=⟨_,rfl⟩
 obtain⟨nb,hnb⟩: ∃nb,w.heap.size=nb:=⟨_,rfl⟩
 have HNB:=hid hnb
 have hlt3:nb+3<HI:=by omega
 have hHI:w.heap.size<=HI:=by omega
 rw[hHI'] at hCU
 have HC0:Hid (CurE w HI nb m x x W4):=hid (by rw[hnb] at hCU;exact hCU)
 clear hCU hnb h hb1 hb2 hb3 hb4 hB1 hZ hQ hER hs1 hs2 hs3 hs4 hHI'
 obtain⟨R,hRV⟩: ∃R,execA x.v c m=R:=⟨_,rfl⟩
 have HRV:=hid hRV
 rw[hRV]
 clear hRV
 have KF:=hid (SesFind_any x.sv x.S c W4 (HRD.out W4 HC0.out.B).s)
 have KR:=hid (fun W (hb:Below w.heap.size w W)=>SesRenew_any x.sv x.S c x.time W (HRD.out W hb).s HRR.out.ses)
 have HR7:Hid (Rst (renewedA x.v c)):=hid (HRR.out.renewed hyes.1)
 obtain⟨xt,xn,xk,xS,sa,sc,xK,ka,kc,xM,ma,mc⟩:=x
 obtain⟨rk,rn,rm⟩:=m
 unfold stVal
 simp only[StC.sv,StC.kv,StC.mv] at hW1 KF KR ⊢
 dsimp only at hW2 hm hn ht
 obtain⟨c0,c1,c2,c3,c4,c5,cf⟩:=HC0.out.X
 simp only[StC.sv,StC.kv,StC.mv] at c0 c1 c2 c3 c4 c5
 obtain⟨q0,q1,q2⟩:=HC0.out.Q
 dsimp only at q0 q1 q2
 dsimp only at hyes hk1
 have d1:(rk==(1:Int))=false:=by simpa using hk1
 have HRE1:Hid (R=execB ⟨xt,xn,xk,(renewS xS c xt).1,vals xK,valsM xM⟩ c ⟨rk,rn,rm⟩):=hid (by
  rw[<-HRV.out]
  unfold execA
  rw[if_neg hk1,if_neg (fun q=>q.elim (fun q=>Bool.noConfusion (hyes.1.symm.trans q)) (fun q=>q hyes.2))]
  rfl)
 clear HRV hk1
 dsimp only at hk
 have d3:(rk==(3:Int))=false:=by simp [hk]
 have d4:(rk==(4:Int))=true:=by simpa using hk
 have HRK:=hid hk
 have HMN:Hid (nameF rm=true):=hid (mayF_name hm (by dsimp only;omega))
 have hHY:=hyes.1
 have HHY:=hid hHY
 clear hHY
 clear hk
 go_enter Tryz.func60,Tryz.ntmps60
 go_upto_region 1 with fail
 rw[<-hW1,<-hW2,<-hW3,<-hW4]
 rw[HNB.out]
 clear hW1 hW2 hW3 hW4
 obtain⟨⟨⟨fc,fn,fe⟩,fb⟩,hfr⟩: ∃p,findS xS c=p:=⟨_,rfl⟩
 rw[hfr] at KF
 have HFR:=hid hfr
 clear hfr
 go_upto_region 5 with (go_at_call 117;refine KF.out.mono ?_;rintro e w5 ⟨rfl,hb5⟩;unfold sesVal;dsimp only;have HB5:=hid hb5;clear hb5)
 obtain⟨W5,hW5⟩: ∃W5,W5=w5.alloc (.cells #[.int .i64 fc,.int .i64 fn,.int .i64 fe] 46):=⟨_,rfl⟩
 have HB45:Hid (Below W4.heap.size W4 W5):=hid (by rw[hW5];exact stepAlloc HB5.out _)
 have hy5:W5.cell? ⟨w5.heap.size,1,none⟩=some (.int .i64 fn):=by rw[hW5];exact(box3s (Below.refl _ _)).2.1
 rw[<-hW5]
 clear hW5
 have HC5:=hid (HC0.out.later HB45.out)
 clear c0 c1 c2 c3 c4 c5 cf q0 q1 q2 KF
 obtain⟨c0,c1,c2,c3,c4,c5,cf⟩:=HC5.out.X
 simp only[StC.sv,StC.kv,StC.mv] at c0 c1 c2 c3 c4 c5
 obtain⟨q0,q1,q2⟩:=HC5.out.Q
 dsimp only at q0 q1 q2
 have hfb:fb=true:=by have:=hyes.1;rw[HFR.out] at this;exact this
 have hfn:fn=rn:=by have:=hyes.2;rw[HFR.out] at this;exact this
 subst hfb
 have d2:(fn != rn)=false:=by simp [hfn]
 obtain⟨⟨rl,rcd⟩,hrn⟩: ∃p,renewS xS c xt=p:=⟨_,rfl⟩
 have HR7:Hid (Rst ⟨xt,xn,xk,rl,vals xK,valsM xM⟩):=hid (by
  have:=HR7.out
  unfold renewedA StC.v at this
  dsimp only at this
  rw[hrn] at this
  exact this)
 rw[hrn] at KR HRE1
 dsimp only at HRE1
 clear hrn hfn hyes
 go_upto_region 8 with (go_at_call 118;refine(KR.out W5 HC5.out.B).mono ?_;rintro e w6 ⟨v6,rfl,ho6,hb6⟩;dsimp only at ho6;obtain⟨a6,p6,rfl⟩:=Rw.own_form ho6;have HO6:=hid ho6;have HB56:=hid hb6;obtain⟨d0',d1',d2',c3',d4',d5',cf'⟩:=HC5.out.X.later hb6;simp only[StC.sv,StC.kv,StC.mv] at c3';clear ho6 hb6 d0' d1' d2' d4' d5')
 have hC7:=(HC5.out.later HB56.out).set3 HNB.out hlt3 rl a6 p6 HC5.out.sz HO6.out
 obtain⟨W7,hW7⟩: ∃W7,W7=w6.setCell ⟨nb,3,none⟩ (.slice a6 rl.length p6):=⟨_,rfl⟩
 rw[<-hW7] at hC7 ⊢
 have HC7:=hid hC7
 have HRD7:Hid (∀W,Below W7.heap.size W7 W->RdSt W ⟨xt,xn,xk,rl,a6,p6,xK,ka,kc,xM,ma,mc⟩):=hid fun W hb=>(HC7.out.F.later hb).rd (HRD.out W (step HC7.out.B hb))
 have HS7:Hid (Small ⟨xt,xn,xk,rl,a6,p6,xK,ka,kc,xM,ma,mc⟩):=hid (Rst.small (x:=⟨xt,xn,xk,rl,a6,p6,xK,ka,kc,xM,ma,mc⟩) HR7.out)
 clear hW7 hC7 c3' cf' c0 c1 c2 c3 c4 c5 cf q0 q1 q2 KR hy5 HO6 HB56 HC5 HC0 HB45 HB5
 obtain⟨c0,c1,c2,c3,c4,c5,cf⟩:=HC7.out.X
 simp only[StC.sv,StC.kv,StC.mv] at c0 c1 c2 c3 c4 c5
 obtain⟨q0,q1,q2⟩:=HC7.out.Q
 dsimp only at q0 q1 q2
 have HGO:Hid (Good (take1 (StC.v ⟨xt,xn,xk,rl,a6,p6,xK,ka,kc,xM,ma,mc⟩) c rm false).1.locks (take1 (StC.v ⟨xt,xn,xk,rl,a6,p6,xK,ka,kc,xM,ma,mc⟩) c rm false).1.token):=hid (by
  obtain⟨g0,g10⟩:=good_take HR7.out.good rm c false HMN.out hc (by dsimp only;omega)
  unfold take1 takenA StC.v
  dsimp only at g0 g10 ⊢
  by_cases e0:(takeK (vals xK) rm c xk false).2.2=0
  ·rw[if_pos e0,if_pos (.inl e0)];exact g0 e0
  ·rw[if_neg e0]
   by_cases e1:(takeK (vals xK) rm c xk false).2.2=10
   ·rw[if_pos (.inr e1)];exact g10 e1
   ·rw[if_neg (fun q=>q.elim e0 e1)];exact HR7.out.good)
 have KW:=hid (fun W (hb:Below W7.heap.size W7 W)=>AutoTake_any ⟨xt,xn,xk,rl,a6,p6,xK,ka,kc,xM,ma,mc⟩ c rm false W (HRD7.out W hb) HS7.out HR7.out.good HMN.out hc (by dsimp only;omega))
 have HRE2:Hid (R=((take1 (StC.v ⟨xt,xn,xk,rl,a6,p6,xK,ka,kc,xM,ma,mc⟩) c rm false).1,tellA (take1 (StC.v ⟨xt,xn,xk,rl,a6,p6,xK,ka,kc,xM,ma,mc⟩) c rm false).1 c (take1 (StC.v ⟨xt,xn,xk,rl,a6,p6,xK,ka,kc,xM,ma,mc⟩) c rm false).2.1 (take1 (StC.v ⟨xt,xn,xk,rl,a6,p6,xK,ka,kc,xM,ma,mc⟩) c rm false).2.2)):=hid (by
  have hrk:=HRK.out
  rw[HRE1.out]
  unfold execB
  rw[if_pos (by dsimp only;omega)]
  have e:decide (rk=3)=false:=by rw[hrk];rfl
  dsimp only
  rw[e]
  rfl)
 obtain⟨⟨oS,oa,oc⟩,hO⟩: ∃o,take1 (StC.v ⟨xt,xn,xk,rl,a6,p6,xK,ka,kc,xM,ma,mc⟩) c rm false=o:=⟨_,rfl⟩
 rw[hO] at KW HRE2 HGO
 clear hO HRE1
 unfold stVal at KW
 simp only[StC.sv,StC.kv,StC.mv] at KW
 dsimp only at HRE2 HGO
 go_upto_region 17 with (go_at_call 119;refine(KW.out W7 (Below.refl _ _)).mono ?_;rintro e w8 ⟨⟨yt,yn,yk,yS,ya,yc,yK,yka,ykc,yM,yma,ymc⟩,he,hv8,hf8,hb8⟩;unfold stVal at he;simp only[StC.sv,StC.kv,StC.mv] at he;subst he;have HV8:=hid hv8;have HF8:=hid hf8;have HB78:=hid hb8;obtain⟨c0,c1,c2,c3,c4,c5,cf⟩:=HC7.out.X.later hb8;simp only[StC.sv,StC.kv,StC.mv] at c0 c1 c2 c3 c4 c5;clear hv8 hf8 hb8)
 have hC9:=(HC7.out.later HB78.out).put HNB.out hlt3 ⟨yt,yn,yk,yS,ya,yc,yK,yka,ykc,yM,yma,ymc⟩ HC7.out.sz HF8.out
 dsimp only at hC9
 obtain⟨W9,hW9⟩: ∃W9,W9=(((((w8.setCell ⟨nb,0,none⟩ (.int .i64 yt)).setCell ⟨nb,1,none⟩ (.int .i64 yn)).setCell ⟨nb,2,none⟩ (.int .i64 yk)).setCell ⟨nb,3,none⟩ (.slice ya yS.length yc)).setCell ⟨nb,4,none⟩ (.slice yka yK.length ykc)).setCell ⟨nb,5,none⟩ (.slice yma yM.length ymc):=⟨_,rfl⟩
 rw[<-hW9] at hC9 ⊢
 have HC9:=hid hC9
 clear hW9 hC9 c0 c1 c2 c3 c4 c5 cf q0 q1 q2 HF8
 obtain⟨c0,c1,c2,c3,c4,c5,cf⟩:=HC9.out.X
 simp only[StC.sv,StC.kv,StC.mv] at c0 c1 c2 c3 c4 c5
 have HX9:=hid HC9.out.X
 have HGD:Hid (Good (vals yK) yk):=hid (by
  have e1:vals yK= _:=congrArg StV.locks HV8.out
  have e2:yk= _:=congrArg StV.token HV8.out
  rw[e1,e2]
  exact HGO.out)
 have HRE:Hid (R=(StC.v ⟨yt,yn,yk,yS,ya,yc,yK,yka,ykc,yM,yma,ymc⟩,tellA (StC.v ⟨yt,yn,yk,yS,ya,yc,yK,yka,ykc,yM,yma,ymc⟩) c oa oc)):=hid (by rw[HV8.out];exact HRE2.out)
 obtain⟨⟨dc,dn,da,dh⟩,hD⟩: ∃D,tellA (StC.v ⟨yt,yn,yk,yS,ya,yc,yK,yka,ykc,yM,yma,ymc⟩) c oa oc=D:=⟨_,rfl⟩
 have KT:=hid (fun W (hb:Below W9.heap.size W9 W)=>AutoTell_any ⟨yt,yn,yk,yS,ya,yc,yK,yka,ykc,yM,yma,ymc⟩ c oa oc W ((HC9.out.F.later hb).rd (HRD.out W (step HC9.out.B hb))) HGD.out hc)
 rw[hD] at KT
 unfold GetsTold stVal at KT
 simp only[StC.sv,StC.kv,StC.mv] at KT
 have HDD:=hid hD
 clear hD
 refine wp_region_held_drew (S:=(fun W=>(W.cell? ⟨nb,0,none⟩=some (.int .i64 yt)/\W.cell? ⟨nb,1,none⟩=some (.int .i64 yn)/\W.cell? ⟨nb,2,none⟩=some (.int .i64 yk))/\W.cell? ⟨nb,3,none⟩=some (.slice ya yS.length yc)/\W.cell? ⟨nb,4,none⟩=some (.slice yka yK.length ykc)/\W.cell? ⟨nb,5,none⟩=some (.slice yma yM.length ymc))) (by kernel_rfl) ((HX9.out.later (Below.refl _ W9).drew).cells) (fun hHeld=>?_)
 refine wpAnyH_take (i:=0) (v:=?_) rfl (by kernel_rfl) (by kernel_rfl) (by kernel_rfl) (fun _ _ _ h=>h) (Or.inl ⟨by rfl,?_⟩) (by assumption) ?_
 rotate_left
 ·intro w hSw;(try dsimp only at hSw);go_simp<;>with_reducible rfl
 try simp only[Act.put,getElem_toArray,getElem_cons_zero,setIfInBounds_toArray,set_cons_zero,set_cons_succ]
 refine wpAnyH_take (i:=1) (v:=?_) rfl (by kernel_rfl) (by kernel_rfl) (by kernel_rfl) (fun _ _ _ h=>h) (Or.inl ⟨by rfl,?_⟩) (by assumption) ?_
 rotate_left
 ·intro w hSw;(try dsimp only at hSw);go_simp<;>with_reducible rfl
 try simp only[Act.put,getElem_toArray,getElem_cons_succ,getElem_cons_zero,setIfInBounds_toArray,set_cons_zero,set_cons_succ]
 refine wpAnyH_take (i:=2) (v:=?_) rfl (by kernel_rfl) (by kernel_rfl) (by kernel_rfl) (fun _ _ _ h=>h) (Or.inl ⟨by rfl,?_⟩) (by assumption) ?_
 rotate_left
 ·intro w hSw;(try dsimp only at hSw);go_simp<;>with_reducible rfl
 try simp only[Act.put,getElem_toArray,getElem_cons_succ,getElem_cons_zero,setIfInBounds_toArray,set_cons_zero,set_cons_succ]
 refine wpAnyH_take (i:=3) (v:=?_) rfl (by kernel_rfl) (by kernel_rfl) (by kernel_rfl) (fun _ _ _ h=>h) (Or.inl ⟨by rfl,?_⟩) (by assumption) ?_
 rotate_left
 ·intro w hSw;(try dsimp only at hSw);go_simp<;>with_reducible rfl
 try simp only[Act.put,getElem_toArray,getElem_cons_succ,getElem_cons_zero,setIfInBounds_toArray,set_cons_zero,set_cons_succ]
 refine wpAnyH_take (i:=4) (v:=?_) rfl (by kernel_rfl) (by kernel_rfl) (by kernel_rfl) (fun _ _ _ h=>h) (Or.inl ⟨by rfl,?_⟩) (by assumption) ?_
 rotate_left
 ·intro w hSw;(try dsimp only at hSw);go_simp<;>with_reducible rfl
 try simp only[Act.put,getElem_toArray,getElem_cons_succ,getElem_cons_zero,setIfInBounds_toArray,set_cons_zero,set_cons_succ]
 refine wpAnyH_ready (rs:= [5]) (by kernel_rfl) (by simp) ?_
 refine AllReadyH.cons rfl (fun K hK=>?_) AllReadyH.nil
 go_simp
 go_at_call 116
 refine(KT.out W9.drew (Below.refl _ W9).drew).mono ?_
 rintro e w5 ⟨a5,p5,rfl,ho5,hb5⟩
 have HO5:=hid ho5
 have HB5:Hid (Below W9.heap.size W9 w5):=hid (step (Below.refl W9.heap.size W9).drew hb5)
 obtain⟨z0,z1,z2,z3,z4,z5,zf⟩:=HC9.out.Z.later HB5.out
 simp only[zeroC10,StC.sv,StC.kv,StC.mv,List.length_nil] at z0 z1 z2 z3 z4 z5
 obtain⟨⟨r0,r1,r2,r3⟩,rf⟩:=HC9.out.R _ HB5.out
 clear ho5 hb5
 refine hK.out _ _ ((HX9.out.later HB5.out).cells) (fun hHeld=>?_)
 clear hK K
 try simp only[Act.put,getElem_toArray,getElem_cons_succ,getElem_cons_zero,setIfInBounds_toArray,set_cons_zero,set_cons_succ]
 refine wpAnyH_ready (rs:= [6]) (by kernel_rfl) (by simp) ?_
 refine AllReadyH.cons rfl (fun K hK=>?_) AllReadyH.nil
 go_simp
 refine hK.out _ _ (((HX9.out.later HB5.out).other6 (show nb+2≠nb by omega) _ _ _ _ _ _).cells) (fun hHeld=>?_)
 clear hK K
 try simp only[Act.put,getElem_toArray,getElem_cons_succ,getElem_cons_zero,setIfInBounds_toArray,set_cons_zero,set_cons_succ]
 refine wpAnyH_ready (rs:= [7]) (by kernel_rfl) (by simp) ?_
 refine AllReadyH.cons rfl (fun K hK=>?_) AllReadyH.nil
 go_simp
 refine hK.out _ _ ((((HX9.out.later HB5.out).other6 (show nb+2≠nb by omega) _ _ _ _ _ _).other4 (show nb+3≠nb by omega) _ _ _ _).cells) (fun hHeld=>?_)
 clear hK K
 try simp only[Act.put,getElem_toArray,getElem_cons_succ,getElem_cons_zero,setIfInBounds_toArray,set_cons_zero,set_cons_succ]
 refine wpAnyH_done (by kernel_rfl) ?_ _
 have hl5:nb+3<W9.drew.heap.size:=Nat.lt_of_lt_of_le hlt3 HC9.out.sz
 have HOE:=hid (own_lowerX (own_set4z (own_set6z HO5.out (Nat.lt_of_succ_lt hl5) (.int .i64 yt) (.int .i64 yn) (.int .i64 yk) (.slice ya yS.length yc) (.slice yka yK.length ykc) (.slice yma yM.length ymc)) hl5 (.int .i64 dc) (.int .i64 dn) (.int .i64 da) (.slice a5 dh.length p5)) (show w.heap.size<=W9.drew.heap.size from by have:=HNB.out;omega))
 have HBE:=hid (set4k (below_set6 (step HC9.out.B HB5.out) (nb+2) (by have:=HNB.out;omega) (.int .i64 yt) (.int .i64 yn) (.int .i64 yk) (.slice ya yS.length yc) (.slice yka yK.length ykc) (.slice yma yM.length ymc)) (nb+3) (by have:=HNB.out;omega) (.int .i64 dc) (.int .i64 dn) (.int .i64 da) (.slice a5 dh.length p5))
 have HFE:=hid ((FromS.set4 (FromS.set6 (HC9.out.F.later HB5.out) (show nb+2<HI from by omega) (.int .i64 yt) (.int .i64 yn) (.int .i64 yk) (.slice ya yS.length yc) (.slice yka yK.length ykc) (.slice yma yM.length ymc)) (show nb+3<HI from hlt3) (.int .i64 dc) (.int .i64 dn) (.int .i64 da) (.slice a5 dh.length p5)).lower hHI)
 go_wp2
 refine bodyPost_ret (by simp [results,Tryz.results60,go_sem,z0,z1,z2,z3,z4,z5,zf,r0,r1,r2,r3,rf]<;>rfl) rfl ?_
 have hRE:=HRE.out
 rw[HDD.out] at hRE
 rw[hRE]
 exact⟨⟨yt,yn,yk,yS,ya,yc,yK,yka,ykc,yM,yma,ymc⟩,a5,p5,rfl,rfl,HFE.out,HOE.out,HBE.out⟩
set_option maxHeartbeats 8000000 in
theorem Exec_free (x:StC) (c:Int) (m:CmdV) (w:World) (h:RdSt w x) (hR:Rst x.v) (hc:clientF c=true) (hm:mayF m=true) (hn:x.num<2305843009213693900) (ht:x.token<2305843009213693900) (hk1:m.kind≠1) (hyes:(findS x.S c).2=true/\(findS x.S c).1.num =m.session) (hk:m.kind=5):Calls Tryz.prog 60 #[stVal x,.int .i64 c,.agg #[.int .i64 m.kind,.int .i64 m.session,.string (bstr m.name)]] w (GetsSR (execA x.v c m) x w):=by
 obtain⟨W1,hW1⟩: ∃W1,W1=w.alloc (.cells #[.int .i64 x.time,.int .i64 x.num,.int .i64 x.token,x.sv,x.kv,x.mv] 26):=⟨_,rfl⟩
 have hb1:Below w.heap.size w W1:=by rw[hW1];exact newAlloc _ _
 have hB1:BoxS W1 w.heap.size x:=by rw[hW1];exact BoxS.new w x _
 have hs1:W1.heap.size=w.heap.size+1:=by rw[hW1];simp
 obtain⟨W2,hW2⟩: ∃W2,W2=W1.alloc (.cells #[.int .i64 m.kind,.int .i64 m.session,.string (bstr m.name)] 28):=⟨_,rfl⟩
 have hb2:Below W1.heap.size W1 W2:=by rw[hW2];exact newAlloc _ _
 have hQ:BoxC W2 (w.heap.size+1) m:=by rw[<-hs1,hW2];exact BoxC.new W1 m _
 have hs2:W2.heap.size=w.heap.size+2:=by rw[hW2];simp [hs1]
 obtain⟨W3,hW3⟩: ∃W3,W3=W2.alloc (.cells #[.int .i64 0,.int .i64 0,.int .i64 0,.slice none 0 0,.slice none 0 0,.slice none 0 0] 26):=⟨_,rfl⟩
 have hb3:Below W2.heap.size W2 W3:=by rw[hW3];exact newAlloc _ _
 have hZ:BoxS W3 (w.heap.size+2) zeroC10:=by rw[<-hs2,hW3];exact BoxS.new W2 zeroC10 _
 have hs3:W3.heap.size=w.heap.size+3:=by rw[hW3];simp [hs2]
 obtain⟨W4,hW4⟩: ∃W4,W4=W3.alloc (.cells #[.int .i64 0,.int .i64 0,.int .i64 0,.slice none 0 0] 36):=⟨_,rfl⟩
 have hb4:Below W3.heap.size W3 W4:=by rw[hW4];exact newAlloc _ _
 have hER:EmptyR W4 (w.heap.size+3):=by rw[<-hs3,hW4];exact EmptyR.new W3
 have hs4:W4.heap.size=w.heap.size+4:=by rw[hW4];simp [hs3]
 have hCU:CurE w W4.heap.size w.heap.size m x x W4:=⟨Nat.le_refl _,hB1.later (step hb2 (step hb3 hb4)),hQ.later (step hb3 hb4),hZ.later hb4,hER,FromS.refl _ _ _,step hb1 (step hb2 (step hb3 hb4))⟩
 have HRD:Hid (∀W,Below w.heap.size w W->RdSt W x):=hid fun W hb=>h.later hb
 have HRR:=hid hR
 have HSM:=hid hR.small
 obtain⟨HI,hHI'⟩: ∃HI,W4.heap.size=HI:=⟨_,rfl⟩
 obtain⟨nb,hnb⟩: ∃nb,w.heap.size=nb:=⟨_,rfl⟩
 have HNB:=hid hnb
 have hlt3:nb+3<HI:=by omega
 have hHI:w.heap.size<=HI:=by omega
 rw[hHI'] at hCU
 have HC0:Hid (CurE w HI nb m x x W4):=hid (by rw[hnb] at hCU;exact hCU)
 clear hCU hnb h hb1 hb2 hb3 hb4 hB1 hZ hQ hER hs1 hs2 hs3 hs4 hHI'
 obtain⟨R,hRV⟩: ∃R,execA x.v c m=R:=⟨_,rfl⟩
 have HRV:=hid hRV
 rw[hRV]
 clear hRV
 have KF:=hid (SesFind_any x.sv x.S c W4 (HRD.out W4 HC0.out.B).s)
 have KR:=hid (fun W (hb:Below w.heap.size w W)=>SesRenew_any x.sv x.S c x.time W (HRD.out W hb).s HRR.out.ses)
 have HR7:Hid (Rst (renewedA x.v c)):=hid (HRR.out.renewed hyes.1)
 obtain⟨xt,xn,xk,xS,sa,sc,xK,ka,kc,xM,ma,mc⟩:=x
 obtain⟨rk,rn,rm⟩:=m
 unfold stVal
 simp only[StC.sv,StC.kv,StC.mv] at hW1 KF KR ⊢
 dsimp only at hW2 hm hn ht
 obtain⟨c0,c1,c2,c3,c4,c5,cf⟩:=HC0.out.X
 simp only[StC.sv,StC.kv,StC.mv] at c0 c1 c2 c3 c4 c5
 obtain⟨q0,q1,q2⟩:=HC0.out.Q
 dsimp only at q0 q1 q2
 dsimp only at hyes hk1
 have d1:(rk==(1:Int))=false:=by simpa using hk1
 have HRE1:Hid (R=execB ⟨xt,xn,xk,(renewS xS c xt).1,vals xK,valsM xM⟩ c ⟨rk,rn,rm⟩):=hid (by
  rw[<-HRV.out]
  unfold execA
  rw[if_neg hk1,if_neg (fun q=>q.elim (fun q=>Bool.noConfusion (hyes.1.symm.trans q)) (fun q=>q hyes.2))]
  rfl)
 clear HRV hk1
 dsimp only at hk
 have d3:(rk==(3:Int))=false:=by simp [hk]
 have d4:(rk==(4:Int))=false:=by simp [hk]
 have d5:(rk==(5:Int))=true:=by simpa using hk
 have HRK:=hid hk
 have HMN:Hid (nameF rm=true):=hid (mayF_name hm (by dsimp only;omega))
 clear hk
 go_enter Tryz.func60,Tryz.ntmps60
 go_upto_region 1 with fail
 rw[<-hW1,<-hW2,<-hW3,<-hW4]
 rw[HNB.out]
 clear hW1 hW2 hW3 hW4
 obtain⟨⟨⟨fc,fn,fe⟩,fb⟩,hfr⟩: ∃p,findS xS c=p:=⟨_,rfl⟩
 rw[hfr] at KF
 have HFR:=hid hfr
 clear hfr
 go_upto_region 5 with (go_at_call 117;refine KF.out.mono ?_;rintro e w5 ⟨rfl,hb5⟩;unfold sesVal;dsimp only;have HB5:=hid hb5;clear hb5)
 obtain⟨W5,hW5⟩: ∃W5,W5=w5.alloc (.cells #[.int .i64 fc,.int .i64 fn,.int .i64 fe] 46):=⟨_,rfl⟩
 have HB45:Hid (Below W4.heap.size W4 W5):=hid (by rw[hW5];exact stepAlloc HB5.out _)
 have hy5:W5.cell? ⟨w5.heap.size,1,none⟩=some (.int .i64 fn):=by rw[hW5];exact(box3s (Below.refl _ _)).2.1
 rw[<-hW5]
 clear hW5
 have HC5:=hid (HC0.out.later HB45.out)
 clear c0 c1 c2 c3 c4 c5 cf q0 q1 q2 KF
 obtain⟨c0,c1,c2,c3,c4,c5,cf⟩:=HC5.out.X
 simp only[StC.sv,StC.kv,StC.mv] at c0 c1 c2 c3 c4 c5
 obtain⟨q0,q1,q2⟩:=HC5.out.Q
 dsimp only at q0 q1 q2
 have hfb:fb=true:=by have:=hyes.1;rw[HFR.out] at this;exact this
 have hfn:fn=rn:=by have:=hyes.2;rw[HFR.out] at this;exact this
 subst hfb
 have d2:(fn != rn)=false:=by simp [hfn]
 obtain⟨⟨rl,rcd⟩,hrn⟩: ∃p,renewS xS c xt=p:=⟨_,rfl⟩
 have HR7:Hid (Rst ⟨xt,xn,xk,rl,vals xK,valsM xM⟩):=hid (by
  have:=HR7.out
  unfold renewedA StC.v at this
  dsimp only at this
  rw[hrn] at this
  exact this)
 rw[hrn] at KR HRE1
 dsimp only at HRE1
 clear hrn hfn hyes
 go_upto_region 8 with (go_at_call 118;refine(KR.out W5 HC5.out.B).mono ?_;rintro e w6 ⟨v6,rfl,ho6,hb6⟩;dsimp only at ho6;obtain⟨a6,p6,rfl⟩:=Rw.own_form ho6;have HO6:=hid ho6;have HB56:=hid hb6;obtain⟨d0',d1',d2',c3',d4',d5',cf'⟩:=HC5.out.X.later hb6;simp only[StC.sv,StC.kv,StC.mv] at c3';clear ho6 hb6 d0' d1' d2' d4' d5')
 have hC7:=(HC5.out.later HB56.out).set3 HNB.out hlt3 rl a6 p6 HC5.out.sz HO6.out
 obtain⟨W7,hW7⟩: ∃W7,W7=w6.setCell ⟨nb,3,none⟩ (.slice a6 rl.length p6):=⟨_,rfl⟩
 rw[<-hW7] at hC7 ⊢
 have HC7:=hid hC7
 have HRD7:Hid (∀W,Below W7.heap.size W7 W->RdSt W ⟨xt,xn,xk,rl,a6,p6,xK,ka,kc,xM,ma,mc⟩):=hid fun W hb=>(HC7.out.F.later hb).rd (HRD.out W (step HC7.out.B hb))
 have HS7:Hid (Small ⟨xt,xn,xk,rl,a6,p6,xK,ka,kc,xM,ma,mc⟩):=hid (Rst.small (x:=⟨xt,xn,xk,rl,a6,p6,xK,ka,kc,xM,ma,mc⟩) HR7.out)
 clear hW7 hC7 c3' cf' c0 c1 c2 c3 c4 c5 cf q0 q1 q2 KR hy5 HO6 HB56 HC5 HC0 HB45 HB5
 obtain⟨c0,c1,c2,c3,c4,c5,cf⟩:=HC7.out.X
 simp only[StC.sv,StC.kv,StC.mv] at c0 c1 c2 c3 c4 c5
 obtain⟨q0,q1,q2⟩:=HC7.out.Q
 dsimp only at q0 q1 q2
 have HGO:Hid (Good (free1 (StC.v ⟨xt,xn,xk,rl,a6,p6,xK,ka,kc,xM,ma,mc⟩) c rm).1.locks (free1 (StC.v ⟨xt,xn,xk,rl,a6,p6,xK,ka,kc,xM,ma,mc⟩) c rm).1.token):=hid (by
  have g0:=good_free HR7.out.good rm c (by dsimp only;omega)
  unfold free1 freedA StC.v
  dsimp only at g0 ⊢
  by_cases e0:(freeK (vals xK) rm c xk).2.2=0
  ·rw[if_pos e0,if_pos e0];exact g0 e0
  ·rw[if_neg e0,if_neg e0];exact HR7.out.good)
 have KW:=hid (fun W (hb:Below W7.heap.size W7 W)=>AutoFree_any ⟨xt,xn,xk,rl,a6,p6,xK,ka,kc,xM,ma,mc⟩ c rm W (HRD7.out W hb) HS7.out HR7.out.good HMN.out hc (by dsimp only;omega))
 have HRE2:Hid (R=((free1 (StC.v ⟨xt,xn,xk,rl,a6,p6,xK,ka,kc,xM,ma,mc⟩) c rm).1,tellA (free1 (StC.v ⟨xt,xn,xk,rl,a6,p6,xK,ka,kc,xM,ma,mc⟩) c rm).1 c 0 (free1 (StC.v ⟨xt,xn,xk,rl,a6,p6,xK,ka,kc,xM,ma,mc⟩) c rm).2)):=hid (by
  have hrk:=HRK.out
  rw[HRE1.out]
  unfold execB
  rw[if_neg (by dsimp only;omega),if_pos hrk]
  rfl)
 obtain⟨⟨oS,oc⟩,hO⟩: ∃o,free1 (StC.v ⟨xt,xn,xk,rl,a6,p6,xK,ka,kc,xM,ma,mc⟩) c rm=o:=⟨_,rfl⟩
 rw[hO] at KW HRE2 HGO
 clear hO HRE1
 unfold stVal at KW
 simp only[StC.sv,StC.kv,StC.mv] at KW
 dsimp only at HRE2 HGO
 go_upto_region 17 with (go_at_call 120;refine(KW.out W7 (Below.refl _ _)).mono ?_;rintro e w8 ⟨⟨yt,yn,yk,yS,ya,yc,yK,yka,ykc,yM,yma,ymc⟩,he,hv8,hf8,hb8⟩;unfold stVal at he;simp only[StC.sv,StC.kv,StC.mv] at he;subst he;have HV8:=hid hv8;have HF8:=hid hf8;have HB78:=hid hb8;obtain⟨c0,c1,c2,c3,c4,c5,cf⟩:=HC7.out.X.later hb8;simp only[StC.sv,StC.kv,StC.mv] at c0 c1 c2 c3 c4 c5;clear hv8 hf8 hb8)
 have hC9:=(HC7.out.later HB78.out).put HNB.out hlt3 ⟨yt,yn,yk,yS,ya,yc,yK,yka,ykc,yM,yma,ymc⟩ HC7.out.sz HF8.out
 dsimp only at hC9
 obtain⟨W9,hW9⟩: ∃W9,W9=(((((w8.setCell ⟨nb,0,none⟩ (.int .i64 yt)).setCell ⟨nb,1,none⟩ (.int .i64 yn)).setCell ⟨nb,2,none⟩ (.int .i64 yk)).setCell ⟨nb,3,none⟩ (.slice ya yS.length yc)).setCell ⟨nb,4,none⟩ (.slice yka yK.length ykc)).setCell ⟨nb,5,none⟩ (.slice yma yM.length ymc):=⟨_,rfl⟩
 rw[<-hW9] at hC9 ⊢
 have HC9:=hid hC9
 clear hW9 hC9 c0 c1 c2 c3 c4 c5 cf q0 q1 q2 HF8
 obtain⟨c0,c1,c2,c3,c4,c5,cf⟩:=HC9.out.X
 simp only[StC.sv,StC.kv,StC.mv] at c0 c1 c2 c3 c4 c5
 have HX9:=hid HC9.out.X
 have HGD:Hid (Good (vals yK) yk):=hid (by
  have e1:vals yK= _:=congrArg StV.locks HV8.out
  have e2:yk= _:=congrArg StV.token HV8.out
  rw[e1,e2]
  exact HGO.out)
 have HRE:Hid (R=(StC.v ⟨yt,yn,yk,yS,ya,yc,yK,yka,ykc,yM,yma,ymc⟩,tellA (StC.v ⟨yt,yn,yk,yS,ya,yc,yK,yka,ykc,yM,yma,ymc⟩) c 0 oc)):=hid (by rw[HV8.out];exact HRE2.out)
 obtain⟨⟨dc,dn,da,dh⟩,hD⟩: ∃D,tellA (StC.v ⟨yt,yn,yk,yS,ya,yc,yK,yka,ykc,yM,yma,ymc⟩) c 0 oc=D:=⟨_,rfl⟩
 have KT:=hid (fun W (hb:Below W9.heap.size W9 W)=>AutoTell_any ⟨yt,yn,yk,yS,ya,yc,yK,yka,ykc,yM,yma,ymc⟩ c 0 oc W ((HC9.out.F.later hb).rd (HRD.out W (step HC9.out.B hb))) HGD.out hc)
 rw[hD] at KT
 unfold GetsTold stVal at KT
 simp only[StC.sv,StC.kv,StC.mv] at KT
 have HDD:=hid hD
 clear hD
 refine wp_region_held_drew (S:=(fun W=>(W.cell? ⟨nb,0,none⟩=some (.int .i64 yt)/\W.cell? ⟨nb,1,none⟩=some (.int .i64 yn)/\W.cell? ⟨nb,2,none⟩=some (.int .i64 yk))/\W.cell? ⟨nb,3,none⟩=some (.slice ya yS.length yc)/\W.cell? ⟨nb,4,none⟩=some (.slice yka yK.length ykc)/\W.cell? ⟨nb,5,none⟩=some (.slice yma yM.length ymc))) (by kernel_rfl) ((HX9.out.later (Below.refl _ W9).drew).cells) (fun hHeld=>?_)
 refine wpAnyH_take (i:=0) (v:=?_) rfl (by kernel_rfl) (by kernel_rfl) (by kernel_rfl) (fun _ _ _ h=>h) (Or.inl ⟨by rfl,?_⟩) (by assumption) ?_
 rotate_left
 ·intro w hSw;(try dsimp only at hSw);go_simp<;>with_reducible rfl
 try simp only[Act.put,getElem_toArray,getElem_cons_zero,setIfInBounds_toArray,set_cons_zero,set_cons_succ]
 refine wpAnyH_take (i:=1) (v:=?_) rfl (by kernel_rfl) (by kernel_rfl) (by kernel_rfl) (fun _ _ _ h=>h) (Or.inl ⟨by rfl,?_⟩) (by assumption) ?_
 rotate_left
 ·intro w hSw;(try dsimp only at hSw);go_simp<;>with_reducible rfl
 try simp only[Act.put,getElem_toArray,getElem_cons_succ,getElem_cons_zero,setIfInBounds_toArray,set_cons_zero,set_cons_succ]
 refine wpAnyH_take (i:=2) (v:=?_) rfl (by kernel_rfl) (by kernel_rfl) (by kernel_rfl) (fun _ _ _ h=>h) (Or.inl ⟨by rfl,?_⟩) (by assumption) ?_
 rotate_left
 ·intro w hSw;(try dsimp only at hSw);go_simp<;>with_reducible rfl
 try simp only[Act.put,getElem_toArray,getElem_cons_succ,getElem_cons_zero,setIfInBounds_toArray,set_cons_zero,set_cons_succ]
 refine wpAnyH_take (i:=3) (v:=?_) rfl (by kernel_rfl) (by kernel_rfl) (by kernel_rfl) (fun _ _ _ h=>h) (Or.inl ⟨by rfl,?_⟩) (by assumption) ?_
 rotate_left
 ·intro w hSw;(try dsimp only at hSw);go_simp<;>with_reducible rfl
 try simp only[Act.put,getElem_toArray,getElem_cons_succ,getElem_cons_zero,setIfInBounds_toArray,set_cons_zero,set_cons_succ]
 refine wpAnyH_take (i:=4) (v:=?_) rfl (by kernel_rfl) (by kernel_rfl) (by kernel_rfl) (fun _ _ _ h=>h) (Or.inl ⟨by rfl,?_⟩) (by assumption) ?_
 rotate_left
 ·intro w hSw;(try dsimp only at hSw);go_simp<;>with_reducible rfl
 try simp only[Act.put,getElem_toArray,getElem_cons_succ,getElem_cons_zero,setIfInBounds_toArray,set_cons_zero,set_cons_succ]
 refine wpAnyH_ready (rs:= [5]) (by kernel_rfl) (by simp) ?_
 refine AllReadyH.cons rfl (fun K hK=>?_) AllReadyH.nil
 go_simp
 go_at_call 116
 refine(KT.out W9.drew (Below.refl _ W9).drew).mono ?_
 rintro e w5 ⟨a5,p5,rfl,ho5,hb5⟩
 have HO5:=hid ho5
 have HB5:Hid (Below W9.heap.size W9 w5):=hid (step (Below.refl W9.heap.size W9).drew hb5)
 obtain⟨z0,z1,z2,z3,z4,z5,zf⟩:=HC9.out.Z.later HB5.out
 simp only[zeroC10,StC.sv,StC.kv,StC.mv,List.length_nil] at z0 z1 z2 z3 z4 z5
 obtain⟨⟨r0,r1,r2,r3⟩,rf⟩:=HC9.out.R _ HB5.out
 clear ho5 hb5
 refine hK.out _ _ ((HX9.out.later HB5.out).cells) (fun hHeld=>?_)
 clear hK K
 try simp only[Act.put,getElem_toArray,getElem_cons_succ,getElem_cons_zero,setIfInBounds_toArray,set_cons_zero,set_cons_succ]
 refine wpAnyH_ready (rs:= [6]) (by kernel_rfl) (by simp) ?_
 refine AllReadyH.cons rfl (fun K hK=>?_) AllReadyH.nil
 go_simp
 refine hK.out _ _ (((HX9.out.later HB5.out).other6 (show nb+2≠nb by omega) _ _ _ _ _ _).cells) (fun hHeld=>?_)
 clear hK K
 try simp only[Act.put,getElem_toArray,getElem_cons_succ,getElem_cons_zero,setIfInBounds_toArray,set_cons_zero,set_cons_succ]
 refine wpAnyH_ready (rs:= [7]) (by kernel_rfl) (by simp) ?_
 refine AllReadyH.cons rfl (fun K hK=>?_) AllReadyH.nil
 go_simp
 refine hK.out _ _ ((((HX9.out.later HB5.out).other6 (show nb+2≠nb by omega) _ _ _ _ _ _).other4 (show nb+3≠nb by omega) _ _ _ _).cells) (fun hHeld=>?_)
 clear hK K
 try simp only[Act.put,getElem_toArray,getElem_cons_succ,getElem_cons_zero,setIfInBounds_toArray,set_cons_zero,set_cons_succ]
 refine wpAnyH_done (by kernel_rfl) ?_ _
 have hl5:nb+3<W9.drew.heap.size:=Nat.lt_of_lt_of_le hlt3 HC9.out.sz
 have HOE:=hid (own_lowerX (own_set4z (own_set6z HO5.out (Nat.lt_of_succ_lt hl5) (.int .i64 yt) (.int .i64 yn) (.int .i64 yk) (.slice ya yS.length yc) (.slice yka yK.length ykc) (.slice yma yM.length ymc)) hl5 (.int .i64 dc) (.int .i64 dn) (.int .i64 da) (.slice a5 dh.length p5)) (show w.heap.size<=W9.drew.heap.size from by have:=HNB.out;omega))
 have HBE:=hid (set4k (below_set6 (step HC9.out.B HB5.out) (nb+2) (by have:=HNB.out;omega) (.int .i64 yt) (.int .i64 yn) (.int .i64 yk) (.slice ya yS.length yc) (.slice yka yK.length ykc) (.slice yma yM.length ymc)) (nb+3) (by have:=HNB.out;omega) (.int .i64 dc) (.int .i64 dn) (.int .i64 da) (.slice a5 dh.length p5))
 have HFE:=hid ((FromS.set4 (FromS.set6 (HC9.out.F.later HB5.out) (show nb+2<HI from by omega) (.int .i64 yt) (.int .i64 yn) (.int .i64 yk) (.slice ya yS.length yc) (.slice yka yK.length ykc) (.slice yma yM.length ymc)) (show nb+3<HI from hlt3) (.int .i64 dc) (.int .i64 dn) (.int .i64 da) (.slice a5 dh.length p5)).lower hHI)
 go_wp2
 refine bodyPost_ret (by simp [results,Tryz.results60,go_sem,z0,z1,z2,z3,z4,z5,zf,r0,r1,r2,r3,rf]<;>rfl) rfl ?_
 have hRE:=HRE.out
 rw[HDD.out] at hRE
 rw[hRE]
 exact⟨⟨yt,yn,yk,yS,ya,yc,yK,yka,ykc,yM,yma,ymc⟩,a5,p5,rfl,rfl,HFE.out,HOE.out,HBE.out⟩
set_option maxHeartbeats 8000000 in
theorem Exec_close (x:StC) (c:Int) (m:CmdV) (w:World) (h:RdSt w x) (hR:Rst x.v) (hc:clientF c=true) (hm:mayF m=true) (hn:x.num<2305843009213693900) (ht:x.token<2305843009213693900) (hk1:m.kind≠1) (hyes:(findS x.S c).2=true/\(findS x.S c).1.num =m.session) (hk:m.kind=6):Calls Tryz.prog 60 #[stVal x,.int .i64 c,.agg #[.int .i64 m.kind,.int .i64 m.session,.string (bstr m.name)]] w (GetsSR (execA x.v c m) x w):=by
 obtain⟨W1,hW1⟩: ∃W1,W1=w.alloc (.cells #[.int .i64 x.time,.int .i64 x.num,.int .i64 x.token,x.sv,x.kv,x.mv] 26):=⟨_,rfl⟩
 have hb1:Below w.heap.size w W1:=by rw[hW1];exact newAlloc _ _
 have hB1:BoxS W1 w.heap.size x:=by rw[hW1];exact BoxS.new w x _
 have hs1:W1.heap.size=w.heap.size+1:=by rw[hW1];simp
 obtain⟨W2,hW2⟩: ∃W2,W2=W1.alloc (.cells #[.int .i64 m.kind,.int .i64 m.session,.string (bstr m.name)] 28):=⟨_,rfl⟩
 have hb2:Below W1.heap.size W1 W2:=by rw[hW2];exact newAlloc _ _
 have hQ:BoxC W2 (w.heap.size+1) m:=by rw[<-hs1,hW2];exact BoxC.new W1 m _
 have hs2:W2.heap.size=w.heap.size+2:=by rw[hW2];simp [hs1]
 obtain⟨W3,hW3⟩: ∃W3,W3=W2.alloc (.cells #[.int .i64 0,.int .i64 0,.int .i64 0,.slice none 0 0,.slice none 0 0,.slice none 0 0] 26):=⟨_,rfl⟩
 have hb3:Below W2.heap.size W2 W3:=by rw[hW3];exact newAlloc _ _
 have hZ:BoxS W3 (w.heap.size+2) zeroC10:=by rw[<-hs2,hW3];exact BoxS.new W2 zeroC10 _
 have hs3:W3.heap.size=w.heap.size+3:=by rw[hW3];simp [hs2]
 obtain⟨W4,hW4⟩: ∃W4,W4=W3.alloc (.cells #[.int .i64 0,.int .i64 0,.int .i64 0,.slice none 0 0] 36):=⟨_,rfl⟩
 have hb4:Below W3.heap.size W3 W4:=by rw[hW4];exact newAlloc _ _
 have hER:EmptyR W4 (w.heap.size+3):=by rw[<-hs3,hW4];exact EmptyR.new W3
 have hs4:W4.heap.size=w.heap.size+4:=by rw[hW4];simp [hs3]
 have hCU:CurE w W4.heap.size w.heap.size m x x W4:=⟨Nat.le_refl _,hB1.later (step hb2 (step hb3 hb4)),hQ.later (step hb3 hb4),hZ.later hb4,hER,FromS.refl _ _ _,step hb1 (step hb2 (step hb3 hb4))⟩
 have HRD:Hid (∀W,Below w.heap.size w W->RdSt W x):=hid fun W hb=>h.later hb
 have HRR:=hid hR
 have HSM:=hid hR.small
 obtain⟨HI,hHI'⟩: ∃HI,W4.heap.size=HI:=⟨_,rfl⟩
 obtain⟨nb,hnb⟩: ∃nb,w.heap.size=nb:=⟨_,rfl⟩
 have HNB:=hid hnb
 have hlt3:nb+3<HI:=by omega
 have hHI:w.heap.size<=HI:=by omega
 rw[hHI'] at hCU
 have HC0:Hid (CurE w HI nb m x x W4):=hid (by rw[hnb] at hCU;exact hCU)
 clear hCU hnb h hb1 hb2 hb3 hb4 hB1 hZ hQ hER hs1 hs2 hs3 hs4 hHI'
 obtain⟨R,hRV⟩: ∃R,execA x.v c m=R:=⟨_,rfl⟩
 have HRV:=hid hRV
 rw[hRV]
 clear hRV
 have KF:=hid (SesFind_any x.sv x.S c W4 (HRD.out W4 HC0.out.B).s)
 have KR:=hid (fun W (hb:Below w.heap.size w W)=>SesRenew_any x.sv x.S c x.time W (HRD.out W hb).s HRR.out.ses)
 have HR7:Hid (Rst (renewedA x.v c)):=hid (HRR.out.renewed hyes.1)
 obtain⟨xt,xn,xk,xS,sa,sc,xK,ka,kc,xM,ma,mc⟩:=x
 obtain⟨rk,rn,rm⟩:=m
 unfold stVal
 simp only[StC.sv,StC.kv,StC.mv] at hW1 KF KR ⊢
 dsimp only at hW2 hm hn ht
 obtain⟨c0,c1,c2,c3,c4,c5,cf⟩:=HC0.out.X
 simp only[StC.sv,StC.kv,StC.mv] at c0 c1 c2 c3 c4 c5
 obtain⟨q0,q1,q2⟩:=HC0.out.Q
 dsimp only at q0 q1 q2
 dsimp only at hyes hk1
 have d1:(rk==(1:Int))=false:=by simpa using hk1
 have HRE1:Hid (R=execB ⟨xt,xn,xk,(renewS xS c xt).1,vals xK,valsM xM⟩ c ⟨rk,rn,rm⟩):=hid (by
  rw[<-HRV.out]
  unfold execA
  rw[if_neg hk1,if_neg (fun q=>q.elim (fun q=>Bool.noConfusion (hyes.1.symm.trans q)) (fun q=>q hyes.2))]
  rfl)
 clear HRV hk1
 dsimp only at hk
 have d3:(rk==(3:Int))=false:=by simp [hk]
 have d4:(rk==(4:Int))=false:=by simp [hk]
 have d5:(rk==(5:Int))=false:=by simp [hk]
 have d6:(rk==(6:Int))=true:=by simpa using hk
 have HRK:=hid hk
 clear hk
 go_enter Tryz.func60,Tryz.ntmps60
 go_upto_region 1 with fail
 rw[<-hW1,<-hW2,<-hW3,<-hW4]
 rw[HNB.out]
 clear hW1 hW2 hW3 hW4
 obtain⟨⟨⟨fc,fn,fe⟩,fb⟩,hfr⟩: ∃p,findS xS c=p:=⟨_,rfl⟩
 rw[hfr] at KF
 have HFR:=hid hfr
 clear hfr
 go_upto_region 5 with (go_at_call 117;refine KF.out.mono ?_;rintro e w5 ⟨rfl,hb5⟩;unfold sesVal;dsimp only;have HB5:=hid hb5;clear hb5)
 obtain⟨W5,hW5⟩: ∃W5,W5=w5.alloc (.cells #[.int .i64 fc,.int .i64 fn,.int .i64 fe] 46):=⟨_,rfl⟩
 have HB45:Hid (Below W4.heap.size W4 W5):=hid (by rw[hW5];exact stepAlloc HB5.out _)
 have hy5:W5.cell? ⟨w5.heap.size,1,none⟩=some (.int .i64 fn):=by rw[hW5];exact(box3s (Below.refl _ _)).2.1
 rw[<-hW5]
 clear hW5
 have HC5:=hid (HC0.out.later HB45.out)
 clear c0 c1 c2 c3 c4 c5 cf q0 q1 q2 KF
 obtain⟨c0,c1,c2,c3,c4,c5,cf⟩:=HC5.out.X
 simp only[StC.sv,StC.kv,StC.mv] at c0 c1 c2 c3 c4 c5
 obtain⟨q0,q1,q2⟩:=HC5.out.Q
 dsimp only at q0 q1 q2
 have hfb:fb=true:=by have:=hyes.1;rw[HFR.out] at this;exact this
 have hfn:fn=rn:=by have:=hyes.2;rw[HFR.out] at this;exact this
 subst hfb
 have d2:(fn != rn)=false:=by simp [hfn]
 obtain⟨⟨rl,rcd⟩,hrn⟩: ∃p,renewS xS c xt=p:=⟨_,rfl⟩
 have HR7:Hid (Rst ⟨xt,xn,xk,rl,vals xK,valsM xM⟩):=hid (by
  have:=HR7.out
  unfold renewedA StC.v at this
  dsimp only at this
  rw[hrn] at this
  exact this)
 rw[hrn] at KR HRE1
 dsimp only at HRE1
 clear hrn hfn hyes
 go_upto_region 8 with (go_at_call 118;refine(KR.out W5 HC5.out.B).mono ?_;rintro e w6 ⟨v6,rfl,ho6,hb6⟩;dsimp only at ho6;obtain⟨a6,p6,rfl⟩:=Rw.own_form ho6;have HO6:=hid ho6;have HB56:=hid hb6;obtain⟨d0',d1',d2',c3',d4',d5',cf'⟩:=HC5.out.X.later hb6;simp only[StC.sv,StC.kv,StC.mv] at c3';clear ho6 hb6 d0' d1' d2' d4' d5')
 have hC7:=(HC5.out.later HB56.out).set3 HNB.out hlt3 rl a6 p6 HC5.out.sz HO6.out
 obtain⟨W7,hW7⟩: ∃W7,W7=w6.setCell ⟨nb,3,none⟩ (.slice a6 rl.length p6):=⟨_,rfl⟩
 rw[<-hW7] at hC7 ⊢
 have HC7:=hid hC7
 have HRD7:Hid (∀W,Below W7.heap.size W7 W->RdSt W ⟨xt,xn,xk,rl,a6,p6,xK,ka,kc,xM,ma,mc⟩):=hid fun W hb=>(HC7.out.F.later hb).rd (HRD.out W (step HC7.out.B hb))
 have HS7:Hid (Small ⟨xt,xn,xk,rl,a6,p6,xK,ka,kc,xM,ma,mc⟩):=hid (Rst.small (x:=⟨xt,xn,xk,rl,a6,p6,xK,ka,kc,xM,ma,mc⟩) HR7.out)
 clear hW7 hC7 c3' cf' c0 c1 c2 c3 c4 c5 cf q0 q1 q2 KR hy5 HO6 HB56 HC5 HC0 HB45 HB5
 obtain⟨c0,c1,c2,c3,c4,c5,cf⟩:=HC7.out.X
 simp only[StC.sv,StC.kv,StC.mv] at c0 c1 c2 c3 c4 c5
 obtain⟨q0,q1,q2⟩:=HC7.out.Q
 dsimp only at q0 q1 q2
 have HGO:Hid (Good (dropA (StC.v ⟨xt,xn,xk,rl,a6,p6,xK,ka,kc,xM,ma,mc⟩) [c]).locks (dropA (StC.v ⟨xt,xn,xk,rl,a6,p6,xK,ka,kc,xM,ma,mc⟩) [c]).token):=hid (dropA_right HR7.out [c] (by dsimp only;omega)).1.good
 have KW:=hid (fun W u (hb:Below W7.heap.size W7 W) (hu:RdI W u [c])=>AutoWithout_any ⟨xt,xn,xk,rl,a6,p6,xK,ka,kc,xM,ma,mc⟩ u [c] W (HRD7.out W hb) HS7.out HR7.out.good (by dsimp only;omega) hu (by simp))
 have HRE2:Hid (R=(dropA (StC.v ⟨xt,xn,xk,rl,a6,p6,xK,ka,kc,xM,ma,mc⟩) [c],tellA (dropA (StC.v ⟨xt,xn,xk,rl,a6,p6,xK,ka,kc,xM,ma,mc⟩) [c]) c 0 0)):=hid (by
  have hrk:=HRK.out
  rw[HRE1.out]
  unfold execB
  rw[if_neg (by dsimp only;omega),if_neg (by dsimp only;omega),if_pos hrk]
  rfl)
 generalize dropA (StC.v ⟨xt,xn,xk,rl,a6,p6,xK,ka,kc,xM,ma,mc⟩) [c]=oS at KW HRE2 HGO
 clear HRE1
 unfold stVal at KW
 simp only[StC.sv,StC.kv,StC.mv] at KW
 have HB8a:Hid (Below W7.heap.size W7 (W7.alloc (.cells #[.int .i64 c] 3))):=hid (newAlloc _ _)
 have HU8:Hid (RdI (W7.alloc (.cells #[.int .i64 c] 3)) (.slice (some ⟨W7.heap.size,0,none⟩) 1 1) [c]):=hid (rdi_one W7 c)
 go_upto_region 17 with (go_at_call 69;refine(KW.out _ _ HB8a.out HU8.out).mono ?_;rintro e w8 ⟨⟨yt,yn,yk,yS,ya,yc,yK,yka,ykc,yM,yma,ymc⟩,he,hv8,hf8,hb8⟩;unfold stVal at he;simp only[StC.sv,StC.kv,StC.mv] at he;subst he;have HV8:=hid hv8;have HF8:=hid (hf8.lower HB8a.out.size);have HB78:=hid (step HB8a.out hb8);obtain⟨c0,c1,c2,c3,c4,c5,cf⟩:=HC7.out.X.later (step HB8a.out hb8);simp only[StC.sv,StC.kv,StC.mv] at c0 c1 c2 c3 c4 c5;clear hv8 hf8 hb8)
 have hC9:=(HC7.out.later HB78.out).put HNB.out hlt3 ⟨yt,yn,yk,yS,ya,yc,yK,yka,ykc,yM,yma,ymc⟩ HC7.out.sz HF8.out
 dsimp only at hC9
 obtain⟨W9,hW9⟩: ∃W9,W9=(((((w8.setCell ⟨nb,0,none⟩ (.int .i64 yt)).setCell ⟨nb,1,none⟩ (.int .i64 yn)).setCell ⟨nb,2,none⟩ (.int .i64 yk)).setCell ⟨nb,3,none⟩ (.slice ya yS.length yc)).setCell ⟨nb,4,none⟩ (.slice yka yK.length ykc)).setCell ⟨nb,5,none⟩ (.slice yma yM.length ymc):=⟨_,rfl⟩
 rw[<-hW9] at hC9 ⊢
 have HC9:=hid hC9
 clear hW9 hC9 c0 c1 c2 c3 c4 c5 cf q0 q1 q2 HF8
 obtain⟨c0,c1,c2,c3,c4,c5,cf⟩:=HC9.out.X
 simp only[StC.sv,StC.kv,StC.mv] at c0 c1 c2 c3 c4 c5
 have HX9:=hid HC9.out.X
 have HGD:Hid (Good (vals yK) yk):=hid (by
  have e1:vals yK= _:=congrArg StV.locks HV8.out
  have e2:yk= _:=congrArg StV.token HV8.out
  rw[e1,e2]
  exact HGO.out)
 have HRE:Hid (R=(StC.v ⟨yt,yn,yk,yS,ya,yc,yK,yka,ykc,yM,yma,ymc⟩,tellA (StC.v ⟨yt,yn,yk,yS,ya,yc,yK,yka,ykc,yM,yma,ymc⟩) c 0 0)):=hid (by rw[HV8.out];exact HRE2.out)
 obtain⟨⟨dc,dn,da,dh⟩,hD⟩: ∃D,tellA (StC.v ⟨yt,yn,yk,yS,ya,yc,yK,yka,ykc,yM,yma,ymc⟩) c 0 0=D:=⟨_,rfl⟩
 have KT:=hid (fun W (hb:Below W9.heap.size W9 W)=>AutoTell_any ⟨yt,yn,yk,yS,ya,yc,yK,yka,ykc,yM,yma,ymc⟩ c 0 0 W ((HC9.out.F.later hb).rd (HRD.out W (step HC9.out.B hb))) HGD.out hc)
 rw[hD] at KT
 unfold GetsTold stVal at KT
 simp only[StC.sv,StC.kv,StC.mv] at KT
 have HDD:=hid hD
 clear hD
 refine wp_region_held_drew (S:=(fun W=>(W.cell? ⟨nb,0,none⟩=some (.int .i64 yt)/\W.cell? ⟨nb,1,none⟩=some (.int .i64 yn)/\W.cell? ⟨nb,2,none⟩=some (.int .i64 yk))/\W.cell? ⟨nb,3,none⟩=some (.slice ya yS.length yc)/\W.cell? ⟨nb,4,none⟩=some (.slice yka yK.length ykc)/\W.cell? ⟨nb,5,none⟩=some (.slice yma yM.length ymc))) (by kernel_rfl) ((HX9.out.later (Below.refl _ W9).drew).cells) (fun hHeld=>?_)
 refine wpAnyH_take (i:=0) (v:=?_) rfl (by kernel_rfl) (by kernel_rfl) (by kernel_rfl) (fun _ _ _ h=>h) (Or.inl ⟨by rfl,?_⟩) (by assumption) ?_
 rotate_left
 ·intro w hSw;(try dsimp only at hSw);go_simp<;>with_reducible rfl
 try simp only[Act.put,getElem_toArray,getElem_cons_zero,setIfInBounds_toArray,set_cons_zero,set_cons_succ]
 refine wpAnyH_take (i:=1) (v:=?_) rfl (by kernel_rfl) (by kernel_rfl) (by kernel_rfl) (fun _ _ _ h=>h) (Or.inl ⟨by rfl,?_⟩) (by assumption) ?_
 rotate_left
 ·intro w hSw;(try dsimp only at hSw);go_simp<;>with_reducible rfl
 try simp only[Act.put,getElem_toArray,getElem_cons_succ,getElem_cons_zero,setIfInBounds_toArray,set_cons_zero,set_cons_succ]
 refine wpAnyH_take (i:=2) (v:=?_) rfl (by kernel_rfl) (by kernel_rfl) (by kernel_rfl) (fun _ _ _ h=>h) (Or.inl ⟨by rfl,?_⟩) (by assumption) ?_
 rotate_left
 ·intro w hSw;(try dsimp only at hSw);go_simp<;>with_reducible rfl
 try simp only[Act.put,getElem_toArray,getElem_cons_succ,getElem_cons_zero,setIfInBounds_toArray,set_cons_zero,set_cons_succ]
 refine wpAnyH_take (i:=3) (v:=?_) rfl (by kernel_rfl) (by kernel_rfl) (by kernel_rfl) (fun _ _ _ h=>h) (Or.inl ⟨by rfl,?_⟩) (by assumption) ?_
 rotate_left
 ·intro w hSw;(try dsimp only at hSw);go_simp<;>with_reducible rfl
 try simp only[Act.put,getElem_toArray,getElem_cons_succ,getElem_cons_zero,setIfInBounds_toArray,set_cons_zero,set_cons_succ]
 refine wpAnyH_take (i:=4) (v:=?_) rfl (by kernel_rfl) (by kernel_rfl) (by kernel_rfl) (fun _ _ _ h=>h) (Or.inl ⟨by rfl,?_⟩) (by assumption) ?_
 rotate_left
 ·intro w hSw;(try dsimp only at hSw);go_simp<;>with_reducible rfl
 try simp only[Act.put,getElem_toArray,getElem_cons_succ,getElem_cons_zero,setIfInBounds_toArray,set_cons_zero,set_cons_succ]
 refine wpAnyH_ready (rs:= [5]) (by kernel_rfl) (by simp) ?_
 refine AllReadyH.cons rfl (fun K hK=>?_) AllReadyH.nil
 go_simp
 go_at_call 116
 refine(KT.out W9.drew (Below.refl _ W9).drew).mono ?_
 rintro e w5 ⟨a5,p5,rfl,ho5,hb5⟩
 have HO5:=hid ho5
 have HB5:Hid (Below W9.heap.size W9 w5):=hid (step (Below.refl W9.heap.size W9).drew hb5)
 obtain⟨z0,z1,z2,z3,z4,z5,zf⟩:=HC9.out.Z.later HB5.out
 simp only[zeroC10,StC.sv,StC.kv,StC.mv,List.length_nil] at z0 z1 z2 z3 z4 z5
 obtain⟨⟨r0,r1,r2,r3⟩,rf⟩:=HC9.out.R _ HB5.out
 clear ho5 hb5
 refine hK.out _ _ ((HX9.out.later HB5.out).cells) (fun hHeld=>?_)
 clear hK K
 try simp only[Act.put,getElem_toArray,getElem_cons_succ,getElem_cons_zero,setIfInBounds_toArray,set_cons_zero,set_cons_succ]
 refine wpAnyH_ready (rs:= [6]) (by kernel_rfl) (by simp) ?_
 refine AllReadyH.cons rfl (fun K hK=>?_) AllReadyH.nil
 go_simp
 refine hK.out _ _ (((HX9.out.later HB5.out).other6 (show nb+2≠nb by omega) _ _ _ _ _ _).cells) (fun hHeld=>?_)
 clear hK K
 try simp only[Act.put,getElem_toArray,getElem_cons_succ,getElem_cons_zero,setIfInBounds_toArray,set_cons_zero,set_cons_succ]
 refine wpAnyH_ready (rs:= [7]) (by kernel_rfl) (by simp) ?_
 refine AllReadyH.cons rfl (fun K hK=>?_) AllReadyH.nil
 go_simp
 refine hK.out _ _ ((((HX9.out.later HB5.out).other6 (show nb+2≠nb by omega) _ _ _ _ _ _).other4 (show nb+3≠nb by omega) _ _ _ _).cells) (fun hHeld=>?_)
 clear hK K
 try simp only[Act.put,getElem_toArray,getElem_cons_succ,getElem_cons_zero,setIfInBounds_toArray,set_cons_zero,set_cons_succ]
 refine wpAnyH_done (by kernel_rfl) ?_ _
 have hl5:nb+3<W9.drew.heap.size:=Nat.lt_of_lt_of_le hlt3 HC9.out.sz
 have HOE:=hid (own_lowerX (own_set4z (own_set6z HO5.out (Nat.lt_of_succ_lt hl5) (.int .i64 yt) (.int .i64 yn) (.int .i64 yk) (.slice ya yS.length yc) (.slice yka yK.length ykc) (.slice yma yM.length ymc)) hl5 (.int .i64 dc) (.int .i64 dn) (.int .i64 da) (.slice a5 dh.length p5)) (show w.heap.size<=W9.drew.heap.size from by have:=HNB.out;omega))
 have HBE:=hid (set4k (below_set6 (step HC9.out.B HB5.out) (nb+2) (by have:=HNB.out;omega) (.int .i64 yt) (.int .i64 yn) (.int .i64 yk) (.slice ya yS.length yc) (.slice yka yK.length ykc) (.slice yma yM.length ymc)) (nb+3) (by have:=HNB.out;omega) (.int .i64 dc) (.int .i64 dn) (.int .i64 da) (.slice a5 dh.length p5))
 have HFE:=hid ((FromS.set4 (FromS.set6 (HC9.out.F.later HB5.out) (show nb+2<HI from by omega) (.int .i64 yt) (.int .i64 yn) (.int .i64 yk) (.slice ya yS.length yc) (.slice yka yK.length ykc) (.slice yma yM.length ymc)) (show nb+3<HI from hlt3) (.int .i64 dc) (.int .i64 dn) (.int .i64 da) (.slice a5 dh.length p5)).lower hHI)
 go_wp2
 refine bodyPost_ret (by simp [results,Tryz.results60,go_sem,z0,z1,z2,z3,z4,z5,zf,r0,r1,r2,r3,rf]<;>rfl) rfl ?_
 have hRE:=HRE.out
 rw[HDD.out] at hRE
 rw[hRE]
 exact⟨⟨yt,yn,yk,yS,ya,yc,yK,yka,ykc,yM,yma,ymc⟩,a5,p5,rfl,rfl,HFE.out,HOE.out,HBE.out⟩
theorem AutoExec_any (x:StC) (c:Int) (m:CmdV) (w:World) (h:RdSt w x) (hR:Rst x.v) (hc:clientF c=true) (hm:mayF m=true) (hn:x.num<2305843009213693900) (ht:x.token<2305843009213693900):Calls Tryz.prog 60 #[stVal x,.int .i64 c,.agg #[.int .i64 m.kind,.int .i64 m.session,.string (bstr m.name)]] w (GetsSR (execA x.v c m) x w):=by
 by_cases hk:m.kind=1
 ·exact Exec_open x c m w h hR hc hm hn ht hk
 by_cases hno:(findS x.S c).2=false\/(findS x.S c).1.num ≠m.session
 ·exact Exec_no x c m w h hR hc hm hn ht hk hno
 have hyes:(findS x.S c).2=true/\(findS x.S c).1.num =m.session:=by
  refine⟨?_,Decidable.byContradiction fun q=>hno (Or.inr q)⟩
  cases q:(findS x.S c).2 with
  | true=>rfl
  | false=>exact absurd (Or.inl q) hno
 by_cases h3:m.kind=3
 ·exact Exec_take3 x c m w h hR hc hm hn ht hk hyes h3
 by_cases h4:m.kind=4
 ·exact Exec_take4 x c m w h hR hc hm hn ht hk hyes h4
 by_cases h5:m.kind=5
 ·exact Exec_free x c m w h hR hc hm hn ht hk hyes h5
 by_cases h6:m.kind=6
 ·exact Exec_close x c m w h hR hc hm hn ht hk hyes h6
 exact Exec_keep x c m w h hR hc hm hn ht hk hyes h3 h4 h5 h6
end Cm
end Go.Proofs.YtclcgkpfcogcdaaGreat
