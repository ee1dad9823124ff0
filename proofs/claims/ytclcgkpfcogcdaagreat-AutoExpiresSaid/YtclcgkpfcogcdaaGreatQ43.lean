/- Texts laid together by program. -/
import Derived.Test.YtclcgkpfcogcdaaGreatQ38
import Derived.Deep.LoopGhost
/- Contracts: package auto's isNumber, allGiven, Gone. -/
set_option linter.unusedVariables false
set_option maxRecDepth 8000
set_option linter.unusedSimpArgs false
namespace Go.Proofs.YtclcgkpfcogcdaaGreat
open Lib (hid)
open Go.RowKit Go.Shelf Go.Deep
namespace Cm

theorem isNumberA_any (v:Int) (w:World):Calls Tryz.prog 46 #[.int .i64 v] w (Says (highF v 0) w):=by
  unfold highF
  by_cases h1:0<=v<;>by_cases h2:v<=2305843009213693952<;>
    (go_enter Tryz.func46,Tryz.ntmps46
     go_wp2
     go_ret
     exact⟨by simp [h1,h2]<;>omega,rfl⟩)
theorem given1_any (s:SesV) (w:World) (b:Nat) (n:Int) (hb:w.cell? ⟨b,1,none⟩=some (.int .i64 n)):
  Calls Tryz.prog 97 #[sesVal s,.pointer (some ⟨b,0,none⟩)] w (SaysB (decide (n<s.num)) w):=by
 obtain⟨gc,gn,gr⟩:=s
 unfold sesVal
 dsimp only
 have HB:=hid (newAlloc w (.cells #[.int .i64 gc,.int .i64 gn,.int .i64 gr] 46))
 obtain⟨y0,y1,y2⟩:=box3 (Below.refl _ (w.alloc (.cells #[.int .i64 gc,.int .i64 gn,.int .i64 gr] 46)))
 have z1:=(HB.out.cell (lt_of_cell hb)).trans hb
 clear hb
 go_enter Tryz.func97,Tryz.ntmps97
 go_wp2
 go_ret
 exact⟨by simp<;>rfl,HB.out⟩
theorem given2_any (x:LockC) (w:World) (b:Nat) (t:Int) (hb:w.cell? ⟨b,2,none⟩=some (.int .i64 t)):
  Calls Tryz.prog 98 #[lockVal x,.pointer (some ⟨b,0,none⟩)] w (SaysB (decide (t<x.token)) w):=by
 obtain⟨xn,xh,xt,xl,xa,xc⟩:=x
 unfold lockVal LockC.lv
 dsimp only
 have HB:=hid (newAlloc w (.cells #[.string (bstr xn),.int .i64 xh,.int .i64 xt,.slice xa xl.length xc] 60))
 obtain⟨y0,y1,y2,y3⟩:=box4 (Below.refl _ (w.alloc (.cells #[.string (bstr xn),.int .i64 xh,.int .i64 xt,.slice xa xl.length xc] 60)))
 have z1:=(HB.out.cell (lt_of_cell hb)).trans hb
 clear hb
 generalize xl.length=N at*
 go_enter Tryz.func98,Tryz.ntmps98
 go_wp2
 go_ret
 exact⟨by simp<;>rfl,HB.out⟩
theorem enters_given1: ∀args w,(callFunc 97 args).run Tryz.prog w= .ok (.enter 97 args) w:=enters_of Tryz.func97 (by kernel_rfl) rfl
theorem enters_given2: ∀args w,(callFunc 98 args).run Tryz.prog w= .ok (.enter 98 args) w:=enters_of Tryz.func98 (by kernel_rfl) rfl
def givenA (s:StV):Bool:=s.ses.all (fun x=>decide (x.num<=s.num)) && s.locks.all (fun k=>decide (k.token<=s.token))
theorem any_not {α:Type} (l:List α) (p q:α->Bool) (h: ∀x,q x= !p x):l.any q= !l.all p:=by
 rw[List.not_all_eq_any_not]
 congr 1
 funext x
 exact h x
set_option maxHeartbeats 1000000 in
theorem allGiven_any (x:StC) (w:World) (h:RdSt w x):Calls Tryz.prog 50 #[stVal x] w (SaysB (givenA x.v) w):=by
 have hmf: ∀(fn:Fn) (first cap:Array Value) (w:World),(Instr.makeFunc fn first cap).run Tryz.prog w= .ok (.func fn first cap) w:=fun _ _ _ _=>rfl
 obtain⟨W1,hW1⟩: ∃W1,W1=w.alloc (.cells #[.int .i64 x.time,.int .i64 x.num,.int .i64 x.token,x.sv,x.kv,x.mv] 26):=⟨_,rfl⟩
 have hb1:Below w.heap.size w W1:=by rw[hW1];exact newAlloc _ _
 have hB1:BoxS W1 w.heap.size x:=by rw[hW1];exact BoxS.new w x _
 have HB:=hid hb1
 have KS:=hid (fun W (hb:Below W1.heap.size W1 W)=>HasS_any (fun s=>decide (x.num<s.num)) 97 #[.pointer (some ⟨w.heap.size,0,none⟩)] enters_given1 x.sv x.S W ((h.later (step hb1 hb)).s)
  (fun V s hv=>given1_any s V w.heap.size x.num (hB1.later (step hb hv)).c1))
 have KK:=hid (fun W (hb:Below W1.heap.size W1 W)=>HasK_any (fun k=>decide (x.token<k.token)) 98 #[.pointer (some ⟨w.heap.size,0,none⟩)] enters_given2 x.kv x.K W ((h.later (step hb1 hb)).k.row)
  (fun V s hv=>given2_any s V w.heap.size x.token (hB1.later (step hb hv)).c2))
 have HBX:=hid hB1
 have hR:givenA x.v=(!(x.S.any fun s=>decide (x.num<s.num)) && !(x.K.any fun k=>decide (x.token<k.token))):=by
  unfold givenA StC.v vals
  rw[any_not x.S (fun s=>decide (s.num<=x.num)) _ (fun s=>by by_cases q:x.num<s.num<;>simp [q]<;>omega),any_not x.K (fun k=>decide (k.token<=x.token)) _ (fun s=>by by_cases q:x.token<s.token<;>simp [q]<;>omega),Bool.not_not,Bool.not_not]
  congr 1
  dsimp only
  rw[List.all_map]
  rfl
 rw[hR]
 clear hR h hb1 hB1
 generalize (x.S.any fun s=>decide (x.num<s.num))=r1 at KS ⊢
 generalize (x.K.any fun k=>decide (x.token<k.token))=r2 at KK ⊢
 obtain⟨nb,hnb⟩: ∃nb,w.heap.size=nb:=⟨_,rfl⟩
 have HNB:=hid hnb
 rw[hnb] at KS KK HBX
 clear hnb
 obtain⟨xt,xn,xk,xS,sa,sc,xK,ka,kc,xM,ma,mc⟩:=x
 unfold stVal
 simp only[StC.sv,StC.kv,StC.mv] at hW1 KS KK ⊢
 obtain⟨c0,c1,c2,c3,c4,c5,cf⟩:=HBX.out
 simp only[StC.sv,StC.kv,StC.mv] at c0 c1 c2 c3 c4 c5
 go_enter Tryz.func50,Tryz.ntmps50
 go_upto_region 1 with fail
 rw[<-hW1]
 rw[HNB.out]
 clear hW1
 cases r1 with
 | true=>
  go_wp2_with (go_at_call 99;refine(KS.out W1 (Below.refl _ _)).mono ?_;rintro e w2 ⟨rfl,hb2⟩;have HB2:=hid hb2;clear hb2)
  go_ret
  exact⟨by simp,step HB.out HB2.out⟩
 | false=>
  go_wp2_with (first
   | (go_at_call 99;refine(KS.out W1 (Below.refl _ _)).mono ?_;rintro e w2 ⟨rfl,hb2⟩;have HB2:=hid hb2;obtain⟨d0,d1,d2,d3,d4,d5,df⟩:=HBX.out.later hb2;simp only[StC.sv,StC.kv,StC.mv] at d0 d1 d2 d3 d4 d5;clear hb2)
   | (go_at_call 100;refine(KK.out w2 HB2.out).mono ?_;rintro e w3 ⟨rfl,hb3⟩;have HB3:=hid hb3;clear hb3))
  go_ret
  exact⟨by simp,step HB.out (step HB2.out HB3.out)⟩
/-! ### Gone -/
def goneD (b:StV) (x:SesV):Bool:= !(b.ses.any fun s=>decide (s.client=x.client) && decide (s.num=x.num))
theorem goneD_eq {b:StV} (h:b.ses.Pairwise fun a b=>a.client<b.client) (x:SesV):goneD b x=goneE b x:=by
 unfold goneD goneE
 rw[<-Bool.not_and]
 congr 1
 have key: ∀l:List SesV,(l.Pairwise fun a b=>a.client<b.client)->(l.any fun s=>decide (s.client=x.client) && decide (s.num=x.num))=((findS l x.client).2 && decide ((findS l x.client).1.num =x.num)):=by
  intro l
  induction l with
  | nil=>intro _;rfl
  | cons s l ih=>
   intro hp
   obtain⟨p1,p2⟩:=List.pairwise_cons.1 hp
   rw[List.any_cons,findS]
   by_cases q:s.client=x.client
   ·rw[if_pos q,decide_eq_true q,Bool.true_and]
    try rw[Bool.true_and]
    have:(l.any fun s=>decide (s.client=x.client) && decide (s.num=x.num))=false:=by
     rw[List.any_eq_false]
     intro y hy
     have:=p1 y hy
     simp only[Bool.and_eq_true,decide_eq_true_eq,not_and]
     intro e
     omega
    rw[this,Bool.or_false]
   ·rw[if_neg q,decide_eq_false q,Bool.false_and,Bool.false_or]
    exact ih p2
 exact key _ h
set_option maxHeartbeats 8000000 in
theorem AutoGoneD_any (x y:StC) (w:World) (h:RdSt w x) (h2:RdSt w y) (h5:x.S.length<=1000) (h6:y.S.length<=1000):Calls Tryz.prog 28 #[stVal x,stVal y] w (GetsN ((x.S.filter (goneD y.v)).map (·.client)) w):=by
 obtain⟨W1,hW1⟩: ∃W1,W1=w.alloc (.cells #[.int .i64 x.time,.int .i64 x.num,.int .i64 x.token,x.sv,x.kv,x.mv] 26):=⟨_,rfl⟩
 have hb1:Below w.heap.size w W1:=by rw[hW1];exact newAlloc _ _
 have hB1:BoxS W1 w.heap.size x:=by rw[hW1];exact BoxS.new w x _
 have hs1:W1.heap.size=w.heap.size+1:=by rw[hW1];simp
 obtain⟨W2,hW2⟩: ∃W2,W2=W1.alloc (.cells #[.int .i64 y.time,.int .i64 y.num,.int .i64 y.token,y.sv,y.kv,y.mv] 26):=⟨_,rfl⟩
 have hb2:Below W1.heap.size W1 W2:=by rw[hW2];exact newAlloc _ _
 have hY:BoxS W2 (w.heap.size+1) y:=by rw[<-hs1,hW2];exact BoxS.new W1 y _
 have HX0:=hid (hB1.later hb2)
 have HY0:=hid hY
 have HB0:=hid (step hb1 hb2)
 have HAX:=hid (fun i hi=>rds_at h.s i hi)
 have HAY:=hid (fun i hi=>rds_at h2.s i hi)
 have HGD:Hid (∀z:SesV,goneD y.v z= !(y.S.any fun s=>decide (s.client=z.client) && decide (s.num=z.num))):=hid fun z=>rfl
 have HFT:=hid (fun j hj=>map_filter_take x.S (goneD y.v) j hj)
 have HFL:Hid (∀j,((((x.S.take j).filter (goneD y.v)).map (·.client)):List Int).length <=1000):=hid fun j=>by
  rw[List.length_map]
  exact Nat.le_trans (List.length_filter_le _ _) (by rw[List.length_take];omega)
 obtain⟨nb,hnb⟩: ∃nb,w.heap.size=nb:=⟨_,rfl⟩
 have HNB:=hid hnb
 rw[hnb] at HX0 HY0
 clear hnb h h2 hb1 hb2 hB1 hY hs1
 generalize goneD y.v=G at HGD HFT HFL ⊢
 obtain⟨xt,xn,xk,xS,sa,sc,xK,ka,kc,xM,ma,mc⟩:=x
 obtain⟨yt,yn,yk,yS,ya,yc,yK,yka,ykc,yM,yma,ymc⟩:=y
 unfold stVal
 simp only[StC.sv,StC.kv,StC.mv] at hW1 hW2 HAX HAY ⊢
 dsimp only at h5 h6 HGD HFT HFL ⊢
 obtain⟨NX,hNX⟩: ∃NX,xS.length=NX:=⟨_,rfl⟩
 obtain⟨NY,hNY⟩: ∃NY,yS.length=NY:=⟨_,rfl⟩
 have HNX:=hid hNX
 have HNY:=hid hNY
 obtain⟨c0,c1,c2,c3,c4,c5,cf⟩:=HX0.out
 simp only[StC.sv,StC.kv,StC.mv] at c0 c1 c2 c3 c4 c5
 rw[hNX] at c3 h5
 rw[hNY] at h6
 clear hNX hNY
 have hm1:NX<=9223372036854775807:=by omega
 have hm2:NY<=9223372036854775807:=by omega
 obtain⟨i0,hi,hz0,hz1,hz2⟩:=info_parts infoN
 go_enter Tryz.func28,Tryz.ntmps28
 go_wp2
 go_step3
 go_wp2
 rw[<-hW1,<-hW2]
 rw[HNB.out]
 clear hW1 hW2
 go_step3
 go_wp2
 go_loopg [5,13] NX (fun g m i wx=> ∃(k:Nat) (M:List Int),k+g=NX/\i= .int .i64 k/\M.length<=1000/\Hid (M=((xS.take k).filter G).map (·.client))/\Hid (wx.ownsRow W2.heap.size 3 1 m M.length (flatX cellsI M))/\Hid (Below W2.heap.size W2 wx))
 case atStart=>exact⟨0,[],by omega,rfl,by simp,hid rfl,hid (World.ownsRow_nil _ _ _ _),hid (Below.refl _ _)⟩
 case round=>
  obtain⟨k,M,hkg,rfl,hMl,HM,HO,HB⟩:=hrel
  cases gk with
  | zero=>
   have hkz: ¬((k:Int)<(NX:Int)):=by omega
   have hk:k=NX:=by omega
   have hM:=HM.out
   rw[hk,<-HNX.out,List.take_length] at hM
   have HMM:=hid hM
   obtain⟨ua,uc,rfl⟩:=Rw.own_form HO.out
   clear hM HM hk
   go_wp2
   try rw[Exit.noGoto_ret]
   go_ret
   rw[<-HMM.out]
   exact⟨_,rfl,own_lowerX HO.out HB0.out.size,step HB0.out HB.out⟩
  | succ g=>
   have hkz:(k:Int)<(NX:Int):=by omega
   have f1:(0:Int)<=(k:Int):=by omega
   have hkl:k<xS.length:=by rw[HNX.out];omega
   obtain⟨b,o,rfl,hc⟩:=HAX.out k hkl
   have HBW:=hid (step HB0.out HB.out)
   obtain⟨q0,q1,q2⟩:=hc wr HBW.out
   have hft:=HFT.out k hkl
   have hfl:=HFL.out (k+1)
   clear hc HAX HFT HFL
   generalize xS[k]=z at q0 q1 q2 hft
   obtain⟨gc,gn,gr⟩:=z
   dsimp only at q0 q1 q2 hft
   rw[<-HM.out] at hft
   have hgd:=HGD.out ⟨gc,gn,gr⟩
   dsimp only at hgd
   clear HM HGD
   obtain⟨c0,c1,c2,c3,c4,c5,cf⟩:=HX0.out.later HB.out
   simp only[StC.sv,StC.kv,StC.mv] at c0 c1 c2 c3 c4 c5
   rw[HNX.out] at c3
   obtain⟨d0,d1,d2,d3,d4,d5,df⟩:=HY0.out.later (step HB.out (newAlloc wr (.cells #[.int .i64 gc,.int .i64 gn,.int .i64 gr] 46)))
   simp only[StC.sv,StC.kv,StC.mv] at d0 d1 d2 d3 d4 d5
   rw[HNY.out] at d3
   obtain⟨W3,hW3⟩: ∃W3,W3=wr.alloc (.cells #[.int .i64 gc,.int .i64 gn,.int .i64 gr] 46):=⟨_,rfl⟩
   have HB3:Hid (Below W2.heap.size W2 W3):=hid (by rw[hW3];exact step HB.out (newAlloc _ _))
   have HO3:Hid (W3.ownsRow W2.heap.size 3 1 u5 M.length (flatX cellsI M)):=hid (by rw[hW3];exact Rw.own_alloc HO.out _)
   obtain⟨z0,z1,z2⟩:=box3s (Below.refl _ (wr.alloc (.cells #[.int .i64 gc,.int .i64 gn,.int .i64 gr] 46)))
   rw[<-hW3] at z0 z1 z2 d0 d1 d2 d3 d4 d5
   have HZ3:Hid (∀W,Below W3.heap.size W3 W->W.cell? ⟨wr.heap.size,0,none⟩=some (.int .i64 gc)/\W.cell? ⟨wr.heap.size,1,none⟩=some (.int .i64 gn)):=hid fun W hb=>⟨(hb.cell (lt_of_cell z0)).trans z0,(hb.cell (lt_of_cell z1)).trans z1⟩
   have HWW:=hid hW3
   clear hW3 df
   go_upto_region 5 with fail
   rw[<-HWW.out]
   clear HWW q0 q1 q2 c0 c1 c2 c3 c4 c5 cf
   obtain⟨bz,hbz⟩: ∃bz,wr.heap.size=bz:=⟨_,rfl⟩
   rw[hbz] at HZ3 z0 z1 z2 ⊢
   clear hbz
   obtain⟨wo,rfl⟩: ∃wo,wo=wr:=⟨_,rfl⟩
   go_wp2
   go_loopg [20] NY (fun g2 i wx=> ∃(j:Nat),j+g2=NY/\i= .int .i64 j/\Hid (((yS.take j).any fun s=>decide (s.client=gc) && decide (s.num=gn))=false)/\Hid (Below W3.heap.size W3 wx))
   case atStart=>exact⟨0,by omega,rfl,hid rfl,hid (Below.refl _ _)⟩
   case round=>
    clear z0 z1 z2 d0 d1 d2 d3 d4 d5
    obtain⟨j,hjg,rfl,HJ,HB4⟩:=hrel
    obtain⟨z0,z1⟩:=HZ3.out wr HB4.out
    have HB24:=hid (step HB3.out HB4.out)
    cases gk with
    | zero=>
     have hjz: ¬((j:Int)<(NY:Int)):=by omega
     have hj:j=NY:=by omega
     have hJ:=HJ.out
     rw[hj,<-HNY.out,List.take_length] at hJ
     rw[hJ] at hgd
     have hgt:G ⟨gc,gn,gr⟩=true:=by rw[hgd];rfl
     rw[if_pos hgt] at hft
     rw[hft,List.length_append,List.length_singleton] at hfl
     have H:=hid hft
     have HFLL:=hid hfl
     have HO4:=hid (Rw.own_below HO3.out HB4.out)
     have HBW4:=hid (step HB0.out HB24.out)
     clear hft hfl hgd hgt hJ hj HJ
     go_wp2_with (at_builtin;refine wpList_append_one cellsI_length (by omega) rfl (.tmp 37) (.tmp 40) 58 rfl 3 i0 _ 8 Tryz.underlying58 hi hz0 hz1 hz2 rfl #[.int .i64 gc] gc rfl (cellsI_one _) M W2.heap.size W2.heap.size W2 _ rfl rfl HO4.out (by unfold maxLen;omega) (by omega) HB24.out.size HB24.out (Nat.le_refl _) ?_;intro v5 w5 ho5 hb5 _;have HO5:=hid ho5;have HB5:=hid hb5;clear ho5 hb5)
     go_roundg g
     case measure=>omega
     case rel=>exact⟨k+1,M++ [gc],by omega,by go_num,by simpa using HFLL.out,hid H.out.symm,HO5,HB5⟩
    | succ g2=>
     have hjz:(j:Int)<(NY:Int):=by omega
     have f3:(0:Int)<=(j:Int):=by omega
     have hjl:j<yS.length:=by rw[HNY.out];omega
     obtain⟨b2,o2,rfl,hc2⟩:=HAY.out j hjl
     obtain⟨p0,p1,p2⟩:=hc2 wr (step HB0.out HB24.out)
     have hta:((yS.take (j+1)).any fun s=>decide (s.client=gc) && decide (s.num=gn))=(((yS.take j).any fun s=>decide (s.client=gc) && decide (s.num=gn)) || (decide (yS[j].client =gc) && decide (yS[j].num =gn))):=by
      rw[List.take_succ_eq_append_getElem hjl,List.any_append]
      simp
     have hall:(decide (yS[j].client =gc) && decide (yS[j].num =gn))=true->(yS.any fun s=>decide (s.client=gc) && decide (s.num=gn))=true:=fun q=>List.any_eq_true.2 ⟨yS[j],List.getElem_mem hjl,q⟩
     clear hc2 HAY
     generalize yS[j]=y at p0 p1 p2 hta hall
     obtain⟨hc',hn',hr'⟩:=y
     dsimp only at p0 p1 p2 hta hall
     obtain⟨e0,e1,e2⟩:=box3s (Below.refl _ (wr.alloc (.cells #[.int .i64 hc',.int .i64 hn',.int .i64 hr'] 46)))
     obtain⟨y0,y1⟩:=HZ3.out _ (step HB4.out (newAlloc wr (.cells #[.int .i64 hc',.int .i64 hn',.int .i64 hr'] 46)))
     have HB5:=hid (step HB4.out (newAlloc wr (.cells #[.int .i64 hc',.int .i64 hn',.int .i64 hr'] 46)))
     by_cases e:hc'=gc/\hn'=gn
     ·have t1:(hc'==gc)=true:=by simpa using e.1
      have t2:(hn'==gn)=true:=by simpa using e.2
      have hgf:G ⟨gc,gn,gr⟩=false:=by rw[hgd,hall (by simp [e])];rfl
      rw[hgf] at hft
      rw[if_neg (by simp),List.append_nil] at hft
      have H:=hid hft
      have HO5:=hid (Rw.own_below HO3.out HB5.out)
      have HBB:=hid (step HB3.out HB5.out)
      clear hft hfl hgd hgf hall hta e HJ
      go_wp2
      go_roundg g
      case measure=>omega
      case rel=>exact⟨k+1,M,by omega,by go_num,hMl,hid H.out.symm,HO5,HBB⟩
     ·have hor:(hc'==gc)=false\/((hc'==gc)=true/\(hn'==gn)=false):=by
       by_cases q:hc'=gc
       ·exact .inr ⟨by simpa using q,by simpa using fun p=>e ⟨q,p⟩⟩
       ·exact .inl (by simpa using q)
      have HJ2:Hid (((yS.take (j+1)).any fun s=>decide (s.client=gc) && decide (s.num=gn))=false):=hid (by
       rw[hta,HJ.out,Bool.false_or]
       by_cases q:hc'=gc
       ·have: ¬hn'=gn:=fun p=>e ⟨q,p⟩
        simp [this]
       ·simp [q])
      clear hta hall e hft hfl hgd
      rcases hor with t1 | ⟨t1,t2⟩
      all_goals
       go_wp2
       go_roundg g2
       case measure=>omega
       case rel=>exact⟨j+1,by omega,by go_num,HJ2,HB5⟩
end Cm
end Go.Proofs.YtclcgkpfcogcdaaGreat
