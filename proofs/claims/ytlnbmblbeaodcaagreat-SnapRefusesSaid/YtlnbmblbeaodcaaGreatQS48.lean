/- Texts laid together by program. -/
import Derived.Test.YtlnbmblbeaodcaaGreatQS47
import Derived.Deep.RegionHeld3
import Derived.Deep.RegionWith
/- padlocklaw10's Made (made by tools/gen_laww.py). -/
set_option linter.unusedVariables false
set_option maxRecDepth 8000
set_option linter.unusedSimpArgs false
namespace Go.Proofs.YtlnbmblbeaodcaaGreat
open Lib (hid)
open List (getElem_toArray getElem_cons_succ getElem_cons_zero setIfInBounds_toArray set_cons_zero set_cons_succ)
open Go.RowKit Go.Shelf
namespace Cm

theorem fromS_mix {base:Nat} {wA V:World} {x y:StC} (h:FromS base wA x y) (hb:Below wA.heap.size wA V) {b g:Nat} (h1:b<base) (h2:wA.heap.size<=g) (v0 v1 v2 v3 v4 v5 u0 u1 u2 u3:Value):
  FromS base (((((((((((V.setCell ⟨b,0,none⟩ v0).setCell ⟨b,1,none⟩ v1).setCell ⟨b,2,none⟩ v2).setCell ⟨b,3,none⟩ v3).setCell ⟨b,4,none⟩ v4).setCell ⟨b,5,none⟩ v5).setCell ⟨g,0,none⟩ u0).setCell ⟨g,1,none⟩ u1).setCell ⟨g,2,none⟩ u2).setCell ⟨g,3,none⟩ u3)) x y:=
 h.keepB fun k k1 k2=>by
  rw[heap_set4 _ _ _ _ _ _ (by omega),heap_set6 _ _ _ _ _ _ _ _ (by omega)]
  exact hb.block k k2
set_option maxRecDepth 100000 in
set_option maxHeartbeats 16000000 in
theorem Made_any10 (v:Value) (L:List Act10) (w:World) (h:RdA w v L):Calls Tryz.prog 34 #[v] w (fun e w'=> ∃y:StC,e= .returned (stVal y)/\y.v=madeA 60 (L.take 60)/\FromS w.heap.size w' zeroC10 y/\Below w.heap.size w w'):=by
 obtain⟨W1,hW1⟩: ∃W1,W1=w.alloc (.cells #[.int .i64 0,.int .i64 0,.int .i64 0,.slice none 0 0,.slice none 0 0,.slice none 0 0] 26):=⟨_,rfl⟩
 have hb1:Below w.heap.size w W1:=by rw[hW1];exact newAlloc _ _
 have hZ:BoxS W1 w.heap.size zeroC10:=by rw[hW1];exact BoxS.new w zeroC10 _
 have hs1:W1.heap.size=w.heap.size+1:=by rw[hW1];simp
 obtain⟨W2,hW2⟩: ∃W2,W2=W1.alloc (.cells #[.int .i64 0,.int .i64 0,.int .i64 0,.slice none 0 0,.slice none 0 0,.slice none 0 0] 26):=⟨_,rfl⟩
 have hb2:Below W1.heap.size W1 W2:=by rw[hW2];exact newAlloc _ _
 have hX:BoxS W2 (w.heap.size+1) zeroC10:=by rw[<-hs1,hW2];exact BoxS.new W1 zeroC10 _
 have hs2:W2.heap.size=w.heap.size+2:=by rw[hW2];simp [hs1]
 have HZ0:=hid (hZ.later hb2)
 have HX0:=hid hX
 have HB0:=hid (step hb1 hb2)
 have hm:=h.row.len
 obtain⟨a,cap,rfl⟩:=h.row.form
 have HAT:=hid (fun i hi=>rda_at h.row i hi)
 have HAO:=hid (fun i (hi:i<L.length)=>h.ok _ (List.getElem_mem hi))
 have HFW:=hid (fun k (hk:k<=L.length) (h2:k<=1000)=>Few10.made 60 L k hk h2)
 have HMS:=hid (fun k (hk:k<L.length)=>madeA_succ 60 L k hk)
 obtain⟨N,hN⟩: ∃N,L.length=N:=⟨_,rfl⟩
 have HNN:=hid hN
 obtain⟨HI,hHI'⟩: ∃HI,W2.heap.size=HI:=⟨_,rfl⟩
 obtain⟨nb,hnb⟩: ∃nb,w.heap.size=nb:=⟨_,rfl⟩
 have HNB:=hid hnb
 have hlt1:nb+1<HI:=by omega
 have hHI:w.heap.size<=HI:=by omega
 have hsz0:HI<=W2.heap.size:=Nat.le_of_eq hHI'.symm
 rw[hnb] at HZ0 HX0
 rw[hN] at hm ⊢
 clear hN hnb h hb1 hb2 hZ hX hs1 hs2 hHI'
 go_enter Tryz.func34,Tryz.ntmps34
 go_upto_region 2 with fail
 rw[<-hW1,<-hW2]
 rw[HNB.out]
 clear hW1 hW2
 go_wp2
 go_loopw [4] (fun i wr=> ∃(k:Nat) (y:StC),k<=N/\k<=60/\i= .int .i64 k/\HI<=wr.heap.size/\Hid (BoxS wr (nb+1) y)/\Hid (BoxS wr nb zeroC10)/\Hid (FromS HI wr zeroC10 y)/\Hid (y.v=madeA 60 (L.take k))/\Hid (Below w.heap.size w wr)) (fun i _=>60 - (intOf i).toNat)
 case atStart=>exact⟨0,zeroC10,by omega,by omega,rfl,hsz0,HX0,HZ0,hid (FromS.refl _ _ _),hid rfl,HB0⟩
 case round=>
  obtain⟨k,⟨yt,yn,yk,yS,ya,yc,yK,yka,ykc,yM,yma,ymc⟩,hk,hk6,rfl,hsz,HX,HZ,HF,HV,HB⟩:=hrel
  obtain⟨c0,c1,c2,c3,c4,c5,cf⟩:=HX.out
  simp only[StC.sv,StC.kv,StC.mv] at c0 c1 c2 c3 c4 c5
  by_cases hlt:k<N/\k<60
  ·have hkl:k<L.length:=by rw[HNN.out];exact hlt.1
   have f1:(0:Int)<=(k:Int):=by omega
   have f2:(k:Int)<(N:Int):=by omega
   have t1:decide ((k:Int)<(N:Int))=true:=decide_eq_true f2
   have t2:decide ((k:Int)<60)=true:=decide_eq_true (by omega)
   obtain⟨b,o,rfl,hc⟩:=HAT.out k hkl
   have hok:=HAO.out k hkl
   have hfew:=HFW.out k (by omega) (by omega)
   have hms:=HMS.out k hkl
   rw[<-HV.out] at hfew hms
   have HAC:=hid hc
   clear hc HAT HAO HFW HMS
   generalize L[k]=x at HAC hok hms
   obtain⟨at',ac,aq,ak,an,am⟩:=x
   dsimp only at HAC
   have HAR:Hid (Rst (atA (StC.v ⟨yt,yn,yk,yS,ya,yc,yK,yka,ykc,yM,yma,ymc⟩) ⟨at',ac,aq,ak,an,am⟩ 60)):=hid (hfew.at (by omega) _ 60).1
   have htm:0<=yt/\yt<=2305843009213693952:=hfew.right.time
   have hq0:(at':Int).tmod 16=((at' % 16:Nat):Int):=by rw[Int.tmod_eq_emod_of_nonneg (by omega)];omega
   have hw1:IntKind.i64.wrap (at':Int)=(at':Int):=by rw[IntKind.wrap_i64];have:=hok.time;dsimp only at this;omega
   have hT0:IntKind.i64.wrap (yt+((at' % 16:Nat):Int))=yt+((at' % 16:Nat):Int):=by rw[IntKind.wrap_i64];omega
   obtain⟨T,hT⟩: ∃T,T=yt+((at' % 16:Nat):Int):=⟨_,rfl⟩
   have KV:=hid (fun W (hb:Below wr.heap.size wr W)=>RefAdv_any ⟨yt,yn,yk,yS,ya,yc,yK,yka,ykc,yM,yma,ymc⟩ T 60 W ((HF.out.later hb).rd (RdSt.zero W)) hfew.right.small hfew.right.rens)
   have HATV:Hid (advA (StC.v ⟨yt,yn,yk,yS,ya,yc,yK,yka,ykc,yM,yma,ymc⟩) T 60=atA (StC.v ⟨yt,yn,yk,yS,ya,yc,yK,yka,ykc,yM,yma,ymc⟩) ⟨at',ac,aq,ak,an,am⟩ 60):=hid (by rw[hT];rfl)
   rw[HATV.out] at KV
   have HOK:=hid hok
   have HMS2:=hid hms
   have hT1:=hT0.trans hT.symm
   clear hT hok hms hfew htm hT0
   generalize ((at' % 16:Nat):Int)=q16 at hq0 hT1
   unfold stVal at KV
   simp only[StC.sv,StC.kv,StC.mv] at KV
   have HKP:Hid (∀W,Below wr.heap.size wr W->((W.cell? ⟨nb+1,0,none⟩=some (.int .i64 yt)/\W.cell? ⟨nb+1,1,none⟩=some (.int .i64 yn)/\W.cell? ⟨nb+1,2,none⟩=some (.int .i64 yk))/\W.cell? ⟨nb+1,3,none⟩=some (.slice ya yS.length yc)/\W.cell? ⟨nb+1,4,none⟩=some (.slice yka yK.length ykc)/\W.cell? ⟨nb+1,5,none⟩=some (.slice yma yM.length ymc))/\W.cell? ⟨b,o+k*6,none⟩=some (.int .u8 (at':Int))/\W.cell? ⟨b,o+k*6+1,none⟩=some (.int .u8 (ac:Int))/\W.cell? ⟨b,o+k*6+2,none⟩=some (.int .u8 (aq:Int))/\W.cell? ⟨b,o+k*6+3,none⟩=some (.int .u8 (ak:Int))/\W.cell? ⟨b,o+k*6+4,none⟩=some (.int .u8 (an:Int))/\W.cell? ⟨b,o+k*6+5,none⟩=some (.int .u8 (am:Int))):=hid fun W hb=>⟨(HX.out.later hb).cells,HAC.out W (step HB.out hb)⟩
   go_upto_region 5 with fail
   obtain⟨p0,p1,p2,p3,p4,p5⟩:=HAC.out wr HB.out
   go_cut [3] from 18 to 29 (fun s3 wc=>s3= .pointer (some ⟨nb+1,0,none⟩)/\ ∃z:StC,HI<=wc.heap.size/\Hid (BoxS wc (nb+1) z)/\Hid (BoxS wc nb zeroC10)/\Hid (FromS HI wc zeroC10 z)/\Hid (z.v=atA (StC.v ⟨yt,yn,yk,yS,ya,yc,yK,yka,ykc,yM,yma,ymc⟩) ⟨at',ac,aq,ak,an,am⟩ 60)/\Hid (Below w.heap.size w wc))
   case first=>
    go_region_with (first | (go_at_call 18;refine(KV.out _ (Below.refl _ wr).drew).mono ?_;rintro e w5 ⟨⟨zt,zn,zk,zS,za,zc,zK,zka,zkc,zM,zma,zmc⟩,he,hv5,hf5,hb5⟩;unfold stVal at he;simp only[StC.sv,StC.kv,StC.mv] at he;subst he;have HV5:=hid hv5;have HF5:=hid hf5;have HB5:Hid (Below wr.heap.size wr w5):=hid (step (Below.refl wr.heap.size wr).drew hb5);obtain⟨c0,c1,c2,c3,c4,c5,cf⟩:=HX.out.later HB5.out;simp only[StC.sv,StC.kv,StC.mv] at c0 c1 c2 c3 c4 c5;clear hv5 hf5 hb5))
    all_goals
     have HXE:=hid ((HX.out.later HB5.out).put zt zn zk zS za zc zK zka zkc zM zma zmc)
     have HZE:=hid ((HZ.out.later HB5.out).other6 (show nb+1≠nb by omega) (.int .i64 zt) (.int .i64 zn) (.int .i64 zk) (.slice za zS.length zc) (.slice zka zK.length zkc) (.slice zma zM.length zmc))
     have HFE:=hid (((HF.out.later HB5.out).trans (HF5.out.lower hsz)).set6 hlt1 (.int .i64 zt) (.int .i64 zn) (.int .i64 zk) (.slice za zS.length zc) (.slice zka zK.length zkc) (.slice zma zM.length zmc))
     have HBE:=hid (below_set6 (step HB.out HB5.out) (nb+1) (by have:=HNB.out;omega) (.int .i64 zt) (.int .i64 zn) (.int .i64 zk) (.slice za zS.length zc) (.slice zka zK.length zkc) (.slice zma zM.length zmc))
     have hszE:HI<=w5.heap.size:=Nat.le_trans hsz HB5.out.size
     clear c0 c1 c2 c3 c4 c5 cf p0 p1 p2 p3 p4 p5
     go_wp2
     go_meet
     case rel=>exact⟨rfl,⟨zt,zn,zk,zS,za,zc,zK,zka,zkc,zM,zma,zmc⟩,by simpa using hszE,HXE,HZE,HFE,HV5,HBE⟩
   case rest=>
    obtain⟨rfl,⟨zt,zn,zk,zS,za,zc,zK,zka,zkc,zM,zma,zmc⟩,hszc,HXC,HZC,HFC,HVC,HBC⟩:=hcut
    clear c0 c1 c2 c3 c4 c5 cf p0 p1 p2 p3 p4 p5 HX HZ HKP KV HF
    obtain⟨wz,rfl⟩: ∃wz,wz=wc:=⟨_,rfl⟩
    obtain⟨rq,hrq⟩: ∃rq,requestA (atA (StC.v ⟨yt,yn,yk,yS,ya,yc,yK,yka,ykc,yM,yma,ymc⟩) ⟨at',ac,aq,ak,an,am⟩ 60) ⟨at',ac,aq,ak,an,am⟩=rq:=⟨_,rfl⟩
    obtain⟨⟨US,⟨dc,dn,da,dh⟩,dk⟩,hRR⟩: ∃R,applyA (atA (StC.v ⟨yt,yn,yk,yS,ya,yc,yK,yka,ykc,yM,yma,ymc⟩) ⟨at',ac,aq,ak,an,am⟩ 60) rq=R:=⟨_,rfl⟩
    have HUS:Hid (madeA 60 (L.take (k+1))=US):=hid (by rw[HMS2.out];unfold stepA;rw[hrq,hRR])
    have KQ:=hid (fun W (hb:Below wz.heap.size wz W)=>Request_any ⟨zt,zn,zk,zS,za,zc,zK,zka,zkc,zM,zma,zmc⟩ ⟨at',ac,aq,ak,an,am⟩ W ((HFC.out.later hb).rd (RdSt.zero W)) (by rw[HVC.out];exact HAR.out) HOK.out)
    have KA:=hid (fun W (hb:Below wz.heap.size wz W)=>RefApply_any ⟨zt,zn,zk,zS,za,zc,zK,zka,zkc,zM,zma,zmc⟩ rq W ((HFC.out.later hb).rd (RdSt.zero W)) (by rw[HVC.out];exact HAR.out))
    rw[HVC.out,hrq] at KQ
    rw[HVC.out,hRR] at KA
    obtain⟨rc,rs,⟨rk,rn,rm⟩⟩:=rq
    unfold stVal actVal reqVal at KQ
    unfold stVal reqVal GetsAp at KA
    simp only[StC.sv,StC.kv,StC.mv] at KQ KA
    have HKP:Hid (∀W,Below wz.heap.size wz W->((W.cell? ⟨nb+1,0,none⟩=some (.int .i64 zt)/\W.cell? ⟨nb+1,1,none⟩=some (.int .i64 zn)/\W.cell? ⟨nb+1,2,none⟩=some (.int .i64 zk))/\W.cell? ⟨nb+1,3,none⟩=some (.slice za zS.length zc)/\W.cell? ⟨nb+1,4,none⟩=some (.slice zka zK.length zkc)/\W.cell? ⟨nb+1,5,none⟩=some (.slice zma zM.length zmc))/\W.cell? ⟨b,o+k*6,none⟩=some (.int .u8 (at':Int))/\W.cell? ⟨b,o+k*6+1,none⟩=some (.int .u8 (ac:Int))/\W.cell? ⟨b,o+k*6+2,none⟩=some (.int .u8 (aq:Int))/\W.cell? ⟨b,o+k*6+3,none⟩=some (.int .u8 (ak:Int))/\W.cell? ⟨b,o+k*6+4,none⟩=some (.int .u8 (an:Int))/\W.cell? ⟨b,o+k*6+5,none⟩=some (.int .u8 (am:Int))):=hid fun W hb=>⟨(HXC.out.later hb).cells,HAC.out W (step HBC.out hb)⟩
    clear hrq hRR
    go_upto_region 6 with fail
    go_cut [5] from 30 to 41 (fun s5 wc=> ∃(b5:Nat) (u:StC),s5= .pointer (some ⟨b5,0,none⟩)/\HI<=b5/\HI<=wc.heap.size/\Hid (BoxS wc b5 u)/\Hid (FromS HI wc zeroC10 u)/\Hid (u.v=US)/\Hid (Below wz.heap.size wz wc))
    case first=>
     refine wp_region_held_drew (S:=(fun W=>((W.cell? ⟨nb+1,0,none⟩=some (.int .i64 zt)/\W.cell? ⟨nb+1,1,none⟩=some (.int .i64 zn)/\W.cell? ⟨nb+1,2,none⟩=some (.int .i64 zk))/\W.cell? ⟨nb+1,3,none⟩=some (.slice za zS.length zc)/\W.cell? ⟨nb+1,4,none⟩=some (.slice zka zK.length zkc)/\W.cell? ⟨nb+1,5,none⟩=some (.slice zma zM.length zmc))/\W.cell? ⟨b,o+k*6,none⟩=some (.int .u8 (at':Int))/\W.cell? ⟨b,o+k*6+1,none⟩=some (.int .u8 (ac:Int))/\W.cell? ⟨b,o+k*6+2,none⟩=some (.int .u8 (aq:Int))/\W.cell? ⟨b,o+k*6+3,none⟩=some (.int .u8 (ak:Int))/\W.cell? ⟨b,o+k*6+4,none⟩=some (.int .u8 (an:Int))/\W.cell? ⟨b,o+k*6+5,none⟩=some (.int .u8 (am:Int)))) (by kernel_rfl) (HKP.out _ (Below.refl _ _).drew) (fun hHeld=>?_)
     obtain⟨V0,hV0⟩: ∃V0,V0=wz.drew:=⟨_,rfl⟩
     have HBV0:Hid (Below wz.heap.size wz V0):=hid (by rw[hV0];exact(Below.refl _ _).drew)
     rw[<-hV0] at hHeld ⊢
     clear hV0
     refine wpAnyH_take (i:=0) (v:=?_) rfl (by kernel_rfl) (by kernel_rfl) (by kernel_rfl) (fun _ _ _ h=>h) (Or.inl ⟨by rfl,?_⟩) (by assumption) ?_
     rotate_left
     ·intro w hSw;(try dsimp only at hSw);go_simp<;>with_reducible rfl
     try simp only[Act.put,getElem_toArray,getElem_cons_succ,getElem_cons_zero,setIfInBounds_toArray,set_cons_zero,set_cons_succ]
     refine wpAnyH_take (i:=1) (v:=?_) rfl (by kernel_rfl) (by kernel_rfl) (by kernel_rfl) (fun _ _ _ h=>h) (Or.inl ⟨by rfl,?_⟩) (by assumption) ?_
     rotate_left
     ·intro w hSw;(try dsimp only at hSw);go_simp<;>with_reducible rfl
     try simp only[Act.put,getElem_toArray,getElem_cons_succ,getElem_cons_zero,setIfInBounds_toArray,set_cons_zero,set_cons_succ]
     refine wpAnyH_take (i:=2) (v:=?_) rfl (by kernel_rfl) (by kernel_rfl) (by kernel_rfl) (fun _ _ _ h=>h) (Or.inl ⟨by rfl,?_⟩) (by assumption) ?_
     rotate_left
     ·intro w hSw;(try dsimp only at hSw);go_simp<;>with_reducible rfl
     try simp only[Act.put,getElem_toArray,getElem_cons_succ,getElem_cons_zero,setIfInBounds_toArray,set_cons_zero,set_cons_succ]
     refine wpAnyH_take (i:=3) (v:=?_) rfl (by kernel_rfl) (by kernel_rfl) (by kernel_rfl) (fun _ _ _ h=>h) (Or.inl ⟨by rfl,?_⟩) (by assumption) ?_
     rotate_left
     ·intro w hSw;(try dsimp only at hSw);go_simp<;>with_reducible rfl
     try simp only[Act.put,getElem_toArray,getElem_cons_succ,getElem_cons_zero,setIfInBounds_toArray,set_cons_zero,set_cons_succ]
     refine wpAnyH_take (i:=4) (v:=?_) rfl (by kernel_rfl) (by kernel_rfl) (by kernel_rfl) (fun _ _ _ h=>h) (Or.inl ⟨by rfl,?_⟩) (by assumption) ?_
     rotate_left
     ·intro w hSw;(try dsimp only at hSw);go_simp<;>with_reducible rfl
     try simp only[Act.put,getElem_toArray,getElem_cons_succ,getElem_cons_zero,setIfInBounds_toArray,set_cons_zero,set_cons_succ]
     refine wpAnyH_take (i:=5) (v:=?_) rfl (by kernel_rfl) (by kernel_rfl) (by kernel_rfl) (fun _ _ _ h=>h) (Or.inl ⟨by rfl,?_⟩) (by assumption) ?_
     rotate_left
     ·intro w hSw;(try dsimp only at hSw);go_simp<;>with_reducible rfl
     try simp only[Act.put,getElem_toArray,getElem_cons_succ,getElem_cons_zero,setIfInBounds_toArray,set_cons_zero,set_cons_succ]
     refine wpAnyH_ready (rs:= [6,12,13]) (by kernel_rfl) (by simp) ?_
     refine AllReadyH.cons rfl (fun K hK=>?_) (AllReadyH.cons rfl (fun K hK=>?_) (AllReadyH.cons rfl (fun K hK=>?_) AllReadyH.nil))
     ·skip
      go_simp
      go_at_call 35
      refine(KQ.out V0 HBV0.out).mono ?_
      rintro e V1 ⟨rfl,hb⟩
      have HBV0V1:=hid hb
      have HBV1:Hid (Below wz.heap.size wz V1):=hid (step HBV0.out hb)
      clear hb
      refine hK.out _ _ (HKP.out _ HBV1.out) (fun hHeld=>?_)
      clear hK K
      try simp only[Act.put,getElem_toArray,getElem_cons_succ,getElem_cons_zero,setIfInBounds_toArray,set_cons_zero,set_cons_succ]
      refine wpAnyH_ready (rs:= [7,12,13]) (by kernel_rfl) (by simp) ?_
      refine AllReadyH.cons rfl (fun K hK=>?_) (AllReadyH.cons rfl (fun K hK=>?_) (AllReadyH.cons rfl (fun K hK=>?_) AllReadyH.nil))
      ·skip
       go_simp
       go_at_call 15
       refine(KA.out V1 HBV1.out).mono ?_
       rintro e V2 ⟨⟨ut,un,uk,uS,ua,uc,uK,uka,ukc,uM,uma,umc⟩,ra,rp,he,hv,hf,hr,hb⟩
       unfold stVal at he
       simp only[StC.sv,StC.kv,StC.mv] at he
       subst he
       have HVU:=hid hv
       have HFU:=hid hf
       have HRU:=hid hr
       have HBV1V2:=hid hb
       have HBV2:Hid (Below wz.heap.size wz V2):=hid (step HBV1.out hb)
       clear hv hf hr hb
       refine hK.out _ _ (HKP.out _ HBV2.out) (fun hHeld=>?_)
       clear hK K
       try simp only[Act.put,getElem_toArray,getElem_cons_succ,getElem_cons_zero,setIfInBounds_toArray,set_cons_zero,set_cons_succ]
       refine wpAnyH_take (i:=8) (v:=?_) rfl (by kernel_rfl) (by kernel_rfl) (by kernel_rfl) (fun _ _ _ h=>h) (Or.inl ⟨by rfl,?_⟩) (by assumption) ?_
       rotate_left
       ·intro w hSw;(try dsimp only at hSw);go_simp<;>with_reducible rfl
       try simp only[Act.put,getElem_toArray,getElem_cons_succ,getElem_cons_zero,setIfInBounds_toArray,set_cons_zero,set_cons_succ]
       refine wpAnyH_take (i:=9) (v:=?_) rfl (by kernel_rfl) (by kernel_rfl) (by kernel_rfl) (fun _ _ _ h=>h) (Or.inl ⟨by rfl,?_⟩) (by assumption) ?_
       rotate_left
       ·intro w hSw;(try dsimp only at hSw);go_simp<;>with_reducible rfl
       try simp only[Act.put,getElem_toArray,getElem_cons_succ,getElem_cons_zero,setIfInBounds_toArray,set_cons_zero,set_cons_succ]
       refine wpAnyH_take (i:=10) (v:=?_) rfl (by kernel_rfl) (by kernel_rfl) (by kernel_rfl) (fun _ _ _ h=>h) (Or.inl ⟨by rfl,?_⟩) (by assumption) ?_
       rotate_left
       ·intro w hSw;(try dsimp only at hSw);go_simp<;>with_reducible rfl
       try simp only[Act.put,getElem_toArray,getElem_cons_succ,getElem_cons_zero,setIfInBounds_toArray,set_cons_zero,set_cons_succ]
       refine wpAnyH_take (i:=11) (v:=?_) rfl (by kernel_rfl) (by kernel_rfl) (by kernel_rfl) (fun _ _ _ h=>h) (Or.inl ⟨by rfl,?_⟩) (by assumption) ?_
       rotate_left
       ·intro w hSw;(try dsimp only at hSw);go_simp<;>with_reducible rfl
       try simp only[Act.put,getElem_toArray,getElem_cons_succ,getElem_cons_zero,setIfInBounds_toArray,set_cons_zero,set_cons_succ]
       refine wpAnyH_ready (rs:= [12,13]) (by kernel_rfl) (by simp) ?_
       refine AllReadyH.cons rfl (fun K hK=>?_) (AllReadyH.cons rfl (fun K hK=>?_) AllReadyH.nil)
       ·skip
        go_simp
        obtain⟨V3,hV3⟩: ∃V3,V3=V2.alloc (.cells #[.int .i64 0,.int .i64 0,.int .i64 0,.slice none 0 0,.slice none 0 0,.slice none 0 0] 26):=⟨_,rfl⟩
        have hb:Below V2.heap.size V2 V3:=by rw[hV3];exact newAlloc _ _
        have hn:BoxS V3 V2.heap.size zeroC10:=by rw[hV3];exact BoxS.new V2 zeroC10 _
        have hsb28:V3.heap.size=V2.heap.size+1:=by rw[hV3];simp
        rw[<-hV3]
        obtain⟨b28,hb28⟩: ∃b28,V2.heap.size=b28:=⟨_,rfl⟩
        rw[hb28] at hn hsb28 ⊢
        have HNb28:Hid (∀W,Below V3.heap.size V3 W->BoxS W b28 zeroC10):=hid fun W hw=>hn.later hw
        have HBV2V3:=hid hb
        have HBV3:Hid (Below wz.heap.size wz V3):=hid (step HBV2.out hb)
        have HSb28:=hid hb28
        have HS1b28:=hid hsb28
        clear hV3 hb hn hb28 hsb28
        refine hK.out _ _ (HKP.out _ HBV3.out) (fun hHeld=>?_)
        clear hK K
        try simp only[Act.put,getElem_toArray,getElem_cons_succ,getElem_cons_zero,setIfInBounds_toArray,set_cons_zero,set_cons_succ]
        refine wpAnyH_ready (rs:= [13]) (by kernel_rfl) (by simp) ?_
        refine AllReadyH.cons rfl (fun K hK=>?_) AllReadyH.nil
        ·skip
         go_simp
         obtain⟨V4,hV4⟩: ∃V4,V4=V3.alloc (.cells #[.int .i64 0,.int .i64 0,.int .i64 0,.slice none 0 0] 36):=⟨_,rfl⟩
         have hb:Below V3.heap.size V3 V4:=by rw[hV4];exact newAlloc _ _
         have hn:EmptyR V4 V3.heap.size:=by rw[hV4];exact EmptyR.new V3
         have hsb44:V4.heap.size=V3.heap.size+1:=by rw[hV4];simp
         rw[<-hV4]
         obtain⟨b44,hb44⟩: ∃b44,V3.heap.size=b44:=⟨_,rfl⟩
         rw[hb44] at hn hsb44 ⊢
         have HNb44:Hid (∀W,Below V4.heap.size V4 W->EmptyR W b44):=hid fun W hw=>hn.later hw
         have HBV3V4:=hid hb
         have HBV4:Hid (Below wz.heap.size wz V4):=hid (step HBV3.out hb)
         have HSb44:=hid hb44
         have HS1b44:=hid hsb44
         clear hV4 hb hn hb44 hsb44
         refine hK.out _ _ (HKP.out _ HBV4.out) (fun hHeld=>?_)
         clear hK K
         try simp only[Act.put,getElem_toArray,getElem_cons_succ,getElem_cons_zero,setIfInBounds_toArray,set_cons_zero,set_cons_succ]
         have hsz:wz.heap.size<=b28:=by have:=HSb28.out;have:=HBV2.out.size;omega
         have hsz2:wz.heap.size<=b44:=by have:=HSb44.out;have:=HBV3.out.size;omega
         have hne:b28≠b44:=by have:=HSb44.out;have:=HS1b28.out;have:=((Below.refl V3.heap.size V3):Below _ _ V3).size;omega
         have hne2:b44≠b28:=fun q=>hne q.symm
         have hX1:=HNb28.out V4 HBV3V4.out
         have hR1:=HNb44.out V4 (Below.refl V4.heap.size V4)
         obtain⟨x0,x1,x2,x3,x4,x5,xf⟩:=hX1
         simp only[zeroC10,StC.sv,StC.kv,StC.mv,List.length_nil] at x0 x1 x2 x3 x4 x5
         obtain⟨⟨y0,y1,y2,y3⟩,yf⟩:=hR1 _ (Below.refl _ _)
         refine wpAnyH_ready (rs:= [14]) (by kernel_rfl) (by simp) ?_
         refine AllReadyH.cons rfl (fun K hK=>?_) AllReadyH.nil
         go_simp
         refine hK.out _ _ (HKP.out _ (below_set6 HBV4.out b28 hsz (.int .i64 ut) (.int .i64 un) (.int .i64 uk) (.slice ua uS.length uc) (.slice uka uK.length ukc) (.slice uma uM.length umc))) (fun hHeld=>?_)
         clear hK K
         try simp only[Act.put,getElem_toArray,getElem_cons_succ,getElem_cons_zero,setIfInBounds_toArray,set_cons_zero,set_cons_succ]
         refine wpAnyH_ready (rs:= [15]) (by kernel_rfl) (by simp) ?_
         refine AllReadyH.cons rfl (fun K hK=>?_) AllReadyH.nil
         go_simp
         refine hK.out _ _ (HKP.out _ (set4k (below_set6 HBV4.out b28 hsz (.int .i64 ut) (.int .i64 un) (.int .i64 uk) (.slice ua uS.length uc) (.slice uka uK.length ukc) (.slice uma uM.length umc)) b44 hsz2 (.int .i64 dc) (.int .i64 dn) (.int .i64 da) (.slice ra dh.length rp))) (fun hHeld=>?_)
         clear hK K
         try simp only[Act.put,getElem_toArray,getElem_cons_succ,getElem_cons_zero,setIfInBounds_toArray,set_cons_zero,set_cons_succ]
         refine wpAnyH_take (i:=16) (v:=?_) rfl (by kernel_rfl) (by kernel_rfl) (by kernel_rfl) (fun _ _ _ h=>h) (Or.inl ⟨by rfl,?_⟩) (by assumption) ?_
         rotate_left
         ·intro w hSw;(try dsimp only at hSw);go_simp<;>with_reducible rfl
         try simp only[Act.put,getElem_toArray,getElem_cons_succ,getElem_cons_zero,setIfInBounds_toArray,set_cons_zero,set_cons_succ]
         refine wpAnyH_done (by kernel_rfl) ?_ _
         have HFE:=hid ((HFU.out.later (set4k (below_set6 (step HBV2V3.out HBV3V4.out) b28 (by have:=HSb28.out;have:=((Below.refl V2.heap.size V2):Below _ _ V2).size;omega) (.int .i64 ut) (.int .i64 un) (.int .i64 uk) (.slice ua uS.length uc) (.slice uka uK.length ukc) (.slice uma uM.length umc)) b44 (by have:=HSb44.out;have:=(HBV2V3.out:Below _ _ V3).size;omega) (.int .i64 dc) (.int .i64 dn) (.int .i64 da) (.slice ra dh.length rp))))
         have HBE:=hid (set4k (below_set6 HBV4.out b28 hsz (.int .i64 ut) (.int .i64 un) (.int .i64 uk) (.slice ua uS.length uc) (.slice uka uK.length ukc) (.slice uma uM.length umc)) b44 hsz2 (.int .i64 dc) (.int .i64 dn) (.int .i64 da) (.slice ra dh.length rp))
         have HUE:=hid (((HNb28.out V4 HBV3V4.out).put ut un uk uS ua uc uK uka ukc uM uma umc).other4 hne2 (.int .i64 dc) (.int .i64 dn) (.int .i64 da) (.slice ra dh.length rp))
         have HSA:=hid (show wz.heap.size<=V1.heap.size from HBV1.out.size)
         have HFX:=hid ((HFC.out.later HBE.out).trans (HFE.out.lower (Nat.le_trans hszc HSA.out)))
         have hlb:HI<=b28:=Nat.le_trans hszc hsz
         go_wp2
         go_meet
         case rel=>exact⟨b28,⟨ut,un,uk,uS,ua,uc,uK,uka,ukc,uM,uma,umc⟩,rfl,hlb,Nat.le_trans hszc HBE.out.size,HUE,HFX,HVU,HBE⟩
       ·skip
        go_simp
        obtain⟨V3,hV3⟩: ∃V3,V3=V2.alloc (.cells #[.int .i64 0,.int .i64 0,.int .i64 0,.slice none 0 0] 36):=⟨_,rfl⟩
        have hb:Below V2.heap.size V2 V3:=by rw[hV3];exact newAlloc _ _
        have hn:EmptyR V3 V2.heap.size:=by rw[hV3];exact EmptyR.new V2
        have hsb44:V3.heap.size=V2.heap.size+1:=by rw[hV3];simp
        rw[<-hV3]
        obtain⟨b44,hb44⟩: ∃b44,V2.heap.size=b44:=⟨_,rfl⟩
        rw[hb44] at hn hsb44 ⊢
        have HNb44:Hid (∀W,Below V3.heap.size V3 W->EmptyR W b44):=hid fun W hw=>hn.later hw
        have HBV2V3:=hid hb
        have HBV3:Hid (Below wz.heap.size wz V3):=hid (step HBV2.out hb)
        have HSb44:=hid hb44
        have HS1b44:=hid hsb44
        clear hV3 hb hn hb44 hsb44
        refine hK.out _ _ (HKP.out _ HBV3.out) (fun hHeld=>?_)
        clear hK K
        try simp only[Act.put,getElem_toArray,getElem_cons_succ,getElem_cons_zero,setIfInBounds_toArray,set_cons_zero,set_cons_succ]
        refine wpAnyH_ready (rs:= [12]) (by kernel_rfl) (by simp) ?_
        refine AllReadyH.cons rfl (fun K hK=>?_) AllReadyH.nil
        ·skip
         go_simp
         obtain⟨V4,hV4⟩: ∃V4,V4=V3.alloc (.cells #[.int .i64 0,.int .i64 0,.int .i64 0,.slice none 0 0,.slice none 0 0,.slice none 0 0] 26):=⟨_,rfl⟩
         have hb:Below V3.heap.size V3 V4:=by rw[hV4];exact newAlloc _ _
         have hn:BoxS V4 V3.heap.size zeroC10:=by rw[hV4];exact BoxS.new V3 zeroC10 _
         have hsb28:V4.heap.size=V3.heap.size+1:=by rw[hV4];simp
         rw[<-hV4]
         obtain⟨b28,hb28⟩: ∃b28,V3.heap.size=b28:=⟨_,rfl⟩
         rw[hb28] at hn hsb28 ⊢
         have HNb28:Hid (∀W,Below V4.heap.size V4 W->BoxS W b28 zeroC10):=hid fun W hw=>hn.later hw
         have HBV3V4:=hid hb
         have HBV4:Hid (Below wz.heap.size wz V4):=hid (step HBV3.out hb)
         have HSb28:=hid hb28
         have HS1b28:=hid hsb28
         clear hV4 hb hn hb28 hsb28
         refine hK.out _ _ (HKP.out _ HBV4.out) (fun hHeld=>?_)
         clear hK K
         try simp only[Act.put,getElem_toArray,getElem_cons_succ,getElem_cons_zero,setIfInBounds_toArray,set_cons_zero,set_cons_succ]
         have hsz:wz.heap.size<=b28:=by have:=HSb28.out;have:=HBV3.out.size;omega
         have hsz2:wz.heap.size<=b44:=by have:=HSb44.out;have:=HBV2.out.size;omega
         have hne:b28≠b44:=by have:=HSb28.out;have:=HS1b44.out;have:=((Below.refl V3.heap.size V3):Below _ _ V3).size;omega
         have hne2:b44≠b28:=fun q=>hne q.symm
         have hX1:=HNb28.out V4 (Below.refl V4.heap.size V4)
         have hR1:=HNb44.out V4 HBV3V4.out
         obtain⟨x0,x1,x2,x3,x4,x5,xf⟩:=hX1
         simp only[zeroC10,StC.sv,StC.kv,StC.mv,List.length_nil] at x0 x1 x2 x3 x4 x5
         obtain⟨⟨y0,y1,y2,y3⟩,yf⟩:=hR1 _ (Below.refl _ _)
         refine wpAnyH_ready (rs:= [14]) (by kernel_rfl) (by simp) ?_
         refine AllReadyH.cons rfl (fun K hK=>?_) AllReadyH.nil
         go_simp
         refine hK.out _ _ (HKP.out _ (below_set6 HBV4.out b28 hsz (.int .i64 ut) (.int .i64 un) (.int .i64 uk) (.slice ua uS.length uc) (.slice uka uK.length ukc) (.slice uma uM.length umc))) (fun hHeld=>?_)
         clear hK K
         try simp only[Act.put,getElem_toArray,getElem_cons_succ,getElem_cons_zero,setIfInBounds_toArray,set_cons_zero,set_cons_succ]
         refine wpAnyH_ready (rs:= [15]) (by kernel_rfl) (by simp) ?_
         refine AllReadyH.cons rfl (fun K hK=>?_) AllReadyH.nil
         go_simp
         refine hK.out _ _ (HKP.out _ (set4k (below_set6 HBV4.out b28 hsz (.int .i64 ut) (.int .i64 un) (.int .i64 uk) (.slice ua uS.length uc) (.slice uka uK.length ukc) (.slice uma uM.length umc)) b44 hsz2 (.int .i64 dc) (.int .i64 dn) (.int .i64 da) (.slice ra dh.length rp))) (fun hHeld=>?_)
         clear hK K
         try simp only[Act.put,getElem_toArray,getElem_cons_succ,getElem_cons_zero,setIfInBounds_toArray,set_cons_zero,set_cons_succ]
         refine wpAnyH_take (i:=16) (v:=?_) rfl (by kernel_rfl) (by kernel_rfl) (by kernel_rfl) (fun _ _ _ h=>h) (Or.inl ⟨by rfl,?_⟩) (by assumption) ?_
         rotate_left
         ·intro w hSw;(try dsimp only at hSw);go_simp<;>with_reducible rfl
         try simp only[Act.put,getElem_toArray,getElem_cons_succ,getElem_cons_zero,setIfInBounds_toArray,set_cons_zero,set_cons_succ]
         refine wpAnyH_done (by kernel_rfl) ?_ _
         have HFE:=hid ((HFU.out.later (set4k (below_set6 (step HBV2V3.out HBV3V4.out) b28 (by have:=HSb28.out;have:=(HBV2V3.out:Below _ _ V3).size;omega) (.int .i64 ut) (.int .i64 un) (.int .i64 uk) (.slice ua uS.length uc) (.slice uka uK.length ukc) (.slice uma uM.length umc)) b44 (by have:=HSb44.out;have:=((Below.refl V2.heap.size V2):Below _ _ V2).size;omega) (.int .i64 dc) (.int .i64 dn) (.int .i64 da) (.slice ra dh.length rp))))
         have HBE:=hid (set4k (below_set6 HBV4.out b28 hsz (.int .i64 ut) (.int .i64 un) (.int .i64 uk) (.slice ua uS.length uc) (.slice uka uK.length ukc) (.slice uma uM.length umc)) b44 hsz2 (.int .i64 dc) (.int .i64 dn) (.int .i64 da) (.slice ra dh.length rp))
         have HUE:=hid (((HNb28.out V4 (Below.refl V4.heap.size V4)).put ut un uk uS ua uc uK uka ukc uM uma umc).other4 hne2 (.int .i64 dc) (.int .i64 dn) (.int .i64 da) (.slice ra dh.length rp))
         have HSA:=hid (show wz.heap.size<=V1.heap.size from HBV1.out.size)
         have HFX:=hid ((HFC.out.later HBE.out).trans (HFE.out.lower (Nat.le_trans hszc HSA.out)))
         have hlb:HI<=b28:=Nat.le_trans hszc hsz
         go_wp2
         go_meet
         case rel=>exact⟨b28,⟨ut,un,uk,uS,ua,uc,uK,uka,ukc,uM,uma,umc⟩,rfl,hlb,Nat.le_trans hszc HBE.out.size,HUE,HFX,HVU,HBE⟩
      ·skip
       go_simp
       obtain⟨V2,hV2⟩: ∃V2,V2=V1.alloc (.cells #[.int .i64 0,.int .i64 0,.int .i64 0,.slice none 0 0,.slice none 0 0,.slice none 0 0] 26):=⟨_,rfl⟩
       have hb:Below V1.heap.size V1 V2:=by rw[hV2];exact newAlloc _ _
       have hn:BoxS V2 V1.heap.size zeroC10:=by rw[hV2];exact BoxS.new V1 zeroC10 _
       have hsb28:V2.heap.size=V1.heap.size+1:=by rw[hV2];simp
       rw[<-hV2]
       obtain⟨b28,hb28⟩: ∃b28,V1.heap.size=b28:=⟨_,rfl⟩
       rw[hb28] at hn hsb28 ⊢
       have HNb28:Hid (∀W,Below V2.heap.size V2 W->BoxS W b28 zeroC10):=hid fun W hw=>hn.later hw
       have HBV1V2:=hid hb
       have HBV2:Hid (Below wz.heap.size wz V2):=hid (step HBV1.out hb)
       have HSb28:=hid hb28
       have HS1b28:=hid hsb28
       clear hV2 hb hn hb28 hsb28
       refine hK.out _ _ (HKP.out _ HBV2.out) (fun hHeld=>?_)
       clear hK K
       try simp only[Act.put,getElem_toArray,getElem_cons_succ,getElem_cons_zero,setIfInBounds_toArray,set_cons_zero,set_cons_succ]
       refine wpAnyH_ready (rs:= [7,13]) (by kernel_rfl) (by simp) ?_
       refine AllReadyH.cons rfl (fun K hK=>?_) (AllReadyH.cons rfl (fun K hK=>?_) AllReadyH.nil)
       ·skip
        go_simp
        go_at_call 15
        refine(KA.out V2 HBV2.out).mono ?_
        rintro e V3 ⟨⟨ut,un,uk,uS,ua,uc,uK,uka,ukc,uM,uma,umc⟩,ra,rp,he,hv,hf,hr,hb⟩
        unfold stVal at he
        simp only[StC.sv,StC.kv,StC.mv] at he
        subst he
        have HVU:=hid hv
        have HFU:=hid hf
        have HRU:=hid hr
        have HBV2V3:=hid hb
        have HBV3:Hid (Below wz.heap.size wz V3):=hid (step HBV2.out hb)
        clear hv hf hr hb
        refine hK.out _ _ (HKP.out _ HBV3.out) (fun hHeld=>?_)
        clear hK K
        try simp only[Act.put,getElem_toArray,getElem_cons_succ,getElem_cons_zero,setIfInBounds_toArray,set_cons_zero,set_cons_succ]
        refine wpAnyH_take (i:=8) (v:=?_) rfl (by kernel_rfl) (by kernel_rfl) (by kernel_rfl) (fun _ _ _ h=>h) (Or.inl ⟨by rfl,?_⟩) (by assumption) ?_
        rotate_left
        ·intro w hSw;(try dsimp only at hSw);go_simp<;>with_reducible rfl
        try simp only[Act.put,getElem_toArray,getElem_cons_succ,getElem_cons_zero,setIfInBounds_toArray,set_cons_zero,set_cons_succ]
        refine wpAnyH_take (i:=9) (v:=?_) rfl (by kernel_rfl) (by kernel_rfl) (by kernel_rfl) (fun _ _ _ h=>h) (Or.inl ⟨by rfl,?_⟩) (by assumption) ?_
        rotate_left
        ·intro w hSw;(try dsimp only at hSw);go_simp<;>with_reducible rfl
        try simp only[Act.put,getElem_toArray,getElem_cons_succ,getElem_cons_zero,setIfInBounds_toArray,set_cons_zero,set_cons_succ]
        refine wpAnyH_take (i:=10) (v:=?_) rfl (by kernel_rfl) (by kernel_rfl) (by kernel_rfl) (fun _ _ _ h=>h) (Or.inl ⟨by rfl,?_⟩) (by assumption) ?_
        rotate_left
        ·intro w hSw;(try dsimp only at hSw);go_simp<;>with_reducible rfl
        try simp only[Act.put,getElem_toArray,getElem_cons_succ,getElem_cons_zero,setIfInBounds_toArray,set_cons_zero,set_cons_succ]
        refine wpAnyH_take (i:=11) (v:=?_) rfl (by kernel_rfl) (by kernel_rfl) (by kernel_rfl) (fun _ _ _ h=>h) (Or.inl ⟨by rfl,?_⟩) (by assumption) ?_
        rotate_left
        ·intro w hSw;(try dsimp only at hSw);go_simp<;>with_reducible rfl
        try simp only[Act.put,getElem_toArray,getElem_cons_succ,getElem_cons_zero,setIfInBounds_toArray,set_cons_zero,set_cons_succ]
        refine wpAnyH_ready (rs:= [13]) (by kernel_rfl) (by simp) ?_
        refine AllReadyH.cons rfl (fun K hK=>?_) AllReadyH.nil
        ·skip
         go_simp
         obtain⟨V4,hV4⟩: ∃V4,V4=V3.alloc (.cells #[.int .i64 0,.int .i64 0,.int .i64 0,.slice none 0 0] 36):=⟨_,rfl⟩
         have hb:Below V3.heap.size V3 V4:=by rw[hV4];exact newAlloc _ _
         have hn:EmptyR V4 V3.heap.size:=by rw[hV4];exact EmptyR.new V3
         have hsb44:V4.heap.size=V3.heap.size+1:=by rw[hV4];simp
         rw[<-hV4]
         obtain⟨b44,hb44⟩: ∃b44,V3.heap.size=b44:=⟨_,rfl⟩
         rw[hb44] at hn hsb44 ⊢
         have HNb44:Hid (∀W,Below V4.heap.size V4 W->EmptyR W b44):=hid fun W hw=>hn.later hw
         have HBV3V4:=hid hb
         have HBV4:Hid (Below wz.heap.size wz V4):=hid (step HBV3.out hb)
         have HSb44:=hid hb44
         have HS1b44:=hid hsb44
         clear hV4 hb hn hb44 hsb44
         refine hK.out _ _ (HKP.out _ HBV4.out) (fun hHeld=>?_)
         clear hK K
         try simp only[Act.put,getElem_toArray,getElem_cons_succ,getElem_cons_zero,setIfInBounds_toArray,set_cons_zero,set_cons_succ]
         have hsz:wz.heap.size<=b28:=by have:=HSb28.out;have:=HBV1.out.size;omega
         have hsz2:wz.heap.size<=b44:=by have:=HSb44.out;have:=HBV3.out.size;omega
         have hne:b28≠b44:=by have:=HSb44.out;have:=HS1b28.out;have:=(HBV2V3.out:Below _ _ V3).size;omega
         have hne2:b44≠b28:=fun q=>hne q.symm
         have hX1:=HNb28.out V4 (step HBV2V3.out HBV3V4.out)
         have hR1:=HNb44.out V4 (Below.refl V4.heap.size V4)
         obtain⟨x0,x1,x2,x3,x4,x5,xf⟩:=hX1
         simp only[zeroC10,StC.sv,StC.kv,StC.mv,List.length_nil] at x0 x1 x2 x3 x4 x5
         obtain⟨⟨y0,y1,y2,y3⟩,yf⟩:=hR1 _ (Below.refl _ _)
         refine wpAnyH_ready (rs:= [14]) (by kernel_rfl) (by simp) ?_
         refine AllReadyH.cons rfl (fun K hK=>?_) AllReadyH.nil
         go_simp
         refine hK.out _ _ (HKP.out _ (below_set6 HBV4.out b28 hsz (.int .i64 ut) (.int .i64 un) (.int .i64 uk) (.slice ua uS.length uc) (.slice uka uK.length ukc) (.slice uma uM.length umc))) (fun hHeld=>?_)
         clear hK K
         try simp only[Act.put,getElem_toArray,getElem_cons_succ,getElem_cons_zero,setIfInBounds_toArray,set_cons_zero,set_cons_succ]
         refine wpAnyH_ready (rs:= [15]) (by kernel_rfl) (by simp) ?_
         refine AllReadyH.cons rfl (fun K hK=>?_) AllReadyH.nil
         go_simp
         refine hK.out _ _ (HKP.out _ (set4k (below_set6 HBV4.out b28 hsz (.int .i64 ut) (.int .i64 un) (.int .i64 uk) (.slice ua uS.length uc) (.slice uka uK.length ukc) (.slice uma uM.length umc)) b44 hsz2 (.int .i64 dc) (.int .i64 dn) (.int .i64 da) (.slice ra dh.length rp))) (fun hHeld=>?_)
         clear hK K
         try simp only[Act.put,getElem_toArray,getElem_cons_succ,getElem_cons_zero,setIfInBounds_toArray,set_cons_zero,set_cons_succ]
         refine wpAnyH_take (i:=16) (v:=?_) rfl (by kernel_rfl) (by kernel_rfl) (by kernel_rfl) (fun _ _ _ h=>h) (Or.inl ⟨by rfl,?_⟩) (by assumption) ?_
         rotate_left
         ·intro w hSw;(try dsimp only at hSw);go_simp<;>with_reducible rfl
         try simp only[Act.put,getElem_toArray,getElem_cons_succ,getElem_cons_zero,setIfInBounds_toArray,set_cons_zero,set_cons_succ]
         refine wpAnyH_done (by kernel_rfl) ?_ _
         have HFE:=hid (fromS_mix HFU.out HBV3V4.out (show b28<V2.heap.size by have:=HS1b28.out;have:=((Below.refl V2.heap.size V2):Below _ _ V2).size;omega) (show V3.heap.size<=b44 by have:=HSb44.out;have:=((Below.refl V3.heap.size V3):Below _ _ V3).size;omega) (.int .i64 ut) (.int .i64 un) (.int .i64 uk) (.slice ua uS.length uc) (.slice uka uK.length ukc) (.slice uma uM.length umc) (.int .i64 dc) (.int .i64 dn) (.int .i64 da) (.slice ra dh.length rp))
         have HBE:=hid (set4k (below_set6 HBV4.out b28 hsz (.int .i64 ut) (.int .i64 un) (.int .i64 uk) (.slice ua uS.length uc) (.slice uka uK.length ukc) (.slice uma uM.length umc)) b44 hsz2 (.int .i64 dc) (.int .i64 dn) (.int .i64 da) (.slice ra dh.length rp))
         have HUE:=hid (((HNb28.out V4 (step HBV2V3.out HBV3V4.out)).put ut un uk uS ua uc uK uka ukc uM uma umc).other4 hne2 (.int .i64 dc) (.int .i64 dn) (.int .i64 da) (.slice ra dh.length rp))
         have HSA:=hid (show wz.heap.size<=V2.heap.size from HBV2.out.size)
         have HFX:=hid ((HFC.out.later HBE.out).trans (HFE.out.lower (Nat.le_trans hszc HSA.out)))
         have hlb:HI<=b28:=Nat.le_trans hszc hsz
         go_wp2
         go_meet
         case rel=>exact⟨b28,⟨ut,un,uk,uS,ua,uc,uK,uka,ukc,uM,uma,umc⟩,rfl,hlb,Nat.le_trans hszc HBE.out.size,HUE,HFX,HVU,HBE⟩
       ·skip
        go_simp
        obtain⟨V3,hV3⟩: ∃V3,V3=V2.alloc (.cells #[.int .i64 0,.int .i64 0,.int .i64 0,.slice none 0 0] 36):=⟨_,rfl⟩
        have hb:Below V2.heap.size V2 V3:=by rw[hV3];exact newAlloc _ _
        have hn:EmptyR V3 V2.heap.size:=by rw[hV3];exact EmptyR.new V2
        have hsb44:V3.heap.size=V2.heap.size+1:=by rw[hV3];simp
        rw[<-hV3]
        obtain⟨b44,hb44⟩: ∃b44,V2.heap.size=b44:=⟨_,rfl⟩
        rw[hb44] at hn hsb44 ⊢
        have HNb44:Hid (∀W,Below V3.heap.size V3 W->EmptyR W b44):=hid fun W hw=>hn.later hw
        have HBV2V3:=hid hb
        have HBV3:Hid (Below wz.heap.size wz V3):=hid (step HBV2.out hb)
        have HSb44:=hid hb44
        have HS1b44:=hid hsb44
        clear hV3 hb hn hb44 hsb44
        refine hK.out _ _ (HKP.out _ HBV3.out) (fun hHeld=>?_)
        clear hK K
        try simp only[Act.put,getElem_toArray,getElem_cons_succ,getElem_cons_zero,setIfInBounds_toArray,set_cons_zero,set_cons_succ]
        refine wpAnyH_ready (rs:= [7]) (by kernel_rfl) (by simp) ?_
        refine AllReadyH.cons rfl (fun K hK=>?_) AllReadyH.nil
        ·skip
         go_simp
         go_at_call 15
         refine(KA.out V3 HBV3.out).mono ?_
         rintro e V4 ⟨⟨ut,un,uk,uS,ua,uc,uK,uka,ukc,uM,uma,umc⟩,ra,rp,he,hv,hf,hr,hb⟩
         unfold stVal at he
         simp only[StC.sv,StC.kv,StC.mv] at he
         subst he
         have HVU:=hid hv
         have HFU:=hid hf
         have HRU:=hid hr
         have HBV3V4:=hid hb
         have HBV4:Hid (Below wz.heap.size wz V4):=hid (step HBV3.out hb)
         clear hv hf hr hb
         refine hK.out _ _ (HKP.out _ HBV4.out) (fun hHeld=>?_)
         clear hK K
         try simp only[Act.put,getElem_toArray,getElem_cons_succ,getElem_cons_zero,setIfInBounds_toArray,set_cons_zero,set_cons_succ]
         refine wpAnyH_take (i:=8) (v:=?_) rfl (by kernel_rfl) (by kernel_rfl) (by kernel_rfl) (fun _ _ _ h=>h) (Or.inl ⟨by rfl,?_⟩) (by assumption) ?_
         rotate_left
         ·intro w hSw;(try dsimp only at hSw);go_simp<;>with_reducible rfl
         try simp only[Act.put,getElem_toArray,getElem_cons_succ,getElem_cons_zero,setIfInBounds_toArray,set_cons_zero,set_cons_succ]
         refine wpAnyH_take (i:=9) (v:=?_) rfl (by kernel_rfl) (by kernel_rfl) (by kernel_rfl) (fun _ _ _ h=>h) (Or.inl ⟨by rfl,?_⟩) (by assumption) ?_
         rotate_left
         ·intro w hSw;(try dsimp only at hSw);go_simp<;>with_reducible rfl
         try simp only[Act.put,getElem_toArray,getElem_cons_succ,getElem_cons_zero,setIfInBounds_toArray,set_cons_zero,set_cons_succ]
         refine wpAnyH_take (i:=10) (v:=?_) rfl (by kernel_rfl) (by kernel_rfl) (by kernel_rfl) (fun _ _ _ h=>h) (Or.inl ⟨by rfl,?_⟩) (by assumption) ?_
         rotate_left
         ·intro w hSw;(try dsimp only at hSw);go_simp<;>with_reducible rfl
         try simp only[Act.put,getElem_toArray,getElem_cons_succ,getElem_cons_zero,setIfInBounds_toArray,set_cons_zero,set_cons_succ]
         refine wpAnyH_take (i:=11) (v:=?_) rfl (by kernel_rfl) (by kernel_rfl) (by kernel_rfl) (fun _ _ _ h=>h) (Or.inl ⟨by rfl,?_⟩) (by assumption) ?_
         rotate_left
         ·intro w hSw;(try dsimp only at hSw);go_simp<;>with_reducible rfl
         try simp only[Act.put,getElem_toArray,getElem_cons_succ,getElem_cons_zero,setIfInBounds_toArray,set_cons_zero,set_cons_succ]
         have hsz:wz.heap.size<=b28:=by have:=HSb28.out;have:=HBV1.out.size;omega
         have hsz2:wz.heap.size<=b44:=by have:=HSb44.out;have:=HBV2.out.size;omega
         have hne:b28≠b44:=by have:=HSb44.out;have:=HS1b28.out;have:=((Below.refl V2.heap.size V2):Below _ _ V2).size;omega
         have hne2:b44≠b28:=fun q=>hne q.symm
         have hX1:=HNb28.out V4 (step HBV2V3.out HBV3V4.out)
         have hR1:=HNb44.out V4 HBV3V4.out
         obtain⟨x0,x1,x2,x3,x4,x5,xf⟩:=hX1
         simp only[zeroC10,StC.sv,StC.kv,StC.mv,List.length_nil] at x0 x1 x2 x3 x4 x5
         obtain⟨⟨y0,y1,y2,y3⟩,yf⟩:=hR1 _ (Below.refl _ _)
         refine wpAnyH_ready (rs:= [14]) (by kernel_rfl) (by simp) ?_
         refine AllReadyH.cons rfl (fun K hK=>?_) AllReadyH.nil
         go_simp
         refine hK.out _ _ (HKP.out _ (below_set6 HBV4.out b28 hsz (.int .i64 ut) (.int .i64 un) (.int .i64 uk) (.slice ua uS.length uc) (.slice uka uK.length ukc) (.slice uma uM.length umc))) (fun hHeld=>?_)
         clear hK K
         try simp only[Act.put,getElem_toArray,getElem_cons_succ,getElem_cons_zero,setIfInBounds_toArray,set_cons_zero,set_cons_succ]
         refine wpAnyH_ready (rs:= [15]) (by kernel_rfl) (by simp) ?_
         refine AllReadyH.cons rfl (fun K hK=>?_) AllReadyH.nil
         go_simp
         refine hK.out _ _ (HKP.out _ (set4k (below_set6 HBV4.out b28 hsz (.int .i64 ut) (.int .i64 un) (.int .i64 uk) (.slice ua uS.length uc) (.slice uka uK.length ukc) (.slice uma uM.length umc)) b44 hsz2 (.int .i64 dc) (.int .i64 dn) (.int .i64 da) (.slice ra dh.length rp))) (fun hHeld=>?_)
         clear hK K
         try simp only[Act.put,getElem_toArray,getElem_cons_succ,getElem_cons_zero,setIfInBounds_toArray,set_cons_zero,set_cons_succ]
         refine wpAnyH_take (i:=16) (v:=?_) rfl (by kernel_rfl) (by kernel_rfl) (by kernel_rfl) (fun _ _ _ h=>h) (Or.inl ⟨by rfl,?_⟩) (by assumption) ?_
         rotate_left
         ·intro w hSw;(try dsimp only at hSw);go_simp<;>with_reducible rfl
         try simp only[Act.put,getElem_toArray,getElem_cons_succ,getElem_cons_zero,setIfInBounds_toArray,set_cons_zero,set_cons_succ]
         refine wpAnyH_done (by kernel_rfl) ?_ _
         have HFE:=hid (((HFU.out).set6 (show b28<V3.heap.size by have:=HS1b28.out;have:=(HBV2V3.out:Below _ _ V3).size;omega) (.int .i64 ut) (.int .i64 un) (.int .i64 uk) (.slice ua uS.length uc) (.slice uka uK.length ukc) (.slice uma uM.length umc)).set4 (show b44<V3.heap.size by have:=HS1b44.out;have:=((Below.refl V3.heap.size V3):Below _ _ V3).size;omega) (.int .i64 dc) (.int .i64 dn) (.int .i64 da) (.slice ra dh.length rp))
         have HBE:=hid (set4k (below_set6 HBV4.out b28 hsz (.int .i64 ut) (.int .i64 un) (.int .i64 uk) (.slice ua uS.length uc) (.slice uka uK.length ukc) (.slice uma uM.length umc)) b44 hsz2 (.int .i64 dc) (.int .i64 dn) (.int .i64 da) (.slice ra dh.length rp))
         have HUE:=hid (((HNb28.out V4 (step HBV2V3.out HBV3V4.out)).put ut un uk uS ua uc uK uka ukc uM uma umc).other4 hne2 (.int .i64 dc) (.int .i64 dn) (.int .i64 da) (.slice ra dh.length rp))
         have HSA:=hid (show wz.heap.size<=V3.heap.size from HBV3.out.size)
         have HFX:=hid ((HFC.out.later HBE.out).trans (HFE.out.lower (Nat.le_trans hszc HSA.out)))
         have hlb:HI<=b28:=Nat.le_trans hszc hsz
         go_wp2
         go_meet
         case rel=>exact⟨b28,⟨ut,un,uk,uS,ua,uc,uK,uka,ukc,uM,uma,umc⟩,rfl,hlb,Nat.le_trans hszc HBE.out.size,HUE,HFX,HVU,HBE⟩
      ·skip
       go_simp
       obtain⟨V2,hV2⟩: ∃V2,V2=V1.alloc (.cells #[.int .i64 0,.int .i64 0,.int .i64 0,.slice none 0 0] 36):=⟨_,rfl⟩
       have hb:Below V1.heap.size V1 V2:=by rw[hV2];exact newAlloc _ _
       have hn:EmptyR V2 V1.heap.size:=by rw[hV2];exact EmptyR.new V1
       have hsb44:V2.heap.size=V1.heap.size+1:=by rw[hV2];simp
       rw[<-hV2]
       obtain⟨b44,hb44⟩: ∃b44,V1.heap.size=b44:=⟨_,rfl⟩
       rw[hb44] at hn hsb44 ⊢
       have HNb44:Hid (∀W,Below V2.heap.size V2 W->EmptyR W b44):=hid fun W hw=>hn.later hw
       have HBV1V2:=hid hb
       have HBV2:Hid (Below wz.heap.size wz V2):=hid (step HBV1.out hb)
       have HSb44:=hid hb44
       have HS1b44:=hid hsb44
       clear hV2 hb hn hb44 hsb44
       refine hK.out _ _ (HKP.out _ HBV2.out) (fun hHeld=>?_)
       clear hK K
       try simp only[Act.put,getElem_toArray,getElem_cons_succ,getElem_cons_zero,setIfInBounds_toArray,set_cons_zero,set_cons_succ]
       refine wpAnyH_ready (rs:= [7,12]) (by kernel_rfl) (by simp) ?_
       refine AllReadyH.cons rfl (fun K hK=>?_) (AllReadyH.cons rfl (fun K hK=>?_) AllReadyH.nil)
       ·skip
        go_simp
        go_at_call 15
        refine(KA.out V2 HBV2.out).mono ?_
        rintro e V3 ⟨⟨ut,un,uk,uS,ua,uc,uK,uka,ukc,uM,uma,umc⟩,ra,rp,he,hv,hf,hr,hb⟩
        unfold stVal at he
        simp only[StC.sv,StC.kv,StC.mv] at he
        subst he
        have HVU:=hid hv
        have HFU:=hid hf
        have HRU:=hid hr
        have HBV2V3:=hid hb
        have HBV3:Hid (Below wz.heap.size wz V3):=hid (step HBV2.out hb)
        clear hv hf hr hb
        refine hK.out _ _ (HKP.out _ HBV3.out) (fun hHeld=>?_)
        clear hK K
        try simp only[Act.put,getElem_toArray,getElem_cons_succ,getElem_cons_zero,setIfInBounds_toArray,set_cons_zero,set_cons_succ]
        refine wpAnyH_take (i:=8) (v:=?_) rfl (by kernel_rfl) (by kernel_rfl) (by kernel_rfl) (fun _ _ _ h=>h) (Or.inl ⟨by rfl,?_⟩) (by assumption) ?_
        rotate_left
        ·intro w hSw;(try dsimp only at hSw);go_simp<;>with_reducible rfl
        try simp only[Act.put,getElem_toArray,getElem_cons_succ,getElem_cons_zero,setIfInBounds_toArray,set_cons_zero,set_cons_succ]
        refine wpAnyH_take (i:=9) (v:=?_) rfl (by kernel_rfl) (by kernel_rfl) (by kernel_rfl) (fun _ _ _ h=>h) (Or.inl ⟨by rfl,?_⟩) (by assumption) ?_
        rotate_left
        ·intro w hSw;(try dsimp only at hSw);go_simp<;>with_reducible rfl
        try simp only[Act.put,getElem_toArray,getElem_cons_succ,getElem_cons_zero,setIfInBounds_toArray,set_cons_zero,set_cons_succ]
        refine wpAnyH_take (i:=10) (v:=?_) rfl (by kernel_rfl) (by kernel_rfl) (by kernel_rfl) (fun _ _ _ h=>h) (Or.inl ⟨by rfl,?_⟩) (by assumption) ?_
        rotate_left
        ·intro w hSw;(try dsimp only at hSw);go_simp<;>with_reducible rfl
        try simp only[Act.put,getElem_toArray,getElem_cons_succ,getElem_cons_zero,setIfInBounds_toArray,set_cons_zero,set_cons_succ]
        refine wpAnyH_take (i:=11) (v:=?_) rfl (by kernel_rfl) (by kernel_rfl) (by kernel_rfl) (fun _ _ _ h=>h) (Or.inl ⟨by rfl,?_⟩) (by assumption) ?_
        rotate_left
        ·intro w hSw;(try dsimp only at hSw);go_simp<;>with_reducible rfl
        try simp only[Act.put,getElem_toArray,getElem_cons_succ,getElem_cons_zero,setIfInBounds_toArray,set_cons_zero,set_cons_succ]
        refine wpAnyH_ready (rs:= [12]) (by kernel_rfl) (by simp) ?_
        refine AllReadyH.cons rfl (fun K hK=>?_) AllReadyH.nil
        ·skip
         go_simp
         obtain⟨V4,hV4⟩: ∃V4,V4=V3.alloc (.cells #[.int .i64 0,.int .i64 0,.int .i64 0,.slice none 0 0,.slice none 0 0,.slice none 0 0] 26):=⟨_,rfl⟩
         have hb:Below V3.heap.size V3 V4:=by rw[hV4];exact newAlloc _ _
         have hn:BoxS V4 V3.heap.size zeroC10:=by rw[hV4];exact BoxS.new V3 zeroC10 _
         have hsb28:V4.heap.size=V3.heap.size+1:=by rw[hV4];simp
         rw[<-hV4]
         obtain⟨b28,hb28⟩: ∃b28,V3.heap.size=b28:=⟨_,rfl⟩
         rw[hb28] at hn hsb28 ⊢
         have HNb28:Hid (∀W,Below V4.heap.size V4 W->BoxS W b28 zeroC10):=hid fun W hw=>hn.later hw
         have HBV3V4:=hid hb
         have HBV4:Hid (Below wz.heap.size wz V4):=hid (step HBV3.out hb)
         have HSb28:=hid hb28
         have HS1b28:=hid hsb28
         clear hV4 hb hn hb28 hsb28
         refine hK.out _ _ (HKP.out _ HBV4.out) (fun hHeld=>?_)
         clear hK K
         try simp only[Act.put,getElem_toArray,getElem_cons_succ,getElem_cons_zero,setIfInBounds_toArray,set_cons_zero,set_cons_succ]
         have hsz:wz.heap.size<=b28:=by have:=HSb28.out;have:=HBV3.out.size;omega
         have hsz2:wz.heap.size<=b44:=by have:=HSb44.out;have:=HBV1.out.size;omega
         have hne:b28≠b44:=by have:=HSb28.out;have:=HS1b44.out;have:=(HBV2V3.out:Below _ _ V3).size;omega
         have hne2:b44≠b28:=fun q=>hne q.symm
         have hX1:=HNb28.out V4 (Below.refl V4.heap.size V4)
         have hR1:=HNb44.out V4 (step HBV2V3.out HBV3V4.out)
         obtain⟨x0,x1,x2,x3,x4,x5,xf⟩:=hX1
         simp only[zeroC10,StC.sv,StC.kv,StC.mv,List.length_nil] at x0 x1 x2 x3 x4 x5
         obtain⟨⟨y0,y1,y2,y3⟩,yf⟩:=hR1 _ (Below.refl _ _)
         refine wpAnyH_ready (rs:= [14]) (by kernel_rfl) (by simp) ?_
         refine AllReadyH.cons rfl (fun K hK=>?_) AllReadyH.nil
         go_simp
         refine hK.out _ _ (HKP.out _ (below_set6 HBV4.out b28 hsz (.int .i64 ut) (.int .i64 un) (.int .i64 uk) (.slice ua uS.length uc) (.slice uka uK.length ukc) (.slice uma uM.length umc))) (fun hHeld=>?_)
         clear hK K
         try simp only[Act.put,getElem_toArray,getElem_cons_succ,getElem_cons_zero,setIfInBounds_toArray,set_cons_zero,set_cons_succ]
         refine wpAnyH_ready (rs:= [15]) (by kernel_rfl) (by simp) ?_
         refine AllReadyH.cons rfl (fun K hK=>?_) AllReadyH.nil
         go_simp
         refine hK.out _ _ (HKP.out _ (set4k (below_set6 HBV4.out b28 hsz (.int .i64 ut) (.int .i64 un) (.int .i64 uk) (.slice ua uS.length uc) (.slice uka uK.length ukc) (.slice uma uM.length umc)) b44 hsz2 (.int .i64 dc) (.int .i64 dn) (.int .i64 da) (.slice ra dh.length rp))) (fun hHeld=>?_)
         clear hK K
         try simp only[Act.put,getElem_toArray,getElem_cons_succ,getElem_cons_zero,setIfInBounds_toArray,set_cons_zero,set_cons_succ]
         refine wpAnyH_take (i:=16) (v:=?_) rfl (by kernel_rfl) (by kernel_rfl) (by kernel_rfl) (fun _ _ _ h=>h) (Or.inl ⟨by rfl,?_⟩) (by assumption) ?_
         rotate_left
         ·intro w hSw;(try dsimp only at hSw);go_simp<;>with_reducible rfl
         try simp only[Act.put,getElem_toArray,getElem_cons_succ,getElem_cons_zero,setIfInBounds_toArray,set_cons_zero,set_cons_succ]
         refine wpAnyH_done (by kernel_rfl) ?_ _
         have HFE:=hid (((HFU.out.later (below_set6 HBV3V4.out b28 (by have:=HSb28.out;have:=((Below.refl V3.heap.size V3):Below _ _ V3).size;omega) (.int .i64 ut) (.int .i64 un) (.int .i64 uk) (.slice ua uS.length uc) (.slice uka uK.length ukc) (.slice uma uM.length umc)))).set4 (show b44<V2.heap.size by have:=HS1b44.out;have:=((Below.refl V2.heap.size V2):Below _ _ V2).size;omega) (.int .i64 dc) (.int .i64 dn) (.int .i64 da) (.slice ra dh.length rp))
         have HBE:=hid (set4k (below_set6 HBV4.out b28 hsz (.int .i64 ut) (.int .i64 un) (.int .i64 uk) (.slice ua uS.length uc) (.slice uka uK.length ukc) (.slice uma uM.length umc)) b44 hsz2 (.int .i64 dc) (.int .i64 dn) (.int .i64 da) (.slice ra dh.length rp))
         have HUE:=hid (((HNb28.out V4 (Below.refl V4.heap.size V4)).put ut un uk uS ua uc uK uka ukc uM uma umc).other4 hne2 (.int .i64 dc) (.int .i64 dn) (.int .i64 da) (.slice ra dh.length rp))
         have HSA:=hid (show wz.heap.size<=V2.heap.size from HBV2.out.size)
         have HFX:=hid ((HFC.out.later HBE.out).trans (HFE.out.lower (Nat.le_trans hszc HSA.out)))
         have hlb:HI<=b28:=Nat.le_trans hszc hsz
         go_wp2
         go_meet
         case rel=>exact⟨b28,⟨ut,un,uk,uS,ua,uc,uK,uka,ukc,uM,uma,umc⟩,rfl,hlb,Nat.le_trans hszc HBE.out.size,HUE,HFX,HVU,HBE⟩
       ·skip
        go_simp
        obtain⟨V3,hV3⟩: ∃V3,V3=V2.alloc (.cells #[.int .i64 0,.int .i64 0,.int .i64 0,.slice none 0 0,.slice none 0 0,.slice none 0 0] 26):=⟨_,rfl⟩
        have hb:Below V2.heap.size V2 V3:=by rw[hV3];exact newAlloc _ _
        have hn:BoxS V3 V2.heap.size zeroC10:=by rw[hV3];exact BoxS.new V2 zeroC10 _
        have hsb28:V3.heap.size=V2.heap.size+1:=by rw[hV3];simp
        rw[<-hV3]
        obtain⟨b28,hb28⟩: ∃b28,V2.heap.size=b28:=⟨_,rfl⟩
        rw[hb28] at hn hsb28 ⊢
        have HNb28:Hid (∀W,Below V3.heap.size V3 W->BoxS W b28 zeroC10):=hid fun W hw=>hn.later hw
        have HBV2V3:=hid hb
        have HBV3:Hid (Below wz.heap.size wz V3):=hid (step HBV2.out hb)
        have HSb28:=hid hb28
        have HS1b28:=hid hsb28
        clear hV3 hb hn hb28 hsb28
        refine hK.out _ _ (HKP.out _ HBV3.out) (fun hHeld=>?_)
        clear hK K
        try simp only[Act.put,getElem_toArray,getElem_cons_succ,getElem_cons_zero,setIfInBounds_toArray,set_cons_zero,set_cons_succ]
        refine wpAnyH_ready (rs:= [7]) (by kernel_rfl) (by simp) ?_
        refine AllReadyH.cons rfl (fun K hK=>?_) AllReadyH.nil
        ·skip
         go_simp
         go_at_call 15
         refine(KA.out V3 HBV3.out).mono ?_
         rintro e V4 ⟨⟨ut,un,uk,uS,ua,uc,uK,uka,ukc,uM,uma,umc⟩,ra,rp,he,hv,hf,hr,hb⟩
         unfold stVal at he
         simp only[StC.sv,StC.kv,StC.mv] at he
         subst he
         have HVU:=hid hv
         have HFU:=hid hf
         have HRU:=hid hr
         have HBV3V4:=hid hb
         have HBV4:Hid (Below wz.heap.size wz V4):=hid (step HBV3.out hb)
         clear hv hf hr hb
         refine hK.out _ _ (HKP.out _ HBV4.out) (fun hHeld=>?_)
         clear hK K
         try simp only[Act.put,getElem_toArray,getElem_cons_succ,getElem_cons_zero,setIfInBounds_toArray,set_cons_zero,set_cons_succ]
         refine wpAnyH_take (i:=8) (v:=?_) rfl (by kernel_rfl) (by kernel_rfl) (by kernel_rfl) (fun _ _ _ h=>h) (Or.inl ⟨by rfl,?_⟩) (by assumption) ?_
         rotate_left
         ·intro w hSw;(try dsimp only at hSw);go_simp<;>with_reducible rfl
         try simp only[Act.put,getElem_toArray,getElem_cons_succ,getElem_cons_zero,setIfInBounds_toArray,set_cons_zero,set_cons_succ]
         refine wpAnyH_take (i:=9) (v:=?_) rfl (by kernel_rfl) (by kernel_rfl) (by kernel_rfl) (fun _ _ _ h=>h) (Or.inl ⟨by rfl,?_⟩) (by assumption) ?_
         rotate_left
         ·intro w hSw;(try dsimp only at hSw);go_simp<;>with_reducible rfl
         try simp only[Act.put,getElem_toArray,getElem_cons_succ,getElem_cons_zero,setIfInBounds_toArray,set_cons_zero,set_cons_succ]
         refine wpAnyH_take (i:=10) (v:=?_) rfl (by kernel_rfl) (by kernel_rfl) (by kernel_rfl) (fun _ _ _ h=>h) (Or.inl ⟨by rfl,?_⟩) (by assumption) ?_
         rotate_left
         ·intro w hSw;(try dsimp only at hSw);go_simp<;>with_reducible rfl
         try simp only[Act.put,getElem_toArray,getElem_cons_succ,getElem_cons_zero,setIfInBounds_toArray,set_cons_zero,set_cons_succ]
         refine wpAnyH_take (i:=11) (v:=?_) rfl (by kernel_rfl) (by kernel_rfl) (by kernel_rfl) (fun _ _ _ h=>h) (Or.inl ⟨by rfl,?_⟩) (by assumption) ?_
         rotate_left
         ·intro w hSw;(try dsimp only at hSw);go_simp<;>with_reducible rfl
         try simp only[Act.put,getElem_toArray,getElem_cons_succ,getElem_cons_zero,setIfInBounds_toArray,set_cons_zero,set_cons_succ]
         have hsz:wz.heap.size<=b28:=by have:=HSb28.out;have:=HBV2.out.size;omega
         have hsz2:wz.heap.size<=b44:=by have:=HSb44.out;have:=HBV1.out.size;omega
         have hne:b28≠b44:=by have:=HSb28.out;have:=HS1b44.out;have:=((Below.refl V2.heap.size V2):Below _ _ V2).size;omega
         have hne2:b44≠b28:=fun q=>hne q.symm
         have hX1:=HNb28.out V4 HBV3V4.out
         have hR1:=HNb44.out V4 (step HBV2V3.out HBV3V4.out)
         obtain⟨x0,x1,x2,x3,x4,x5,xf⟩:=hX1
         simp only[zeroC10,StC.sv,StC.kv,StC.mv,List.length_nil] at x0 x1 x2 x3 x4 x5
         obtain⟨⟨y0,y1,y2,y3⟩,yf⟩:=hR1 _ (Below.refl _ _)
         refine wpAnyH_ready (rs:= [14]) (by kernel_rfl) (by simp) ?_
         refine AllReadyH.cons rfl (fun K hK=>?_) AllReadyH.nil
         go_simp
         refine hK.out _ _ (HKP.out _ (below_set6 HBV4.out b28 hsz (.int .i64 ut) (.int .i64 un) (.int .i64 uk) (.slice ua uS.length uc) (.slice uka uK.length ukc) (.slice uma uM.length umc))) (fun hHeld=>?_)
         clear hK K
         try simp only[Act.put,getElem_toArray,getElem_cons_succ,getElem_cons_zero,setIfInBounds_toArray,set_cons_zero,set_cons_succ]
         refine wpAnyH_ready (rs:= [15]) (by kernel_rfl) (by simp) ?_
         refine AllReadyH.cons rfl (fun K hK=>?_) AllReadyH.nil
         go_simp
         refine hK.out _ _ (HKP.out _ (set4k (below_set6 HBV4.out b28 hsz (.int .i64 ut) (.int .i64 un) (.int .i64 uk) (.slice ua uS.length uc) (.slice uka uK.length ukc) (.slice uma uM.length umc)) b44 hsz2 (.int .i64 dc) (.int .i64 dn) (.int .i64 da) (.slice ra dh.length rp))) (fun hHeld=>?_)
         clear hK K
         try simp only[Act.put,getElem_toArray,getElem_cons_succ,getElem_cons_zero,setIfInBounds_toArray,set_cons_zero,set_cons_succ]
         refine wpAnyH_take (i:=16) (v:=?_) rfl (by kernel_rfl) (by kernel_rfl) (by kernel_rfl) (fun _ _ _ h=>h) (Or.inl ⟨by rfl,?_⟩) (by assumption) ?_
         rotate_left
         ·intro w hSw;(try dsimp only at hSw);go_simp<;>with_reducible rfl
         try simp only[Act.put,getElem_toArray,getElem_cons_succ,getElem_cons_zero,setIfInBounds_toArray,set_cons_zero,set_cons_succ]
         refine wpAnyH_done (by kernel_rfl) ?_ _
         have HFE:=hid (((HFU.out).set6 (show b28<V3.heap.size by have:=HS1b28.out;have:=((Below.refl V3.heap.size V3):Below _ _ V3).size;omega) (.int .i64 ut) (.int .i64 un) (.int .i64 uk) (.slice ua uS.length uc) (.slice uka uK.length ukc) (.slice uma uM.length umc)).set4 (show b44<V3.heap.size by have:=HS1b44.out;have:=(HBV2V3.out:Below _ _ V3).size;omega) (.int .i64 dc) (.int .i64 dn) (.int .i64 da) (.slice ra dh.length rp))
         have HBE:=hid (set4k (below_set6 HBV4.out b28 hsz (.int .i64 ut) (.int .i64 un) (.int .i64 uk) (.slice ua uS.length uc) (.slice uka uK.length ukc) (.slice uma uM.length umc)) b44 hsz2 (.int .i64 dc) (.int .i64 dn) (.int .i64 da) (.slice ra dh.length rp))
         have HUE:=hid (((HNb28.out V4 HBV3V4.out).put ut un uk uS ua uc uK uka ukc uM uma umc).other4 hne2 (.int .i64 dc) (.int .i64 dn) (.int .i64 da) (.slice ra dh.length rp))
         have HSA:=hid (show wz.heap.size<=V3.heap.size from HBV3.out.size)
         have HFX:=hid ((HFC.out.later HBE.out).trans (HFE.out.lower (Nat.le_trans hszc HSA.out)))
         have hlb:HI<=b28:=Nat.le_trans hszc hsz
         go_wp2
         go_meet
         case rel=>exact⟨b28,⟨ut,un,uk,uS,ua,uc,uK,uka,ukc,uM,uma,umc⟩,rfl,hlb,Nat.le_trans hszc HBE.out.size,HUE,HFX,HVU,HBE⟩
     ·skip
      go_simp
      obtain⟨V1,hV1⟩: ∃V1,V1=V0.alloc (.cells #[.int .i64 0,.int .i64 0,.int .i64 0,.slice none 0 0,.slice none 0 0,.slice none 0 0] 26):=⟨_,rfl⟩
      have hb:Below V0.heap.size V0 V1:=by rw[hV1];exact newAlloc _ _
      have hn:BoxS V1 V0.heap.size zeroC10:=by rw[hV1];exact BoxS.new V0 zeroC10 _
      have hsb28:V1.heap.size=V0.heap.size+1:=by rw[hV1];simp
      rw[<-hV1]
      obtain⟨b28,hb28⟩: ∃b28,V0.heap.size=b28:=⟨_,rfl⟩
      rw[hb28] at hn hsb28 ⊢
      have HNb28:Hid (∀W,Below V1.heap.size V1 W->BoxS W b28 zeroC10):=hid fun W hw=>hn.later hw
      have HBV0V1:=hid hb
      have HBV1:Hid (Below wz.heap.size wz V1):=hid (step HBV0.out hb)
      have HSb28:=hid hb28
      have HS1b28:=hid hsb28
      clear hV1 hb hn hb28 hsb28
      refine hK.out _ _ (HKP.out _ HBV1.out) (fun hHeld=>?_)
      clear hK K
      try simp only[Act.put,getElem_toArray,getElem_cons_succ,getElem_cons_zero,setIfInBounds_toArray,set_cons_zero,set_cons_succ]
      refine wpAnyH_ready (rs:= [6,13]) (by kernel_rfl) (by simp) ?_
      refine AllReadyH.cons rfl (fun K hK=>?_) (AllReadyH.cons rfl (fun K hK=>?_) AllReadyH.nil)
      ·skip
       go_simp
       go_at_call 35
       refine(KQ.out V1 HBV1.out).mono ?_
       rintro e V2 ⟨rfl,hb⟩
       have HBV1V2:=hid hb
       have HBV2:Hid (Below wz.heap.size wz V2):=hid (step HBV1.out hb)
       clear hb
       refine hK.out _ _ (HKP.out _ HBV2.out) (fun hHeld=>?_)
       clear hK K
       try simp only[Act.put,getElem_toArray,getElem_cons_succ,getElem_cons_zero,setIfInBounds_toArray,set_cons_zero,set_cons_succ]
       refine wpAnyH_ready (rs:= [7,13]) (by kernel_rfl) (by simp) ?_
       refine AllReadyH.cons rfl (fun K hK=>?_) (AllReadyH.cons rfl (fun K hK=>?_) AllReadyH.nil)
       ·skip
        go_simp
        go_at_call 15
        refine(KA.out V2 HBV2.out).mono ?_
        rintro e V3 ⟨⟨ut,un,uk,uS,ua,uc,uK,uka,ukc,uM,uma,umc⟩,ra,rp,he,hv,hf,hr,hb⟩
        unfold stVal at he
        simp only[StC.sv,StC.kv,StC.mv] at he
        subst he
        have HVU:=hid hv
        have HFU:=hid hf
        have HRU:=hid hr
        have HBV2V3:=hid hb
        have HBV3:Hid (Below wz.heap.size wz V3):=hid (step HBV2.out hb)
        clear hv hf hr hb
        refine hK.out _ _ (HKP.out _ HBV3.out) (fun hHeld=>?_)
        clear hK K
        try simp only[Act.put,getElem_toArray,getElem_cons_succ,getElem_cons_zero,setIfInBounds_toArray,set_cons_zero,set_cons_succ]
        refine wpAnyH_take (i:=8) (v:=?_) rfl (by kernel_rfl) (by kernel_rfl) (by kernel_rfl) (fun _ _ _ h=>h) (Or.inl ⟨by rfl,?_⟩) (by assumption) ?_
        rotate_left
        ·intro w hSw;(try dsimp only at hSw);go_simp<;>with_reducible rfl
        try simp only[Act.put,getElem_toArray,getElem_cons_succ,getElem_cons_zero,setIfInBounds_toArray,set_cons_zero,set_cons_succ]
        refine wpAnyH_take (i:=9) (v:=?_) rfl (by kernel_rfl) (by kernel_rfl) (by kernel_rfl) (fun _ _ _ h=>h) (Or.inl ⟨by rfl,?_⟩) (by assumption) ?_
        rotate_left
        ·intro w hSw;(try dsimp only at hSw);go_simp<;>with_reducible rfl
        try simp only[Act.put,getElem_toArray,getElem_cons_succ,getElem_cons_zero,setIfInBounds_toArray,set_cons_zero,set_cons_succ]
        refine wpAnyH_take (i:=10) (v:=?_) rfl (by kernel_rfl) (by kernel_rfl) (by kernel_rfl) (fun _ _ _ h=>h) (Or.inl ⟨by rfl,?_⟩) (by assumption) ?_
        rotate_left
        ·intro w hSw;(try dsimp only at hSw);go_simp<;>with_reducible rfl
        try simp only[Act.put,getElem_toArray,getElem_cons_succ,getElem_cons_zero,setIfInBounds_toArray,set_cons_zero,set_cons_succ]
        refine wpAnyH_take (i:=11) (v:=?_) rfl (by kernel_rfl) (by kernel_rfl) (by kernel_rfl) (fun _ _ _ h=>h) (Or.inl ⟨by rfl,?_⟩) (by assumption) ?_
        rotate_left
        ·intro w hSw;(try dsimp only at hSw);go_simp<;>with_reducible rfl
        try simp only[Act.put,getElem_toArray,getElem_cons_succ,getElem_cons_zero,setIfInBounds_toArray,set_cons_zero,set_cons_succ]
        refine wpAnyH_ready (rs:= [13]) (by kernel_rfl) (by simp) ?_
        refine AllReadyH.cons rfl (fun K hK=>?_) AllReadyH.nil
        ·skip
         go_simp
         obtain⟨V4,hV4⟩: ∃V4,V4=V3.alloc (.cells #[.int .i64 0,.int .i64 0,.int .i64 0,.slice none 0 0] 36):=⟨_,rfl⟩
         have hb:Below V3.heap.size V3 V4:=by rw[hV4];exact newAlloc _ _
         have hn:EmptyR V4 V3.heap.size:=by rw[hV4];exact EmptyR.new V3
         have hsb44:V4.heap.size=V3.heap.size+1:=by rw[hV4];simp
         rw[<-hV4]
         obtain⟨b44,hb44⟩: ∃b44,V3.heap.size=b44:=⟨_,rfl⟩
         rw[hb44] at hn hsb44 ⊢
         have HNb44:Hid (∀W,Below V4.heap.size V4 W->EmptyR W b44):=hid fun W hw=>hn.later hw
         have HBV3V4:=hid hb
         have HBV4:Hid (Below wz.heap.size wz V4):=hid (step HBV3.out hb)
         have HSb44:=hid hb44
         have HS1b44:=hid hsb44
         clear hV4 hb hn hb44 hsb44
         refine hK.out _ _ (HKP.out _ HBV4.out) (fun hHeld=>?_)
         clear hK K
         try simp only[Act.put,getElem_toArray,getElem_cons_succ,getElem_cons_zero,setIfInBounds_toArray,set_cons_zero,set_cons_succ]
         have hsz:wz.heap.size<=b28:=by have:=HSb28.out;have:=HBV0.out.size;omega
         have hsz2:wz.heap.size<=b44:=by have:=HSb44.out;have:=HBV3.out.size;omega
         have hne:b28≠b44:=by have:=HSb44.out;have:=HS1b28.out;have:=((step HBV1V2.out HBV2V3.out):Below _ _ V3).size;omega
         have hne2:b44≠b28:=fun q=>hne q.symm
         have hX1:=HNb28.out V4 (step (step HBV1V2.out HBV2V3.out) HBV3V4.out)
         have hR1:=HNb44.out V4 (Below.refl V4.heap.size V4)
         obtain⟨x0,x1,x2,x3,x4,x5,xf⟩:=hX1
         simp only[zeroC10,StC.sv,StC.kv,StC.mv,List.length_nil] at x0 x1 x2 x3 x4 x5
         obtain⟨⟨y0,y1,y2,y3⟩,yf⟩:=hR1 _ (Below.refl _ _)
         refine wpAnyH_ready (rs:= [14]) (by kernel_rfl) (by simp) ?_
         refine AllReadyH.cons rfl (fun K hK=>?_) AllReadyH.nil
         go_simp
         refine hK.out _ _ (HKP.out _ (below_set6 HBV4.out b28 hsz (.int .i64 ut) (.int .i64 un) (.int .i64 uk) (.slice ua uS.length uc) (.slice uka uK.length ukc) (.slice uma uM.length umc))) (fun hHeld=>?_)
         clear hK K
         try simp only[Act.put,getElem_toArray,getElem_cons_succ,getElem_cons_zero,setIfInBounds_toArray,set_cons_zero,set_cons_succ]
         refine wpAnyH_ready (rs:= [15]) (by kernel_rfl) (by simp) ?_
         refine AllReadyH.cons rfl (fun K hK=>?_) AllReadyH.nil
         go_simp
         refine hK.out _ _ (HKP.out _ (set4k (below_set6 HBV4.out b28 hsz (.int .i64 ut) (.int .i64 un) (.int .i64 uk) (.slice ua uS.length uc) (.slice uka uK.length ukc) (.slice uma uM.length umc)) b44 hsz2 (.int .i64 dc) (.int .i64 dn) (.int .i64 da) (.slice ra dh.length rp))) (fun hHeld=>?_)
         clear hK K
         try simp only[Act.put,getElem_toArray,getElem_cons_succ,getElem_cons_zero,setIfInBounds_toArray,set_cons_zero,set_cons_succ]
         refine wpAnyH_take (i:=16) (v:=?_) rfl (by kernel_rfl) (by kernel_rfl) (by kernel_rfl) (fun _ _ _ h=>h) (Or.inl ⟨by rfl,?_⟩) (by assumption) ?_
         rotate_left
         ·intro w hSw;(try dsimp only at hSw);go_simp<;>with_reducible rfl
         try simp only[Act.put,getElem_toArray,getElem_cons_succ,getElem_cons_zero,setIfInBounds_toArray,set_cons_zero,set_cons_succ]
         refine wpAnyH_done (by kernel_rfl) ?_ _
         have HFE:=hid (fromS_mix HFU.out HBV3V4.out (show b28<V2.heap.size by have:=HS1b28.out;have:=(HBV1V2.out:Below _ _ V2).size;omega) (show V3.heap.size<=b44 by have:=HSb44.out;have:=((Below.refl V3.heap.size V3):Below _ _ V3).size;omega) (.int .i64 ut) (.int .i64 un) (.int .i64 uk) (.slice ua uS.length uc) (.slice uka uK.length ukc) (.slice uma uM.length umc) (.int .i64 dc) (.int .i64 dn) (.int .i64 da) (.slice ra dh.length rp))
         have HBE:=hid (set4k (below_set6 HBV4.out b28 hsz (.int .i64 ut) (.int .i64 un) (.int .i64 uk) (.slice ua uS.length uc) (.slice uka uK.length ukc) (.slice uma uM.length umc)) b44 hsz2 (.int .i64 dc) (.int .i64 dn) (.int .i64 da) (.slice ra dh.length rp))
         have HUE:=hid (((HNb28.out V4 (step (step HBV1V2.out HBV2V3.out) HBV3V4.out)).put ut un uk uS ua uc uK uka ukc uM uma umc).other4 hne2 (.int .i64 dc) (.int .i64 dn) (.int .i64 da) (.slice ra dh.length rp))
         have HSA:=hid (show wz.heap.size<=V2.heap.size from HBV2.out.size)
         have HFX:=hid ((HFC.out.later HBE.out).trans (HFE.out.lower (Nat.le_trans hszc HSA.out)))
         have hlb:HI<=b28:=Nat.le_trans hszc hsz
         go_wp2
         go_meet
         case rel=>exact⟨b28,⟨ut,un,uk,uS,ua,uc,uK,uka,ukc,uM,uma,umc⟩,rfl,hlb,Nat.le_trans hszc HBE.out.size,HUE,HFX,HVU,HBE⟩
       ·skip
        go_simp
        obtain⟨V3,hV3⟩: ∃V3,V3=V2.alloc (.cells #[.int .i64 0,.int .i64 0,.int .i64 0,.slice none 0 0] 36):=⟨_,rfl⟩
        have hb:Below V2.heap.size V2 V3:=by rw[hV3];exact newAlloc _ _
        have hn:EmptyR V3 V2.heap.size:=by rw[hV3];exact EmptyR.new V2
        have hsb44:V3.heap.size=V2.heap.size+1:=by rw[hV3];simp
        rw[<-hV3]
        obtain⟨b44,hb44⟩: ∃b44,V2.heap.size=b44:=⟨_,rfl⟩
        rw[hb44] at hn hsb44 ⊢
        have HNb44:Hid (∀W,Below V3.heap.size V3 W->EmptyR W b44):=hid fun W hw=>hn.later hw
        have HBV2V3:=hid hb
        have HBV3:Hid (Below wz.heap.size wz V3):=hid (step HBV2.out hb)
        have HSb44:=hid hb44
        have HS1b44:=hid hsb44
        clear hV3 hb hn hb44 hsb44
        refine hK.out _ _ (HKP.out _ HBV3.out) (fun hHeld=>?_)
        clear hK K
        try simp only[Act.put,getElem_toArray,getElem_cons_succ,getElem_cons_zero,setIfInBounds_toArray,set_cons_zero,set_cons_succ]
        refine wpAnyH_ready (rs:= [7]) (by kernel_rfl) (by simp) ?_
        refine AllReadyH.cons rfl (fun K hK=>?_) AllReadyH.nil
        ·skip
         go_simp
         go_at_call 15
         refine(KA.out V3 HBV3.out).mono ?_
         rintro e V4 ⟨⟨ut,un,uk,uS,ua,uc,uK,uka,ukc,uM,uma,umc⟩,ra,rp,he,hv,hf,hr,hb⟩
         unfold stVal at he
         simp only[StC.sv,StC.kv,StC.mv] at he
         subst he
         have HVU:=hid hv
         have HFU:=hid hf
         have HRU:=hid hr
         have HBV3V4:=hid hb
         have HBV4:Hid (Below wz.heap.size wz V4):=hid (step HBV3.out hb)
         clear hv hf hr hb
         refine hK.out _ _ (HKP.out _ HBV4.out) (fun hHeld=>?_)
         clear hK K
         try simp only[Act.put,getElem_toArray,getElem_cons_succ,getElem_cons_zero,setIfInBounds_toArray,set_cons_zero,set_cons_succ]
         refine wpAnyH_take (i:=8) (v:=?_) rfl (by kernel_rfl) (by kernel_rfl) (by kernel_rfl) (fun _ _ _ h=>h) (Or.inl ⟨by rfl,?_⟩) (by assumption) ?_
         rotate_left
         ·intro w hSw;(try dsimp only at hSw);go_simp<;>with_reducible rfl
         try simp only[Act.put,getElem_toArray,getElem_cons_succ,getElem_cons_zero,setIfInBounds_toArray,set_cons_zero,set_cons_succ]
         refine wpAnyH_take (i:=9) (v:=?_) rfl (by kernel_rfl) (by kernel_rfl) (by kernel_rfl) (fun _ _ _ h=>h) (Or.inl ⟨by rfl,?_⟩) (by assumption) ?_
         rotate_left
         ·intro w hSw;(try dsimp only at hSw);go_simp<;>with_reducible rfl
         try simp only[Act.put,getElem_toArray,getElem_cons_succ,getElem_cons_zero,setIfInBounds_toArray,set_cons_zero,set_cons_succ]
         refine wpAnyH_take (i:=10) (v:=?_) rfl (by kernel_rfl) (by kernel_rfl) (by kernel_rfl) (fun _ _ _ h=>h) (Or.inl ⟨by rfl,?_⟩) (by assumption) ?_
         rotate_left
         ·intro w hSw;(try dsimp only at hSw);go_simp<;>with_reducible rfl
         try simp only[Act.put,getElem_toArray,getElem_cons_succ,getElem_cons_zero,setIfInBounds_toArray,set_cons_zero,set_cons_succ]
         refine wpAnyH_take (i:=11) (v:=?_) rfl (by kernel_rfl) (by kernel_rfl) (by kernel_rfl) (fun _ _ _ h=>h) (Or.inl ⟨by rfl,?_⟩) (by assumption) ?_
         rotate_left
         ·intro w hSw;(try dsimp only at hSw);go_simp<;>with_reducible rfl
         try simp only[Act.put,getElem_toArray,getElem_cons_succ,getElem_cons_zero,setIfInBounds_toArray,set_cons_zero,set_cons_succ]
         have hsz:wz.heap.size<=b28:=by have:=HSb28.out;have:=HBV0.out.size;omega
         have hsz2:wz.heap.size<=b44:=by have:=HSb44.out;have:=HBV2.out.size;omega
         have hne:b28≠b44:=by have:=HSb44.out;have:=HS1b28.out;have:=(HBV1V2.out:Below _ _ V2).size;omega
         have hne2:b44≠b28:=fun q=>hne q.symm
         have hX1:=HNb28.out V4 (step (step HBV1V2.out HBV2V3.out) HBV3V4.out)
         have hR1:=HNb44.out V4 HBV3V4.out
         obtain⟨x0,x1,x2,x3,x4,x5,xf⟩:=hX1
         simp only[zeroC10,StC.sv,StC.kv,StC.mv,List.length_nil] at x0 x1 x2 x3 x4 x5
         obtain⟨⟨y0,y1,y2,y3⟩,yf⟩:=hR1 _ (Below.refl _ _)
         refine wpAnyH_ready (rs:= [14]) (by kernel_rfl) (by simp) ?_
         refine AllReadyH.cons rfl (fun K hK=>?_) AllReadyH.nil
         go_simp
         refine hK.out _ _ (HKP.out _ (below_set6 HBV4.out b28 hsz (.int .i64 ut) (.int .i64 un) (.int .i64 uk) (.slice ua uS.length uc) (.slice uka uK.length ukc) (.slice uma uM.length umc))) (fun hHeld=>?_)
         clear hK K
         try simp only[Act.put,getElem_toArray,getElem_cons_succ,getElem_cons_zero,setIfInBounds_toArray,set_cons_zero,set_cons_succ]
         refine wpAnyH_ready (rs:= [15]) (by kernel_rfl) (by simp) ?_
         refine AllReadyH.cons rfl (fun K hK=>?_) AllReadyH.nil
         go_simp
         refine hK.out _ _ (HKP.out _ (set4k (below_set6 HBV4.out b28 hsz (.int .i64 ut) (.int .i64 un) (.int .i64 uk) (.slice ua uS.length uc) (.slice uka uK.length ukc) (.slice uma uM.length umc)) b44 hsz2 (.int .i64 dc) (.int .i64 dn) (.int .i64 da) (.slice ra dh.length rp))) (fun hHeld=>?_)
         clear hK K
         try simp only[Act.put,getElem_toArray,getElem_cons_succ,getElem_cons_zero,setIfInBounds_toArray,set_cons_zero,set_cons_succ]
         refine wpAnyH_take (i:=16) (v:=?_) rfl (by kernel_rfl) (by kernel_rfl) (by kernel_rfl) (fun _ _ _ h=>h) (Or.inl ⟨by rfl,?_⟩) (by assumption) ?_
         rotate_left
         ·intro w hSw;(try dsimp only at hSw);go_simp<;>with_reducible rfl
         try simp only[Act.put,getElem_toArray,getElem_cons_succ,getElem_cons_zero,setIfInBounds_toArray,set_cons_zero,set_cons_succ]
         refine wpAnyH_done (by kernel_rfl) ?_ _
         have HFE:=hid (((HFU.out).set6 (show b28<V3.heap.size by have:=HS1b28.out;have:=((step HBV1V2.out HBV2V3.out):Below _ _ V3).size;omega) (.int .i64 ut) (.int .i64 un) (.int .i64 uk) (.slice ua uS.length uc) (.slice uka uK.length ukc) (.slice uma uM.length umc)).set4 (show b44<V3.heap.size by have:=HS1b44.out;have:=((Below.refl V3.heap.size V3):Below _ _ V3).size;omega) (.int .i64 dc) (.int .i64 dn) (.int .i64 da) (.slice ra dh.length rp))
         have HBE:=hid (set4k (below_set6 HBV4.out b28 hsz (.int .i64 ut) (.int .i64 un) (.int .i64 uk) (.slice ua uS.length uc) (.slice uka uK.length ukc) (.slice uma uM.length umc)) b44 hsz2 (.int .i64 dc) (.int .i64 dn) (.int .i64 da) (.slice ra dh.length rp))
         have HUE:=hid (((HNb28.out V4 (step (step HBV1V2.out HBV2V3.out) HBV3V4.out)).put ut un uk uS ua uc uK uka ukc uM uma umc).other4 hne2 (.int .i64 dc) (.int .i64 dn) (.int .i64 da) (.slice ra dh.length rp))
         have HSA:=hid (show wz.heap.size<=V3.heap.size from HBV3.out.size)
         have HFX:=hid ((HFC.out.later HBE.out).trans (HFE.out.lower (Nat.le_trans hszc HSA.out)))
         have hlb:HI<=b28:=Nat.le_trans hszc hsz
         go_wp2
         go_meet
         case rel=>exact⟨b28,⟨ut,un,uk,uS,ua,uc,uK,uka,ukc,uM,uma,umc⟩,rfl,hlb,Nat.le_trans hszc HBE.out.size,HUE,HFX,HVU,HBE⟩
      ·skip
       go_simp
       obtain⟨V2,hV2⟩: ∃V2,V2=V1.alloc (.cells #[.int .i64 0,.int .i64 0,.int .i64 0,.slice none 0 0] 36):=⟨_,rfl⟩
       have hb:Below V1.heap.size V1 V2:=by rw[hV2];exact newAlloc _ _
       have hn:EmptyR V2 V1.heap.size:=by rw[hV2];exact EmptyR.new V1
       have hsb44:V2.heap.size=V1.heap.size+1:=by rw[hV2];simp
       rw[<-hV2]
       obtain⟨b44,hb44⟩: ∃b44,V1.heap.size=b44:=⟨_,rfl⟩
       rw[hb44] at hn hsb44 ⊢
       have HNb44:Hid (∀W,Below V2.heap.size V2 W->EmptyR W b44):=hid fun W hw=>hn.later hw
       have HBV1V2:=hid hb
       have HBV2:Hid (Below wz.heap.size wz V2):=hid (step HBV1.out hb)
       have HSb44:=hid hb44
       have HS1b44:=hid hsb44
       clear hV2 hb hn hb44 hsb44
       refine hK.out _ _ (HKP.out _ HBV2.out) (fun hHeld=>?_)
       clear hK K
       try simp only[Act.put,getElem_toArray,getElem_cons_succ,getElem_cons_zero,setIfInBounds_toArray,set_cons_zero,set_cons_succ]
       refine wpAnyH_ready (rs:= [6]) (by kernel_rfl) (by simp) ?_
       refine AllReadyH.cons rfl (fun K hK=>?_) AllReadyH.nil
       ·skip
        go_simp
        go_at_call 35
        refine(KQ.out V2 HBV2.out).mono ?_
        rintro e V3 ⟨rfl,hb⟩
        have HBV2V3:=hid hb
        have HBV3:Hid (Below wz.heap.size wz V3):=hid (step HBV2.out hb)
        clear hb
        refine hK.out _ _ (HKP.out _ HBV3.out) (fun hHeld=>?_)
        clear hK K
        try simp only[Act.put,getElem_toArray,getElem_cons_succ,getElem_cons_zero,setIfInBounds_toArray,set_cons_zero,set_cons_succ]
        refine wpAnyH_ready (rs:= [7]) (by kernel_rfl) (by simp) ?_
        refine AllReadyH.cons rfl (fun K hK=>?_) AllReadyH.nil
        ·skip
         go_simp
         go_at_call 15
         refine(KA.out V3 HBV3.out).mono ?_
         rintro e V4 ⟨⟨ut,un,uk,uS,ua,uc,uK,uka,ukc,uM,uma,umc⟩,ra,rp,he,hv,hf,hr,hb⟩
         unfold stVal at he
         simp only[StC.sv,StC.kv,StC.mv] at he
         subst he
         have HVU:=hid hv
         have HFU:=hid hf
         have HRU:=hid hr
         have HBV3V4:=hid hb
         have HBV4:Hid (Below wz.heap.size wz V4):=hid (step HBV3.out hb)
         clear hv hf hr hb
         refine hK.out _ _ (HKP.out _ HBV4.out) (fun hHeld=>?_)
         clear hK K
         try simp only[Act.put,getElem_toArray,getElem_cons_succ,getElem_cons_zero,setIfInBounds_toArray,set_cons_zero,set_cons_succ]
         refine wpAnyH_take (i:=8) (v:=?_) rfl (by kernel_rfl) (by kernel_rfl) (by kernel_rfl) (fun _ _ _ h=>h) (Or.inl ⟨by rfl,?_⟩) (by assumption) ?_
         rotate_left
         ·intro w hSw;(try dsimp only at hSw);go_simp<;>with_reducible rfl
         try simp only[Act.put,getElem_toArray,getElem_cons_succ,getElem_cons_zero,setIfInBounds_toArray,set_cons_zero,set_cons_succ]
         refine wpAnyH_take (i:=9) (v:=?_) rfl (by kernel_rfl) (by kernel_rfl) (by kernel_rfl) (fun _ _ _ h=>h) (Or.inl ⟨by rfl,?_⟩) (by assumption) ?_
         rotate_left
         ·intro w hSw;(try dsimp only at hSw);go_simp<;>with_reducible rfl
         try simp only[Act.put,getElem_toArray,getElem_cons_succ,getElem_cons_zero,setIfInBounds_toArray,set_cons_zero,set_cons_succ]
         refine wpAnyH_take (i:=10) (v:=?_) rfl (by kernel_rfl) (by kernel_rfl) (by kernel_rfl) (fun _ _ _ h=>h) (Or.inl ⟨by rfl,?_⟩) (by assumption) ?_
         rotate_left
         ·intro w hSw;(try dsimp only at hSw);go_simp<;>with_reducible rfl
         try simp only[Act.put,getElem_toArray,getElem_cons_succ,getElem_cons_zero,setIfInBounds_toArray,set_cons_zero,set_cons_succ]
         refine wpAnyH_take (i:=11) (v:=?_) rfl (by kernel_rfl) (by kernel_rfl) (by kernel_rfl) (fun _ _ _ h=>h) (Or.inl ⟨by rfl,?_⟩) (by assumption) ?_
         rotate_left
         ·intro w hSw;(try dsimp only at hSw);go_simp<;>with_reducible rfl
         try simp only[Act.put,getElem_toArray,getElem_cons_succ,getElem_cons_zero,setIfInBounds_toArray,set_cons_zero,set_cons_succ]
         have hsz:wz.heap.size<=b28:=by have:=HSb28.out;have:=HBV0.out.size;omega
         have hsz2:wz.heap.size<=b44:=by have:=HSb44.out;have:=HBV1.out.size;omega
         have hne:b28≠b44:=by have:=HSb44.out;have:=HS1b28.out;have:=((Below.refl V1.heap.size V1):Below _ _ V1).size;omega
         have hne2:b44≠b28:=fun q=>hne q.symm
         have hX1:=HNb28.out V4 (step (step HBV1V2.out HBV2V3.out) HBV3V4.out)
         have hR1:=HNb44.out V4 (step HBV2V3.out HBV3V4.out)
         obtain⟨x0,x1,x2,x3,x4,x5,xf⟩:=hX1
         simp only[zeroC10,StC.sv,StC.kv,StC.mv,List.length_nil] at x0 x1 x2 x3 x4 x5
         obtain⟨⟨y0,y1,y2,y3⟩,yf⟩:=hR1 _ (Below.refl _ _)
         refine wpAnyH_ready (rs:= [14]) (by kernel_rfl) (by simp) ?_
         refine AllReadyH.cons rfl (fun K hK=>?_) AllReadyH.nil
         go_simp
         refine hK.out _ _ (HKP.out _ (below_set6 HBV4.out b28 hsz (.int .i64 ut) (.int .i64 un) (.int .i64 uk) (.slice ua uS.length uc) (.slice uka uK.length ukc) (.slice uma uM.length umc))) (fun hHeld=>?_)
         clear hK K
         try simp only[Act.put,getElem_toArray,getElem_cons_succ,getElem_cons_zero,setIfInBounds_toArray,set_cons_zero,set_cons_succ]
         refine wpAnyH_ready (rs:= [15]) (by kernel_rfl) (by simp) ?_
         refine AllReadyH.cons rfl (fun K hK=>?_) AllReadyH.nil
         go_simp
         refine hK.out _ _ (HKP.out _ (set4k (below_set6 HBV4.out b28 hsz (.int .i64 ut) (.int .i64 un) (.int .i64 uk) (.slice ua uS.length uc) (.slice uka uK.length ukc) (.slice uma uM.length umc)) b44 hsz2 (.int .i64 dc) (.int .i64 dn) (.int .i64 da) (.slice ra dh.length rp))) (fun hHeld=>?_)
         clear hK K
         try simp only[Act.put,getElem_toArray,getElem_cons_succ,getElem_cons_zero,setIfInBounds_toArray,set_cons_zero,set_cons_succ]
         refine wpAnyH_take (i:=16) (v:=?_) rfl (by kernel_rfl) (by kernel_rfl) (by kernel_rfl) (fun _ _ _ h=>h) (Or.inl ⟨by rfl,?_⟩) (by assumption) ?_
         rotate_left
         ·intro w hSw;(try dsimp only at hSw);go_simp<;>with_reducible rfl
         try simp only[Act.put,getElem_toArray,getElem_cons_succ,getElem_cons_zero,setIfInBounds_toArray,set_cons_zero,set_cons_succ]
         refine wpAnyH_done (by kernel_rfl) ?_ _
         have HFE:=hid (((HFU.out).set6 (show b28<V3.heap.size by have:=HS1b28.out;have:=((step HBV1V2.out HBV2V3.out):Below _ _ V3).size;omega) (.int .i64 ut) (.int .i64 un) (.int .i64 uk) (.slice ua uS.length uc) (.slice uka uK.length ukc) (.slice uma uM.length umc)).set4 (show b44<V3.heap.size by have:=HS1b44.out;have:=(HBV2V3.out:Below _ _ V3).size;omega) (.int .i64 dc) (.int .i64 dn) (.int .i64 da) (.slice ra dh.length rp))
         have HBE:=hid (set4k (below_set6 HBV4.out b28 hsz (.int .i64 ut) (.int .i64 un) (.int .i64 uk) (.slice ua uS.length uc) (.slice uka uK.length ukc) (.slice uma uM.length umc)) b44 hsz2 (.int .i64 dc) (.int .i64 dn) (.int .i64 da) (.slice ra dh.length rp))
         have HUE:=hid (((HNb28.out V4 (step (step HBV1V2.out HBV2V3.out) HBV3V4.out)).put ut un uk uS ua uc uK uka ukc uM uma umc).other4 hne2 (.int .i64 dc) (.int .i64 dn) (.int .i64 da) (.slice ra dh.length rp))
         have HSA:=hid (show wz.heap.size<=V3.heap.size from HBV3.out.size)
         have HFX:=hid ((HFC.out.later HBE.out).trans (HFE.out.lower (Nat.le_trans hszc HSA.out)))
         have hlb:HI<=b28:=Nat.le_trans hszc hsz
         go_wp2
         go_meet
         case rel=>exact⟨b28,⟨ut,un,uk,uS,ua,uc,uK,uka,ukc,uM,uma,umc⟩,rfl,hlb,Nat.le_trans hszc HBE.out.size,HUE,HFX,HVU,HBE⟩
     ·skip
      go_simp
      obtain⟨V1,hV1⟩: ∃V1,V1=V0.alloc (.cells #[.int .i64 0,.int .i64 0,.int .i64 0,.slice none 0 0] 36):=⟨_,rfl⟩
      have hb:Below V0.heap.size V0 V1:=by rw[hV1];exact newAlloc _ _
      have hn:EmptyR V1 V0.heap.size:=by rw[hV1];exact EmptyR.new V0
      have hsb44:V1.heap.size=V0.heap.size+1:=by rw[hV1];simp
      rw[<-hV1]
      obtain⟨b44,hb44⟩: ∃b44,V0.heap.size=b44:=⟨_,rfl⟩
      rw[hb44] at hn hsb44 ⊢
      have HNb44:Hid (∀W,Below V1.heap.size V1 W->EmptyR W b44):=hid fun W hw=>hn.later hw
      have HBV0V1:=hid hb
      have HBV1:Hid (Below wz.heap.size wz V1):=hid (step HBV0.out hb)
      have HSb44:=hid hb44
      have HS1b44:=hid hsb44
      clear hV1 hb hn hb44 hsb44
      refine hK.out _ _ (HKP.out _ HBV1.out) (fun hHeld=>?_)
      clear hK K
      try simp only[Act.put,getElem_toArray,getElem_cons_succ,getElem_cons_zero,setIfInBounds_toArray,set_cons_zero,set_cons_succ]
      refine wpAnyH_ready (rs:= [6,12]) (by kernel_rfl) (by simp) ?_
      refine AllReadyH.cons rfl (fun K hK=>?_) (AllReadyH.cons rfl (fun K hK=>?_) AllReadyH.nil)
      ·skip
       go_simp
       go_at_call 35
       refine(KQ.out V1 HBV1.out).mono ?_
       rintro e V2 ⟨rfl,hb⟩
       have HBV1V2:=hid hb
       have HBV2:Hid (Below wz.heap.size wz V2):=hid (step HBV1.out hb)
       clear hb
       refine hK.out _ _ (HKP.out _ HBV2.out) (fun hHeld=>?_)
       clear hK K
       try simp only[Act.put,getElem_toArray,getElem_cons_succ,getElem_cons_zero,setIfInBounds_toArray,set_cons_zero,set_cons_succ]
       refine wpAnyH_ready (rs:= [7,12]) (by kernel_rfl) (by simp) ?_
       refine AllReadyH.cons rfl (fun K hK=>?_) (AllReadyH.cons rfl (fun K hK=>?_) AllReadyH.nil)
       ·skip
        go_simp
        go_at_call 15
        refine(KA.out V2 HBV2.out).mono ?_
        rintro e V3 ⟨⟨ut,un,uk,uS,ua,uc,uK,uka,ukc,uM,uma,umc⟩,ra,rp,he,hv,hf,hr,hb⟩
        unfold stVal at he
        simp only[StC.sv,StC.kv,StC.mv] at he
        subst he
        have HVU:=hid hv
        have HFU:=hid hf
        have HRU:=hid hr
        have HBV2V3:=hid hb
        have HBV3:Hid (Below wz.heap.size wz V3):=hid (step HBV2.out hb)
        clear hv hf hr hb
        refine hK.out _ _ (HKP.out _ HBV3.out) (fun hHeld=>?_)
        clear hK K
        try simp only[Act.put,getElem_toArray,getElem_cons_succ,getElem_cons_zero,setIfInBounds_toArray,set_cons_zero,set_cons_succ]
        refine wpAnyH_take (i:=8) (v:=?_) rfl (by kernel_rfl) (by kernel_rfl) (by kernel_rfl) (fun _ _ _ h=>h) (Or.inl ⟨by rfl,?_⟩) (by assumption) ?_
        rotate_left
        ·intro w hSw;(try dsimp only at hSw);go_simp<;>with_reducible rfl
        try simp only[Act.put,getElem_toArray,getElem_cons_succ,getElem_cons_zero,setIfInBounds_toArray,set_cons_zero,set_cons_succ]
        refine wpAnyH_take (i:=9) (v:=?_) rfl (by kernel_rfl) (by kernel_rfl) (by kernel_rfl) (fun _ _ _ h=>h) (Or.inl ⟨by rfl,?_⟩) (by assumption) ?_
        rotate_left
        ·intro w hSw;(try dsimp only at hSw);go_simp<;>with_reducible rfl
        try simp only[Act.put,getElem_toArray,getElem_cons_succ,getElem_cons_zero,setIfInBounds_toArray,set_cons_zero,set_cons_succ]
        refine wpAnyH_take (i:=10) (v:=?_) rfl (by kernel_rfl) (by kernel_rfl) (by kernel_rfl) (fun _ _ _ h=>h) (Or.inl ⟨by rfl,?_⟩) (by assumption) ?_
        rotate_left
        ·intro w hSw;(try dsimp only at hSw);go_simp<;>with_reducible rfl
        try simp only[Act.put,getElem_toArray,getElem_cons_succ,getElem_cons_zero,setIfInBounds_toArray,set_cons_zero,set_cons_succ]
        refine wpAnyH_take (i:=11) (v:=?_) rfl (by kernel_rfl) (by kernel_rfl) (by kernel_rfl) (fun _ _ _ h=>h) (Or.inl ⟨by rfl,?_⟩) (by assumption) ?_
        rotate_left
        ·intro w hSw;(try dsimp only at hSw);go_simp<;>with_reducible rfl
        try simp only[Act.put,getElem_toArray,getElem_cons_succ,getElem_cons_zero,setIfInBounds_toArray,set_cons_zero,set_cons_succ]
        refine wpAnyH_ready (rs:= [12]) (by kernel_rfl) (by simp) ?_
        refine AllReadyH.cons rfl (fun K hK=>?_) AllReadyH.nil
        ·skip
         go_simp
         obtain⟨V4,hV4⟩: ∃V4,V4=V3.alloc (.cells #[.int .i64 0,.int .i64 0,.int .i64 0,.slice none 0 0,.slice none 0 0,.slice none 0 0] 26):=⟨_,rfl⟩
         have hb:Below V3.heap.size V3 V4:=by rw[hV4];exact newAlloc _ _
         have hn:BoxS V4 V3.heap.size zeroC10:=by rw[hV4];exact BoxS.new V3 zeroC10 _
         have hsb28:V4.heap.size=V3.heap.size+1:=by rw[hV4];simp
         rw[<-hV4]
         obtain⟨b28,hb28⟩: ∃b28,V3.heap.size=b28:=⟨_,rfl⟩
         rw[hb28] at hn hsb28 ⊢
         have HNb28:Hid (∀W,Below V4.heap.size V4 W->BoxS W b28 zeroC10):=hid fun W hw=>hn.later hw
         have HBV3V4:=hid hb
         have HBV4:Hid (Below wz.heap.size wz V4):=hid (step HBV3.out hb)
         have HSb28:=hid hb28
         have HS1b28:=hid hsb28
         clear hV4 hb hn hb28 hsb28
         refine hK.out _ _ (HKP.out _ HBV4.out) (fun hHeld=>?_)
         clear hK K
         try simp only[Act.put,getElem_toArray,getElem_cons_succ,getElem_cons_zero,setIfInBounds_toArray,set_cons_zero,set_cons_succ]
         have hsz:wz.heap.size<=b28:=by have:=HSb28.out;have:=HBV3.out.size;omega
         have hsz2:wz.heap.size<=b44:=by have:=HSb44.out;have:=HBV0.out.size;omega
         have hne:b28≠b44:=by have:=HSb28.out;have:=HS1b44.out;have:=((step HBV1V2.out HBV2V3.out):Below _ _ V3).size;omega
         have hne2:b44≠b28:=fun q=>hne q.symm
         have hX1:=HNb28.out V4 (Below.refl V4.heap.size V4)
         have hR1:=HNb44.out V4 (step (step HBV1V2.out HBV2V3.out) HBV3V4.out)
         obtain⟨x0,x1,x2,x3,x4,x5,xf⟩:=hX1
         simp only[zeroC10,StC.sv,StC.kv,StC.mv,List.length_nil] at x0 x1 x2 x3 x4 x5
         obtain⟨⟨y0,y1,y2,y3⟩,yf⟩:=hR1 _ (Below.refl _ _)
         refine wpAnyH_ready (rs:= [14]) (by kernel_rfl) (by simp) ?_
         refine AllReadyH.cons rfl (fun K hK=>?_) AllReadyH.nil
         go_simp
         refine hK.out _ _ (HKP.out _ (below_set6 HBV4.out b28 hsz (.int .i64 ut) (.int .i64 un) (.int .i64 uk) (.slice ua uS.length uc) (.slice uka uK.length ukc) (.slice uma uM.length umc))) (fun hHeld=>?_)
         clear hK K
         try simp only[Act.put,getElem_toArray,getElem_cons_succ,getElem_cons_zero,setIfInBounds_toArray,set_cons_zero,set_cons_succ]
         refine wpAnyH_ready (rs:= [15]) (by kernel_rfl) (by simp) ?_
         refine AllReadyH.cons rfl (fun K hK=>?_) AllReadyH.nil
         go_simp
         refine hK.out _ _ (HKP.out _ (set4k (below_set6 HBV4.out b28 hsz (.int .i64 ut) (.int .i64 un) (.int .i64 uk) (.slice ua uS.length uc) (.slice uka uK.length ukc) (.slice uma uM.length umc)) b44 hsz2 (.int .i64 dc) (.int .i64 dn) (.int .i64 da) (.slice ra dh.length rp))) (fun hHeld=>?_)
         clear hK K
         try simp only[Act.put,getElem_toArray,getElem_cons_succ,getElem_cons_zero,setIfInBounds_toArray,set_cons_zero,set_cons_succ]
         refine wpAnyH_take (i:=16) (v:=?_) rfl (by kernel_rfl) (by kernel_rfl) (by kernel_rfl) (fun _ _ _ h=>h) (Or.inl ⟨by rfl,?_⟩) (by assumption) ?_
         rotate_left
         ·intro w hSw;(try dsimp only at hSw);go_simp<;>with_reducible rfl
         try simp only[Act.put,getElem_toArray,getElem_cons_succ,getElem_cons_zero,setIfInBounds_toArray,set_cons_zero,set_cons_succ]
         refine wpAnyH_done (by kernel_rfl) ?_ _
         have HFE:=hid (((HFU.out.later (below_set6 HBV3V4.out b28 (by have:=HSb28.out;have:=((Below.refl V3.heap.size V3):Below _ _ V3).size;omega) (.int .i64 ut) (.int .i64 un) (.int .i64 uk) (.slice ua uS.length uc) (.slice uka uK.length ukc) (.slice uma uM.length umc)))).set4 (show b44<V2.heap.size by have:=HS1b44.out;have:=(HBV1V2.out:Below _ _ V2).size;omega) (.int .i64 dc) (.int .i64 dn) (.int .i64 da) (.slice ra dh.length rp))
         have HBE:=hid (set4k (below_set6 HBV4.out b28 hsz (.int .i64 ut) (.int .i64 un) (.int .i64 uk) (.slice ua uS.length uc) (.slice uka uK.length ukc) (.slice uma uM.length umc)) b44 hsz2 (.int .i64 dc) (.int .i64 dn) (.int .i64 da) (.slice ra dh.length rp))
         have HUE:=hid (((HNb28.out V4 (Below.refl V4.heap.size V4)).put ut un uk uS ua uc uK uka ukc uM uma umc).other4 hne2 (.int .i64 dc) (.int .i64 dn) (.int .i64 da) (.slice ra dh.length rp))
         have HSA:=hid (show wz.heap.size<=V2.heap.size from HBV2.out.size)
         have HFX:=hid ((HFC.out.later HBE.out).trans (HFE.out.lower (Nat.le_trans hszc HSA.out)))
         have hlb:HI<=b28:=Nat.le_trans hszc hsz
         go_wp2
         go_meet
         case rel=>exact⟨b28,⟨ut,un,uk,uS,ua,uc,uK,uka,ukc,uM,uma,umc⟩,rfl,hlb,Nat.le_trans hszc HBE.out.size,HUE,HFX,HVU,HBE⟩
       ·skip
        go_simp
        obtain⟨V3,hV3⟩: ∃V3,V3=V2.alloc (.cells #[.int .i64 0,.int .i64 0,.int .i64 0,.slice none 0 0,.slice none 0 0,.slice none 0 0] 26):=⟨_,rfl⟩
        have hb:Below V2.heap.size V2 V3:=by rw[hV3];exact newAlloc _ _
        have hn:BoxS V3 V2.heap.size zeroC10:=by rw[hV3];exact BoxS.new V2 zeroC10 _
        have hsb28:V3.heap.size=V2.heap.size+1:=by rw[hV3];simp
        rw[<-hV3]
        obtain⟨b28,hb28⟩: ∃b28,V2.heap.size=b28:=⟨_,rfl⟩
        rw[hb28] at hn hsb28 ⊢
        have HNb28:Hid (∀W,Below V3.heap.size V3 W->BoxS W b28 zeroC10):=hid fun W hw=>hn.later hw
        have HBV2V3:=hid hb
        have HBV3:Hid (Below wz.heap.size wz V3):=hid (step HBV2.out hb)
        have HSb28:=hid hb28
        have HS1b28:=hid hsb28
        clear hV3 hb hn hb28 hsb28
        refine hK.out _ _ (HKP.out _ HBV3.out) (fun hHeld=>?_)
        clear hK K
        try simp only[Act.put,getElem_toArray,getElem_cons_succ,getElem_cons_zero,setIfInBounds_toArray,set_cons_zero,set_cons_succ]
        refine wpAnyH_ready (rs:= [7]) (by kernel_rfl) (by simp) ?_
        refine AllReadyH.cons rfl (fun K hK=>?_) AllReadyH.nil
        ·skip
         go_simp
         go_at_call 15
         refine(KA.out V3 HBV3.out).mono ?_
         rintro e V4 ⟨⟨ut,un,uk,uS,ua,uc,uK,uka,ukc,uM,uma,umc⟩,ra,rp,he,hv,hf,hr,hb⟩
         unfold stVal at he
         simp only[StC.sv,StC.kv,StC.mv] at he
         subst he
         have HVU:=hid hv
         have HFU:=hid hf
         have HRU:=hid hr
         have HBV3V4:=hid hb
         have HBV4:Hid (Below wz.heap.size wz V4):=hid (step HBV3.out hb)
         clear hv hf hr hb
         refine hK.out _ _ (HKP.out _ HBV4.out) (fun hHeld=>?_)
         clear hK K
         try simp only[Act.put,getElem_toArray,getElem_cons_succ,getElem_cons_zero,setIfInBounds_toArray,set_cons_zero,set_cons_succ]
         refine wpAnyH_take (i:=8) (v:=?_) rfl (by kernel_rfl) (by kernel_rfl) (by kernel_rfl) (fun _ _ _ h=>h) (Or.inl ⟨by rfl,?_⟩) (by assumption) ?_
         rotate_left
         ·intro w hSw;(try dsimp only at hSw);go_simp<;>with_reducible rfl
         try simp only[Act.put,getElem_toArray,getElem_cons_succ,getElem_cons_zero,setIfInBounds_toArray,set_cons_zero,set_cons_succ]
         refine wpAnyH_take (i:=9) (v:=?_) rfl (by kernel_rfl) (by kernel_rfl) (by kernel_rfl) (fun _ _ _ h=>h) (Or.inl ⟨by rfl,?_⟩) (by assumption) ?_
         rotate_left
         ·intro w hSw;(try dsimp only at hSw);go_simp<;>with_reducible rfl
         try simp only[Act.put,getElem_toArray,getElem_cons_succ,getElem_cons_zero,setIfInBounds_toArray,set_cons_zero,set_cons_succ]
         refine wpAnyH_take (i:=10) (v:=?_) rfl (by kernel_rfl) (by kernel_rfl) (by kernel_rfl) (fun _ _ _ h=>h) (Or.inl ⟨by rfl,?_⟩) (by assumption) ?_
         rotate_left
         ·intro w hSw;(try dsimp only at hSw);go_simp<;>with_reducible rfl
         try simp only[Act.put,getElem_toArray,getElem_cons_succ,getElem_cons_zero,setIfInBounds_toArray,set_cons_zero,set_cons_succ]
         refine wpAnyH_take (i:=11) (v:=?_) rfl (by kernel_rfl) (by kernel_rfl) (by kernel_rfl) (fun _ _ _ h=>h) (Or.inl ⟨by rfl,?_⟩) (by assumption) ?_
         rotate_left
         ·intro w hSw;(try dsimp only at hSw);go_simp<;>with_reducible rfl
         try simp only[Act.put,getElem_toArray,getElem_cons_succ,getElem_cons_zero,setIfInBounds_toArray,set_cons_zero,set_cons_succ]
         have hsz:wz.heap.size<=b28:=by have:=HSb28.out;have:=HBV2.out.size;omega
         have hsz2:wz.heap.size<=b44:=by have:=HSb44.out;have:=HBV0.out.size;omega
         have hne:b28≠b44:=by have:=HSb28.out;have:=HS1b44.out;have:=(HBV1V2.out:Below _ _ V2).size;omega
         have hne2:b44≠b28:=fun q=>hne q.symm
         have hX1:=HNb28.out V4 HBV3V4.out
         have hR1:=HNb44.out V4 (step (step HBV1V2.out HBV2V3.out) HBV3V4.out)
         obtain⟨x0,x1,x2,x3,x4,x5,xf⟩:=hX1
         simp only[zeroC10,StC.sv,StC.kv,StC.mv,List.length_nil] at x0 x1 x2 x3 x4 x5
         obtain⟨⟨y0,y1,y2,y3⟩,yf⟩:=hR1 _ (Below.refl _ _)
         refine wpAnyH_ready (rs:= [14]) (by kernel_rfl) (by simp) ?_
         refine AllReadyH.cons rfl (fun K hK=>?_) AllReadyH.nil
         go_simp
         refine hK.out _ _ (HKP.out _ (below_set6 HBV4.out b28 hsz (.int .i64 ut) (.int .i64 un) (.int .i64 uk) (.slice ua uS.length uc) (.slice uka uK.length ukc) (.slice uma uM.length umc))) (fun hHeld=>?_)
         clear hK K
         try simp only[Act.put,getElem_toArray,getElem_cons_succ,getElem_cons_zero,setIfInBounds_toArray,set_cons_zero,set_cons_succ]
         refine wpAnyH_ready (rs:= [15]) (by kernel_rfl) (by simp) ?_
         refine AllReadyH.cons rfl (fun K hK=>?_) AllReadyH.nil
         go_simp
         refine hK.out _ _ (HKP.out _ (set4k (below_set6 HBV4.out b28 hsz (.int .i64 ut) (.int .i64 un) (.int .i64 uk) (.slice ua uS.length uc) (.slice uka uK.length ukc) (.slice uma uM.length umc)) b44 hsz2 (.int .i64 dc) (.int .i64 dn) (.int .i64 da) (.slice ra dh.length rp))) (fun hHeld=>?_)
         clear hK K
         try simp only[Act.put,getElem_toArray,getElem_cons_succ,getElem_cons_zero,setIfInBounds_toArray,set_cons_zero,set_cons_succ]
         refine wpAnyH_take (i:=16) (v:=?_) rfl (by kernel_rfl) (by kernel_rfl) (by kernel_rfl) (fun _ _ _ h=>h) (Or.inl ⟨by rfl,?_⟩) (by assumption) ?_
         rotate_left
         ·intro w hSw;(try dsimp only at hSw);go_simp<;>with_reducible rfl
         try simp only[Act.put,getElem_toArray,getElem_cons_succ,getElem_cons_zero,setIfInBounds_toArray,set_cons_zero,set_cons_succ]
         refine wpAnyH_done (by kernel_rfl) ?_ _
         have HFE:=hid (((HFU.out).set6 (show b28<V3.heap.size by have:=HS1b28.out;have:=((Below.refl V3.heap.size V3):Below _ _ V3).size;omega) (.int .i64 ut) (.int .i64 un) (.int .i64 uk) (.slice ua uS.length uc) (.slice uka uK.length ukc) (.slice uma uM.length umc)).set4 (show b44<V3.heap.size by have:=HS1b44.out;have:=((step HBV1V2.out HBV2V3.out):Below _ _ V3).size;omega) (.int .i64 dc) (.int .i64 dn) (.int .i64 da) (.slice ra dh.length rp))
         have HBE:=hid (set4k (below_set6 HBV4.out b28 hsz (.int .i64 ut) (.int .i64 un) (.int .i64 uk) (.slice ua uS.length uc) (.slice uka uK.length ukc) (.slice uma uM.length umc)) b44 hsz2 (.int .i64 dc) (.int .i64 dn) (.int .i64 da) (.slice ra dh.length rp))
         have HUE:=hid (((HNb28.out V4 HBV3V4.out).put ut un uk uS ua uc uK uka ukc uM uma umc).other4 hne2 (.int .i64 dc) (.int .i64 dn) (.int .i64 da) (.slice ra dh.length rp))
         have HSA:=hid (show wz.heap.size<=V3.heap.size from HBV3.out.size)
         have HFX:=hid ((HFC.out.later HBE.out).trans (HFE.out.lower (Nat.le_trans hszc HSA.out)))
         have hlb:HI<=b28:=Nat.le_trans hszc hsz
         go_wp2
         go_meet
         case rel=>exact⟨b28,⟨ut,un,uk,uS,ua,uc,uK,uka,ukc,uM,uma,umc⟩,rfl,hlb,Nat.le_trans hszc HBE.out.size,HUE,HFX,HVU,HBE⟩
      ·skip
       go_simp
       obtain⟨V2,hV2⟩: ∃V2,V2=V1.alloc (.cells #[.int .i64 0,.int .i64 0,.int .i64 0,.slice none 0 0,.slice none 0 0,.slice none 0 0] 26):=⟨_,rfl⟩
       have hb:Below V1.heap.size V1 V2:=by rw[hV2];exact newAlloc _ _
       have hn:BoxS V2 V1.heap.size zeroC10:=by rw[hV2];exact BoxS.new V1 zeroC10 _
       have hsb28:V2.heap.size=V1.heap.size+1:=by rw[hV2];simp
       rw[<-hV2]
       obtain⟨b28,hb28⟩: ∃b28,V1.heap.size=b28:=⟨_,rfl⟩
       rw[hb28] at hn hsb28 ⊢
       have HNb28:Hid (∀W,Below V2.heap.size V2 W->BoxS W b28 zeroC10):=hid fun W hw=>hn.later hw
       have HBV1V2:=hid hb
       have HBV2:Hid (Below wz.heap.size wz V2):=hid (step HBV1.out hb)
       have HSb28:=hid hb28
       have HS1b28:=hid hsb28
       clear hV2 hb hn hb28 hsb28
       refine hK.out _ _ (HKP.out _ HBV2.out) (fun hHeld=>?_)
       clear hK K
       try simp only[Act.put,getElem_toArray,getElem_cons_succ,getElem_cons_zero,setIfInBounds_toArray,set_cons_zero,set_cons_succ]
       refine wpAnyH_ready (rs:= [6]) (by kernel_rfl) (by simp) ?_
       refine AllReadyH.cons rfl (fun K hK=>?_) AllReadyH.nil
       ·skip
        go_simp
        go_at_call 35
        refine(KQ.out V2 HBV2.out).mono ?_
        rintro e V3 ⟨rfl,hb⟩
        have HBV2V3:=hid hb
        have HBV3:Hid (Below wz.heap.size wz V3):=hid (step HBV2.out hb)
        clear hb
        refine hK.out _ _ (HKP.out _ HBV3.out) (fun hHeld=>?_)
        clear hK K
        try simp only[Act.put,getElem_toArray,getElem_cons_succ,getElem_cons_zero,setIfInBounds_toArray,set_cons_zero,set_cons_succ]
        refine wpAnyH_ready (rs:= [7]) (by kernel_rfl) (by simp) ?_
        refine AllReadyH.cons rfl (fun K hK=>?_) AllReadyH.nil
        ·skip
         go_simp
         go_at_call 15
         refine(KA.out V3 HBV3.out).mono ?_
         rintro e V4 ⟨⟨ut,un,uk,uS,ua,uc,uK,uka,ukc,uM,uma,umc⟩,ra,rp,he,hv,hf,hr,hb⟩
         unfold stVal at he
         simp only[StC.sv,StC.kv,StC.mv] at he
         subst he
         have HVU:=hid hv
         have HFU:=hid hf
         have HRU:=hid hr
         have HBV3V4:=hid hb
         have HBV4:Hid (Below wz.heap.size wz V4):=hid (step HBV3.out hb)
         clear hv hf hr hb
         refine hK.out _ _ (HKP.out _ HBV4.out) (fun hHeld=>?_)
         clear hK K
         try simp only[Act.put,getElem_toArray,getElem_cons_succ,getElem_cons_zero,setIfInBounds_toArray,set_cons_zero,set_cons_succ]
         refine wpAnyH_take (i:=8) (v:=?_) rfl (by kernel_rfl) (by kernel_rfl) (by kernel_rfl) (fun _ _ _ h=>h) (Or.inl ⟨by rfl,?_⟩) (by assumption) ?_
         rotate_left
         ·intro w hSw;(try dsimp only at hSw);go_simp<;>with_reducible rfl
         try simp only[Act.put,getElem_toArray,getElem_cons_succ,getElem_cons_zero,setIfInBounds_toArray,set_cons_zero,set_cons_succ]
         refine wpAnyH_take (i:=9) (v:=?_) rfl (by kernel_rfl) (by kernel_rfl) (by kernel_rfl) (fun _ _ _ h=>h) (Or.inl ⟨by rfl,?_⟩) (by assumption) ?_
         rotate_left
         ·intro w hSw;(try dsimp only at hSw);go_simp<;>with_reducible rfl
         try simp only[Act.put,getElem_toArray,getElem_cons_succ,getElem_cons_zero,setIfInBounds_toArray,set_cons_zero,set_cons_succ]
         refine wpAnyH_take (i:=10) (v:=?_) rfl (by kernel_rfl) (by kernel_rfl) (by kernel_rfl) (fun _ _ _ h=>h) (Or.inl ⟨by rfl,?_⟩) (by assumption) ?_
         rotate_left
         ·intro w hSw;(try dsimp only at hSw);go_simp<;>with_reducible rfl
         try simp only[Act.put,getElem_toArray,getElem_cons_succ,getElem_cons_zero,setIfInBounds_toArray,set_cons_zero,set_cons_succ]
         refine wpAnyH_take (i:=11) (v:=?_) rfl (by kernel_rfl) (by kernel_rfl) (by kernel_rfl) (fun _ _ _ h=>h) (Or.inl ⟨by rfl,?_⟩) (by assumption) ?_
         rotate_left
         ·intro w hSw;(try dsimp only at hSw);go_simp<;>with_reducible rfl
         try simp only[Act.put,getElem_toArray,getElem_cons_succ,getElem_cons_zero,setIfInBounds_toArray,set_cons_zero,set_cons_succ]
         have hsz:wz.heap.size<=b28:=by have:=HSb28.out;have:=HBV1.out.size;omega
         have hsz2:wz.heap.size<=b44:=by have:=HSb44.out;have:=HBV0.out.size;omega
         have hne:b28≠b44:=by have:=HSb28.out;have:=HS1b44.out;have:=((Below.refl V1.heap.size V1):Below _ _ V1).size;omega
         have hne2:b44≠b28:=fun q=>hne q.symm
         have hX1:=HNb28.out V4 (step HBV2V3.out HBV3V4.out)
         have hR1:=HNb44.out V4 (step (step HBV1V2.out HBV2V3.out) HBV3V4.out)
         obtain⟨x0,x1,x2,x3,x4,x5,xf⟩:=hX1
         simp only[zeroC10,StC.sv,StC.kv,StC.mv,List.length_nil] at x0 x1 x2 x3 x4 x5
         obtain⟨⟨y0,y1,y2,y3⟩,yf⟩:=hR1 _ (Below.refl _ _)
         refine wpAnyH_ready (rs:= [14]) (by kernel_rfl) (by simp) ?_
         refine AllReadyH.cons rfl (fun K hK=>?_) AllReadyH.nil
         go_simp
         refine hK.out _ _ (HKP.out _ (below_set6 HBV4.out b28 hsz (.int .i64 ut) (.int .i64 un) (.int .i64 uk) (.slice ua uS.length uc) (.slice uka uK.length ukc) (.slice uma uM.length umc))) (fun hHeld=>?_)
         clear hK K
         try simp only[Act.put,getElem_toArray,getElem_cons_succ,getElem_cons_zero,setIfInBounds_toArray,set_cons_zero,set_cons_succ]
         refine wpAnyH_ready (rs:= [15]) (by kernel_rfl) (by simp) ?_
         refine AllReadyH.cons rfl (fun K hK=>?_) AllReadyH.nil
         go_simp
         refine hK.out _ _ (HKP.out _ (set4k (below_set6 HBV4.out b28 hsz (.int .i64 ut) (.int .i64 un) (.int .i64 uk) (.slice ua uS.length uc) (.slice uka uK.length ukc) (.slice uma uM.length umc)) b44 hsz2 (.int .i64 dc) (.int .i64 dn) (.int .i64 da) (.slice ra dh.length rp))) (fun hHeld=>?_)
         clear hK K
         try simp only[Act.put,getElem_toArray,getElem_cons_succ,getElem_cons_zero,setIfInBounds_toArray,set_cons_zero,set_cons_succ]
         refine wpAnyH_take (i:=16) (v:=?_) rfl (by kernel_rfl) (by kernel_rfl) (by kernel_rfl) (fun _ _ _ h=>h) (Or.inl ⟨by rfl,?_⟩) (by assumption) ?_
         rotate_left
         ·intro w hSw;(try dsimp only at hSw);go_simp<;>with_reducible rfl
         try simp only[Act.put,getElem_toArray,getElem_cons_succ,getElem_cons_zero,setIfInBounds_toArray,set_cons_zero,set_cons_succ]
         refine wpAnyH_done (by kernel_rfl) ?_ _
         have HFE:=hid (((HFU.out).set6 (show b28<V3.heap.size by have:=HS1b28.out;have:=(HBV2V3.out:Below _ _ V3).size;omega) (.int .i64 ut) (.int .i64 un) (.int .i64 uk) (.slice ua uS.length uc) (.slice uka uK.length ukc) (.slice uma uM.length umc)).set4 (show b44<V3.heap.size by have:=HS1b44.out;have:=((step HBV1V2.out HBV2V3.out):Below _ _ V3).size;omega) (.int .i64 dc) (.int .i64 dn) (.int .i64 da) (.slice ra dh.length rp))
         have HBE:=hid (set4k (below_set6 HBV4.out b28 hsz (.int .i64 ut) (.int .i64 un) (.int .i64 uk) (.slice ua uS.length uc) (.slice uka uK.length ukc) (.slice uma uM.length umc)) b44 hsz2 (.int .i64 dc) (.int .i64 dn) (.int .i64 da) (.slice ra dh.length rp))
         have HUE:=hid (((HNb28.out V4 (step HBV2V3.out HBV3V4.out)).put ut un uk uS ua uc uK uka ukc uM uma umc).other4 hne2 (.int .i64 dc) (.int .i64 dn) (.int .i64 da) (.slice ra dh.length rp))
         have HSA:=hid (show wz.heap.size<=V3.heap.size from HBV3.out.size)
         have HFX:=hid ((HFC.out.later HBE.out).trans (HFE.out.lower (Nat.le_trans hszc HSA.out)))
         have hlb:HI<=b28:=Nat.le_trans hszc hsz
         go_wp2
         go_meet
         case rel=>exact⟨b28,⟨ut,un,uk,uS,ua,uc,uK,uka,ukc,uM,uma,umc⟩,rfl,hlb,Nat.le_trans hszc HBE.out.size,HUE,HFX,HVU,HBE⟩
    case rest=>
     obtain⟨b5,⟨ut,un,uk,uS,ua,uc,uK,uka,ukc,uM,uma,umc⟩,rfl,hb5,hszu,HXU,HFU,HVU,HBU⟩:=hcut
     obtain⟨wu,rfl⟩: ∃wu,wu=wc:=⟨_,rfl⟩
     have HXS:=hid (HXC.out.later HBU.out)
     have HZS:=hid (HZC.out.later HBU.out)
     obtain⟨d0,d1,d2,d3,d4,d5,df⟩:=HXU.out
     simp only[StC.sv,StC.kv,StC.mv] at d0 d1 d2 d3 d4 d5
     obtain⟨c0,c1,c2,c3,c4,c5,cf⟩:=HXS.out
     simp only[StC.sv,StC.kv,StC.mv] at c0 c1 c2 c3 c4 c5
     have HXE:=hid (HXS.out.put ut un uk uS ua uc uK uka ukc uM uma umc)
     have HZE:=hid (HZS.out.other6 (show nb+1≠nb by omega) (.int .i64 ut) (.int .i64 un) (.int .i64 uk) (.slice ua uS.length uc) (.slice uka uK.length ukc) (.slice uma uM.length umc))
     have HFE:=hid (HFU.out.set6 hlt1 (.int .i64 ut) (.int .i64 un) (.int .i64 uk) (.slice ua uS.length uc) (.slice uka uK.length ukc) (.slice uma uM.length umc))
     have HBE:=hid (below_set6 (step HBC.out HBU.out) (nb+1) (by have:=HNB.out;omega) (.int .i64 ut) (.int .i64 un) (.int .i64 uk) (.slice ua uS.length uc) (.slice uka uK.length ukc) (.slice uma uM.length umc))
     have HVE:Hid (StC.v ⟨ut,un,uk,uS,ua,uc,uK,uka,ukc,uM,uma,umc⟩=madeA 60 (L.take (k+1))):=hid (by rw[HUS.out];exact HVU.out)
     clear HKP KQ KA HXU HFU HVU
     go_wp2
     go_roundw
     case rel=>exact⟨k+1,⟨ut,un,uk,uS,ua,uc,uK,uka,ukc,uM,uma,umc⟩,by omega,by omega,by go_num,by simpa using hszu,HXE,HZE,HFE,HVE,HBE⟩
     case measure=>simp [intOf];omega
  ·have hw:k=N\/k=60:=by omega
   have HVE:Hid (StC.v ⟨yt,yn,yk,yS,ya,yc,yK,yka,ykc,yM,yma,ymc⟩=madeA 60 (L.take 60)):=hid (by
    rw[HV.out]
    rcases hw with q | q
    ·rw[q,List.take_of_length_le (by rw[HNN.out];exact Nat.le_refl _),List.take_of_length_le (by rw[HNN.out];omega)]
    ·rw[q])
   have hor:k=N\/(k<N/\k=60):=by omega
   obtain⟨z0,z1,z2,z3,z4,z5,zf⟩:=HZ.out
   simp only[zeroC10,StC.sv,StC.kv,StC.mv,List.length_nil] at z0 z1 z2 z3 z4 z5
   have HE:=hid ((HF.out.set6 (show nb<HI by omega) (.int .i64 yt) (.int .i64 yn) (.int .i64 yk) (.slice ya yS.length yc) (.slice yka yK.length ykc) (.slice yma yM.length ymc)).lower hHI)
   have HBE:=hid (below_set6 HB.out nb (Nat.le_of_eq HNB.out) (.int .i64 yt) (.int .i64 yn) (.int .i64 yk) (.slice ya yS.length yc) (.slice yka yK.length ykc) (.slice yma yM.length ymc))
   clear hlt hw HAT HAO HFW HMS
   rcases hor with rfl | ⟨t0,rfl⟩
   case' inr=>
    have t1:decide (60<N)=true:=decide_eq_true t0
    have t2:((60:Nat):Int)<(N:Int):=by omega
   all_goals
    go_wp2
    refine bodyPost_ret (by simp [results,Tryz.results34,go_sem,z0,z1,z2,z3,z4,z5,zf]<;>rfl) rfl ?_
    exact⟨_,rfl,HVE.out,HE.out,HBE.out⟩
end Cm
end Go.Proofs.YtlnbmblbeaodcaaGreat
