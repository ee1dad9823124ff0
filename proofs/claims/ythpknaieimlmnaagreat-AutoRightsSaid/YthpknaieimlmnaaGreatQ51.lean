/- Texts laid together by program. -/
import Derived.Test.YthpknaieimlmnaaGreatQ50
import Derived.Deep.RegionHeld3
import Derived.Deep.RegionWith
/- AutoRights, as a contract (made by tools/gen_lawr.py). -/
set_option linter.unusedVariables false
set_option maxRecDepth 8000
set_option linter.unusedSimpArgs false
namespace Go.Proofs.YthpknaieimlmnaaGreat
open Lib (hid)
open List (getElem_toArray getElem_cons_succ getElem_cons_zero setIfInBounds_toArray set_cons_zero set_cons_succ)
open Go.RowKit Go.Shelf
namespace Cm

theorem atA_time {s:StV} (h:Rst s) (a:Act10) (d:Int):s.time<=(atA s a d).time :=by
 show s.time<=timeA s (s.time+((a.time % 16:Nat):Int))
 have:=h.time
 unfold timeA
 omega
theorem mayP_code {r:ReplyV} (h:mayP r=true):0<=r.code/\r.code<=12:=by
 unfold mayP at h
 simp only[Bool.and_eq_true,decide_eq_true_eq] at h
 omega
theorem apply_code {s:StV} (h:Rst s) (r:ReqV) (hn:s.num<2305843009213693900) (ht:s.token<2305843009213693900):0<=(applyA s r).2.1.code /\(applyA s r).2.1.code <=12:=by
 unfold applyA
 split
 ·exact⟨by show(0:Int)<=1;decide,by show(1:Int)<=12;decide⟩
 ·rename_i hm
  split
  ·exact⟨by show(0:Int)<=0;decide,by show(0:Int)<=12;decide⟩
  ·split
   ·rename_i hf
    rcases idxM_cases s.memos r.client with ⟨_,q⟩ | ⟨k,hk,_,_,q⟩
    ·unfold freshM at hf
     rw[q] at hf
     simp at hf
    ·rw[q]
     have:=h.memos.may _ (List.getElem_mem hk)
     unfold mayA at this
     simp only[Bool.and_eq_true] at this
     exact mayP_code (by first | exact this.2 | exact this.1.2 | exact this.1.1.2)
   ·exact mayP_code (does_may h (mayR_bounds r (by simpa using hm)).2.2 hn ht)
theorem boxP_put {W:World} {b:Nat} (h:EmptyR W b) (r:ReplyV) (v:Value):((((W.setCell ⟨b,0,none⟩ (.int .i64 r.code)).setCell ⟨b,1,none⟩ (.int .i64 r.session)).setCell ⟨b,2,none⟩ (.int .i64 r.ahead)).setCell ⟨b,3,none⟩ v).cell? ⟨b,0,none⟩=some (.int .i64 r.code):=by
 obtain⟨⟨y0,y1,y2,y3⟩,yf⟩:=h _ (Below.refl _ _)
 simp [go_sem,y0,y1,y2,y3]
set_option maxRecDepth 100000 in
set_option maxHeartbeats 16000000 in
theorem Rights_any (v:Value) (L:List Act10) (d:Nat) (hd:d<256) (w:World) (h:RdA w v L):Calls Tryz.prog 6 #[v,.int .u8 (d:Int)] w (SaysB true w):=by
 obtain⟨W1,hW1⟩: ∃W1,W1=w.alloc (.cells #[.int .i64 0,.int .i64 0,.int .i64 0,.slice none 0 0,.slice none 0 0,.slice none 0 0] 28):=⟨_,rfl⟩
 have hb1:Below w.heap.size w W1:=by rw[hW1];exact newAlloc _ _
 have hZ:BoxS W1 w.heap.size zeroC10:=by rw[hW1];exact BoxS.new w zeroC10 _
 have HZ0:=hid hZ
 have HB0:=hid hb1
 have hm:=h.row.len
 have C0:=hid (fun W=>awake10_ok W)
 obtain⟨a,cap,rfl⟩:=h.row.form
 have HAT:=hid (fun i hi=>rda_at h.row i hi)
 have HAO:=hid (fun i (hi:i<L.length)=>h.ok _ (List.getElem_mem hi))
 obtain⟨N,hN⟩: ∃N,L.length=N:=⟨_,rfl⟩
 have HNN:=hid hN
 obtain⟨HI,hHI'⟩: ∃HI,W1.heap.size=HI:=⟨_,rfl⟩
 obtain⟨nb,hnb⟩: ∃nb,w.heap.size=nb:=⟨_,rfl⟩
 have HNB:=hid hnb
 have hlt1:nb<HI:=by rw[<-hHI',<-hnb];exact hZ.lt
 have hsz0:HI<=W1.heap.size:=Nat.le_of_eq hHI'.symm
 have hwd:IntKind.i64.wrap (d:Int)=(d:Int):=by rw[IntKind.wrap_i64];omega
 rw[hnb] at HZ0
 rw[hN] at hm ⊢
 clear hN hnb h hb1 hZ hHI'
 go_enter Tryz.func6,Tryz.ntmps6
 go_upto_region 2 with fail
 rw[<-hW1]
 rw[HNB.out]
 clear hW1
 go_wp2
 go_loopw [6] (fun i wr=> ∃(k:Nat) (y:StC),k<=N/\k<=60/\i= .int .i64 k/\HI<=wr.heap.size/\Hid (BoxS wr nb y)/\Hid (FromS HI wr zeroC10 y)/\Hid (Few10 k y.v)/\Hid (Below w.heap.size w wr)) (fun i _=>60 - (intOf i).toNat)
 case atStart=>exact⟨0,zeroC10,by omega,by omega,rfl,hsz0,HZ0,hid (FromS.refl _ _ _),hid Few10.zero,HB0⟩
 case round=>
  obtain⟨k,⟨yt,yn,yk,yS,ya,yc,yK,yka,ykc,yM,yma,ymc⟩,hk,hk6,rfl,hsz,HX,HF,HV,HB⟩:=hrel
  obtain⟨c0,c1,c2,c3,c4,c5,cf⟩:=HX.out
  simp only[StC.sv,StC.kv,StC.mv] at c0 c1 c2 c3 c4 c5
  by_cases hlt:k<N/\k<60
  ·have hkl:k<L.length:=by rw[HNN.out];exact hlt.1
   have f1:(0:Int)<=(k:Int):=by omega
   have f2:(k:Int)<(N:Int):=by omega
   have t1:decide ((k:Int)<(N:Int))=true:=decide_eq_true f2
   have t2:decide ((k:Int)<60)=true:=decide_eq_true (by omega)
   obtain⟨b,o,rfl,hc⟩:=HAT.out k hkl
   have hok:=HAO.out k hkl
   have hfew:=HV.out
   have HAC:=hid hc
   clear hc HAT HAO
   generalize L[k]=x at HAC hok
   obtain⟨at',ac,aq,ak,an,am⟩:=x
   dsimp only at HAC
   have hat:=hfew.at (by omega) ⟨at',ac,aq,ak,an,am⟩ (d:Int)
   have hstep:=hfew.next (by omega) ⟨at',ac,aq,ak,an,am⟩ (d:Int)
   have HAR:Hid (Rst (atA (StC.v ⟨yt,yn,yk,yS,ya,yc,yK,yka,ykc,yM,yma,ymc⟩) ⟨at',ac,aq,ak,an,am⟩ (d:Int))):=hid hat.1
   have htm:0<=yt/\yt<=2305843009213693952:=hfew.right.time
   have hq0:(at':Int).tmod 16=((at' % 16:Nat):Int):=by rw[Int.tmod_eq_emod_of_nonneg (by omega)];omega
   have hw1:IntKind.i64.wrap (at':Int)=(at':Int):=by rw[IntKind.wrap_i64];have:=hok.time;dsimp only at this;omega
   have hT0:IntKind.i64.wrap (yt+((at' % 16:Nat):Int))=yt+((at' % 16:Nat):Int):=by rw[IntKind.wrap_i64];omega
   obtain⟨T,hT⟩: ∃T,T=yt+((at' % 16:Nat):Int):=⟨_,rfl⟩
   have KV:=hid (fun W (hb:Below wr.heap.size wr W)=>AutoAdv_any ⟨yt,yn,yk,yS,ya,yc,yK,yka,ykc,yM,yma,ymc⟩ T (d:Int) W ((HF.out.later hb).rd (RdSt.zero W)) hfew.right.small hfew.right)
   have HATV:Hid (advA (StC.v ⟨yt,yn,yk,yS,ya,yc,yK,yka,ykc,yM,yma,ymc⟩) T (d:Int)=atA (StC.v ⟨yt,yn,yk,yS,ya,yc,yK,yka,ykc,yM,yma,ymc⟩) ⟨at',ac,aq,ak,an,am⟩ (d:Int)):=hid (by rw[hT];rfl)
   rw[HATV.out] at KV
   have HOK:=hid hok
   have hT1:=hT0.trans hT.symm
   -- what is told of the steps
   obtain⟨rq,hrq⟩: ∃rq,requestA (atA (StC.v ⟨yt,yn,yk,yS,ya,yc,yK,yka,ykc,yM,yma,ymc⟩) ⟨at',ac,aq,ak,an,am⟩ (d:Int)) ⟨at',ac,aq,ak,an,am⟩=rq:=⟨_,rfl⟩
   have hcode:=apply_code hat.1 rq (by have:=hfew.num;have:=hat.2.2.2;omega) (by have:=hfew.tok;have:=hat.2.2.1;omega)
   have HBD:Hid ((atA (StC.v ⟨yt,yn,yk,yS,ya,yc,yK,yka,ykc,yM,yma,ymc⟩) ⟨at',ac,aq,ak,an,am⟩ (d:Int)).num <2305843009213693900/\(atA (StC.v ⟨yt,yn,yk,yS,ya,yc,yK,yka,ykc,yM,yma,ymc⟩) ⟨at',ac,aq,ak,an,am⟩ (d:Int)).token <2305843009213693900):=hid ⟨by have:=hfew.num;have:=hat.2.2.2;omega,by have:=hfew.tok;have:=hat.2.2.1;omega⟩
   unfold stepA at hstep
   rw[hrq] at hstep
   have HFW:=hid hstep
   have HAT4:=hid hat
   have htime:yt<=(atA (StC.v ⟨yt,yn,yk,yS,ya,yc,yK,yka,ykc,yM,yma,ymc⟩) ⟨at',ac,aq,ak,an,am⟩ (d:Int)).time :=atA_time hfew.right ⟨at',ac,aq,ak,an,am⟩ (d:Int)
   have HTM:=hid htime
   have HCD:=hid hcode
   clear hT hok hfew htm hT0 hat hstep hcode htime
   generalize ((at' % 16:Nat):Int)=q16 at hq0 hT1
   unfold stVal at KV
   simp only[StC.sv,StC.kv,StC.mv] at KV
   have HKP:Hid (∀W,Below wr.heap.size wr W->((W.cell? ⟨nb,0,none⟩=some (.int .i64 yt)/\W.cell? ⟨nb,1,none⟩=some (.int .i64 yn)/\W.cell? ⟨nb,2,none⟩=some (.int .i64 yk))/\W.cell? ⟨nb,3,none⟩=some (.slice ya yS.length yc)/\W.cell? ⟨nb,4,none⟩=some (.slice yka yK.length ykc)/\W.cell? ⟨nb,5,none⟩=some (.slice yma yM.length ymc))/\W.cell? ⟨b,o+k*6,none⟩=some (.int .u8 (at':Int))/\W.cell? ⟨b,o+k*6+1,none⟩=some (.int .u8 (ac:Int))/\W.cell? ⟨b,o+k*6+2,none⟩=some (.int .u8 (aq:Int))/\W.cell? ⟨b,o+k*6+3,none⟩=some (.int .u8 (ak:Int))/\W.cell? ⟨b,o+k*6+4,none⟩=some (.int .u8 (an:Int))/\W.cell? ⟨b,o+k*6+5,none⟩=some (.int .u8 (am:Int))):=hid fun W hb=>⟨(HX.out.later hb).cells,HAC.out W (step HB.out hb)⟩
   go_upto_region 5 with fail
   obtain⟨p0,p1,p2,p3,p4,p5⟩:=HAC.out wr HB.out
   go_cut [7] from 21 to 34 (fun s7 wc=> ∃(b7:Nat) (z:StC),s7= .pointer (some ⟨b7,0,none⟩)/\HI<=b7/\HI<=wc.heap.size/\Hid (BoxS wc b7 z)/\Hid (BoxS wc nb ⟨yt,yn,yk,yS,ya,yc,yK,yka,ykc,yM,yma,ymc⟩)/\Hid (FromS HI wc zeroC10 z)/\Hid (z.v=atA (StC.v ⟨yt,yn,yk,yS,ya,yc,yK,yka,ykc,yM,yma,ymc⟩) ⟨at',ac,aq,ak,an,am⟩ (d:Int))/\Hid (Below wr.heap.size wr wc))
   case first=>
    refine wp_region_held_drew (S:=(fun W=>((W.cell? ⟨nb,0,none⟩=some (.int .i64 yt)/\W.cell? ⟨nb,1,none⟩=some (.int .i64 yn)/\W.cell? ⟨nb,2,none⟩=some (.int .i64 yk))/\W.cell? ⟨nb,3,none⟩=some (.slice ya yS.length yc)/\W.cell? ⟨nb,4,none⟩=some (.slice yka yK.length ykc)/\W.cell? ⟨nb,5,none⟩=some (.slice yma yM.length ymc))/\W.cell? ⟨b,o+k*6,none⟩=some (.int .u8 (at':Int))/\W.cell? ⟨b,o+k*6+1,none⟩=some (.int .u8 (ac:Int))/\W.cell? ⟨b,o+k*6+2,none⟩=some (.int .u8 (aq:Int))/\W.cell? ⟨b,o+k*6+3,none⟩=some (.int .u8 (ak:Int))/\W.cell? ⟨b,o+k*6+4,none⟩=some (.int .u8 (an:Int))/\W.cell? ⟨b,o+k*6+5,none⟩=some (.int .u8 (am:Int)))) (by kernel_rfl) (HKP.out _ (Below.refl _ _).drew) (fun hHeld=>?_)
    obtain⟨V0,hV0⟩: ∃V0,V0=wr.drew:=⟨_,rfl⟩
    have HBV0:Hid (Below wr.heap.size wr V0):=hid (by rw[hV0];exact(Below.refl _ _).drew)
    rw[<-hV0] at hHeld ⊢
    clear hV0
    refine wpAnyH_take (i:=0) (v:=?_) rfl (by kernel_rfl) (by kernel_rfl) (by kernel_rfl) (fun _ _ _ h=>h) (Or.inl ⟨by rfl,?_⟩) (by assumption) ?_
    rotate_left
    ·intro w hSw;(try dsimp only at hSw);go_simp<;>with_reducible rfl
    try simp only[Act.put,getElem_toArray,getElem_cons_succ,getElem_cons_zero,setIfInBounds_toArray,set_cons_zero,set_cons_succ]
    refine wpAnyH_take (i:=1) (v:=?_) rfl (by kernel_rfl) (by kernel_rfl) (by kernel_rfl) (fun _ _ _ h=>h) (Or.inl ⟨by rfl,?_⟩) (by assumption) ?_
    rotate_left
    ·intro w hSw;(try dsimp only at hSw);go_simp<;>with_reducible rfl
    try simp only[Act.put,getElem_toArray,getElem_cons_succ,getElem_cons_zero,setIfInBounds_toArray,set_cons_zero,set_cons_succ]
    refine wpAnyH_take (i:=2) (v:=?_) rfl (by kernel_rfl) (by kernel_rfl) (by kernel_rfl) (fun _ _ _ h=>h) (Or.inl ⟨by rfl,?_⟩) (by assumption) ?_
    rotate_left
    ·intro w hSw;(try dsimp only at hSw);go_simp<;>with_reducible rfl
    try simp only[Act.put,getElem_toArray,getElem_cons_succ,getElem_cons_zero,setIfInBounds_toArray,set_cons_zero,set_cons_succ]
    refine wpAnyH_take (i:=3) (v:=?_) rfl (by kernel_rfl) (by kernel_rfl) (by kernel_rfl) (fun _ _ _ h=>h) (Or.inl ⟨by rfl,?_⟩) (by assumption) ?_
    rotate_left
    ·intro w hSw;(try dsimp only at hSw);go_simp<;>with_reducible rfl
    try simp only[Act.put,getElem_toArray,getElem_cons_succ,getElem_cons_zero,setIfInBounds_toArray,set_cons_zero,set_cons_succ]
    refine wpAnyH_take (i:=4) (v:=?_) rfl (by kernel_rfl) (by kernel_rfl) (by kernel_rfl) (fun _ _ _ h=>h) (Or.inl ⟨by rfl,?_⟩) (by assumption) ?_
    rotate_left
    ·intro w hSw;(try dsimp only at hSw);go_simp<;>with_reducible rfl
    try simp only[Act.put,getElem_toArray,getElem_cons_succ,getElem_cons_zero,setIfInBounds_toArray,set_cons_zero,set_cons_succ]
    refine wpAnyH_take (i:=5) (v:=?_) rfl (by kernel_rfl) (by kernel_rfl) (by kernel_rfl) (fun _ _ _ h=>h) (Or.inl ⟨by rfl,?_⟩) (by assumption) ?_
    rotate_left
    ·intro w hSw;(try dsimp only at hSw);go_simp<;>with_reducible rfl
    try simp only[Act.put,getElem_toArray,getElem_cons_succ,getElem_cons_zero,setIfInBounds_toArray,set_cons_zero,set_cons_succ]
    refine wpAnyH_take (i:=6) (v:=?_) rfl (by kernel_rfl) (by kernel_rfl) (by kernel_rfl) (fun _ _ _ h=>h) (Or.inl ⟨by rfl,?_⟩) (by assumption) ?_
    rotate_left
    ·intro w hSw;(try dsimp only at hSw);go_simp<;>with_reducible rfl
    try simp only[Act.put,getElem_toArray,getElem_cons_succ,getElem_cons_zero,setIfInBounds_toArray,set_cons_zero,set_cons_succ]
    refine wpAnyH_take (i:=7) (v:=?_) rfl (by kernel_rfl) (by kernel_rfl) (by kernel_rfl) (fun _ _ _ h=>h) (Or.inl ⟨by rfl,?_⟩) (by assumption) ?_
    rotate_left
    ·intro w hSw;(try dsimp only at hSw);go_simp<;>with_reducible rfl
    try simp only[Act.put,getElem_toArray,getElem_cons_succ,getElem_cons_zero,setIfInBounds_toArray,set_cons_zero,set_cons_succ]
    refine wpAnyH_take (i:=8) (v:=?_) rfl (by kernel_rfl) (by kernel_rfl) (by kernel_rfl) (fun _ _ _ h=>h) (Or.inl ⟨by rfl,?_⟩) (by assumption) ?_
    rotate_left
    ·intro w hSw;(try dsimp only at hSw);go_simp<;>with_reducible rfl
    try simp only[Act.put,getElem_toArray,getElem_cons_succ,getElem_cons_zero,setIfInBounds_toArray,set_cons_zero,set_cons_succ]
    refine wpAnyH_take (i:=9) (v:=?_) rfl (by kernel_rfl) (by kernel_rfl) (by kernel_rfl) (fun _ _ _ h=>h) (Or.inl ⟨by rfl,?_⟩) (by assumption) ?_
    rotate_left
    ·intro w hSw;(try dsimp only at hSw);go_simp<;>with_reducible rfl
    try simp only[Act.put,getElem_toArray,getElem_cons_succ,getElem_cons_zero,setIfInBounds_toArray,set_cons_zero,set_cons_succ]
    refine wpAnyH_take (i:=10) (v:=?_) rfl (by kernel_rfl) (by kernel_rfl) (by kernel_rfl) (fun _ _ _ h=>h) (Or.inl ⟨by rfl,?_⟩) (by assumption) ?_
    rotate_left
    ·intro w hSw;(try dsimp only at hSw);go_simp<;>with_reducible rfl
    try simp only[Act.put,getElem_toArray,getElem_cons_succ,getElem_cons_zero,setIfInBounds_toArray,set_cons_zero,set_cons_succ]
    refine wpAnyH_take (i:=11) (v:=?_) rfl (by kernel_rfl) (by kernel_rfl) (by kernel_rfl) (fun _ _ _ h=>h) (Or.inl ⟨by rfl,?_⟩) (by assumption) ?_
    rotate_left
    ·intro w hSw;(try dsimp only at hSw);go_simp<;>with_reducible rfl
    try simp only[Act.put,getElem_toArray,getElem_cons_succ,getElem_cons_zero,setIfInBounds_toArray,set_cons_zero,set_cons_succ]
    refine wpAnyH_take (i:=12) (v:=?_) rfl (by kernel_rfl) (by kernel_rfl) (by kernel_rfl) (fun _ _ _ h=>h) (Or.inl ⟨by rfl,?_⟩) (by assumption) ?_
    rotate_left
    ·intro w hSw;(try dsimp only at hSw);go_simp<;>with_reducible rfl
    try simp only[Act.put,getElem_toArray,getElem_cons_succ,getElem_cons_zero,setIfInBounds_toArray,set_cons_zero,set_cons_succ]
    refine wpAnyH_ready (rs:= [13,14]) (by kernel_rfl) (by simp) ?_
    refine AllReadyH.cons rfl (fun K hK=>?_) (AllReadyH.cons rfl (fun K hK=>?_) AllReadyH.nil)
    ·skip
     go_simp
     go_at_call 16
     refine(KV.out V0 HBV0.out).mono ?_
     rintro e V1 ⟨⟨zt,zn,zk,zS,za,zc,zK,zka,zkc,zM,zma,zmc⟩,he,hv,hf,hb⟩
     unfold stVal at he
     simp only[StC.sv,StC.kv,StC.mv] at he
     subst he
     have HV5:=hid hv
     have HF5:=hid hf
     have HBA:=hid hb
     have HBV1:Hid (Below wr.heap.size wr V1):=hid (step HBV0.out hb)
     clear hv hf hb
     refine hK.out _ _ (HKP.out _ HBV1.out) (fun hHeld=>?_)
     clear hK K
     try simp only[Act.put,getElem_toArray,getElem_cons_succ,getElem_cons_zero,setIfInBounds_toArray,set_cons_zero,set_cons_succ]
     refine wpAnyH_ready (rs:= [14]) (by kernel_rfl) (by simp) ?_
     refine AllReadyH.cons rfl (fun K hK=>?_) AllReadyH.nil
     go_simp
     obtain⟨V2,hV2⟩: ∃V2,V2=V1.alloc (.cells #[.int .i64 0,.int .i64 0,.int .i64 0,.slice none 0 0,.slice none 0 0,.slice none 0 0] 28):=⟨_,rfl⟩
     have hb:Below V1.heap.size V1 V2:=by rw[hV2];exact newAlloc _ _
     have hn:BoxS V2 V1.heap.size zeroC10:=by rw[hV2];exact BoxS.new V1 zeroC10 _
     have hs7:V2.heap.size=V1.heap.size+1:=by rw[hV2];simp
     rw[<-hV2]
     obtain⟨b7,hb7⟩: ∃b7,V1.heap.size=b7:=⟨_,rfl⟩
     rw[hb7] at hn hs7 ⊢
     have HN7:=hid hn
     have HS7:=hid hb7
     have HS17:=hid hs7
     have HBN:=hid hb
     have HBV2:Hid (Below wr.heap.size wr V2):=hid (step HBV1.out hb)
     clear hV2 hb hn hb7 hs7
     refine hK.out _ _ (HKP.out _ HBV2.out) (fun hHeld=>?_)
     clear hK K
     try simp only[Act.put,getElem_toArray,getElem_cons_succ,getElem_cons_zero,setIfInBounds_toArray,set_cons_zero,set_cons_succ]
     have hsz7:wr.heap.size<=b7:=by have:=HS7.out;have:=HBV1.out.size;omega
     have hX7:=HN7.out
     have HX7:=hid hX7
     obtain⟨x0,x1,x2,x3,x4,x5,xf⟩:=hX7
     simp only[zeroC10,StC.sv,StC.kv,StC.mv,List.length_nil] at x0 x1 x2 x3 x4 x5
     refine wpAnyH_ready (rs:= [15]) (by kernel_rfl) (by simp) ?_
     refine AllReadyH.cons rfl (fun K hK=>?_) AllReadyH.nil
     go_simp
     refine hK.out _ _ (HKP.out _ (below_set6 HBV2.out b7 hsz7 (.int .i64 zt) (.int .i64 zn) (.int .i64 zk) (.slice za zS.length zc) (.slice zka zK.length zkc) (.slice zma zM.length zmc))) (fun hHeld=>?_)
     clear hK K
     try simp only[Act.put,getElem_toArray,getElem_cons_succ,getElem_cons_zero,setIfInBounds_toArray,set_cons_zero,set_cons_succ]
     refine wpAnyH_done (by kernel_rfl) ?_ _
     have HBE:=hid (below_set6 HBV2.out b7 hsz7 (.int .i64 zt) (.int .i64 zn) (.int .i64 zk) (.slice za zS.length zc) (.slice zka zK.length zkc) (.slice zma zM.length zmc))
     have HXE:=hid (HX7.out.put zt zn zk zS za zc zK zka zkc zM zma zmc)
     have HFE:=hid (HF5.out.later (below_set6 HBN.out b7 (Nat.le_of_eq HS7.out) (.int .i64 zt) (.int .i64 zn) (.int .i64 zk) (.slice za zS.length zc) (.slice zka zK.length zkc) (.slice zma zM.length zmc)))
     have HFX:=hid ((HF.out.later HBE.out).trans (HFE.out.lower (Nat.le_trans hsz HBV0.out.size)))
     have HYE:=hid (HX.out.later HBE.out)
     have hlb:HI<=b7:=Nat.le_trans hsz hsz7
     clear x0 x1 x2 x3 x4 x5 xf
     go_wp2
     go_meet
     case rel=>exact⟨b7,⟨zt,zn,zk,zS,za,zc,zK,zka,zkc,zM,zma,zmc⟩,rfl,hlb,Nat.le_trans hsz HBE.out.size,HXE,HYE,HFX,HV5,HBE⟩
    ·skip
     go_simp
     obtain⟨V1,hV1⟩: ∃V1,V1=V0.alloc (.cells #[.int .i64 0,.int .i64 0,.int .i64 0,.slice none 0 0,.slice none 0 0,.slice none 0 0] 28):=⟨_,rfl⟩
     have hb:Below V0.heap.size V0 V1:=by rw[hV1];exact newAlloc _ _
     have hn:BoxS V1 V0.heap.size zeroC10:=by rw[hV1];exact BoxS.new V0 zeroC10 _
     have hs7:V1.heap.size=V0.heap.size+1:=by rw[hV1];simp
     rw[<-hV1]
     obtain⟨b7,hb7⟩: ∃b7,V0.heap.size=b7:=⟨_,rfl⟩
     rw[hb7] at hn hs7 ⊢
     have HN7:=hid hn
     have HS7:=hid hb7
     have HS17:=hid hs7
     have HBN:=hid hb
     have HBV1:Hid (Below wr.heap.size wr V1):=hid (step HBV0.out hb)
     clear hV1 hb hn hb7 hs7
     refine hK.out _ _ (HKP.out _ HBV1.out) (fun hHeld=>?_)
     clear hK K
     try simp only[Act.put,getElem_toArray,getElem_cons_succ,getElem_cons_zero,setIfInBounds_toArray,set_cons_zero,set_cons_succ]
     refine wpAnyH_ready (rs:= [13]) (by kernel_rfl) (by simp) ?_
     refine AllReadyH.cons rfl (fun K hK=>?_) AllReadyH.nil
     go_simp
     go_at_call 16
     refine(KV.out V1 HBV1.out).mono ?_
     rintro e V2 ⟨⟨zt,zn,zk,zS,za,zc,zK,zka,zkc,zM,zma,zmc⟩,he,hv,hf,hb⟩
     unfold stVal at he
     simp only[StC.sv,StC.kv,StC.mv] at he
     subst he
     have HV5:=hid hv
     have HF5:=hid hf
     have HBA:=hid hb
     have HBV2:Hid (Below wr.heap.size wr V2):=hid (step HBV1.out hb)
     clear hv hf hb
     refine hK.out _ _ (HKP.out _ HBV2.out) (fun hHeld=>?_)
     clear hK K
     try simp only[Act.put,getElem_toArray,getElem_cons_succ,getElem_cons_zero,setIfInBounds_toArray,set_cons_zero,set_cons_succ]
     have hsz7:wr.heap.size<=b7:=by have:=HS7.out;have:=HBV0.out.size;omega
     have hX7:=HN7.out.later HBA.out
     have HX7:=hid hX7
     obtain⟨x0,x1,x2,x3,x4,x5,xf⟩:=hX7
     simp only[zeroC10,StC.sv,StC.kv,StC.mv,List.length_nil] at x0 x1 x2 x3 x4 x5
     refine wpAnyH_ready (rs:= [15]) (by kernel_rfl) (by simp) ?_
     refine AllReadyH.cons rfl (fun K hK=>?_) AllReadyH.nil
     go_simp
     refine hK.out _ _ (HKP.out _ (below_set6 HBV2.out b7 hsz7 (.int .i64 zt) (.int .i64 zn) (.int .i64 zk) (.slice za zS.length zc) (.slice zka zK.length zkc) (.slice zma zM.length zmc))) (fun hHeld=>?_)
     clear hK K
     try simp only[Act.put,getElem_toArray,getElem_cons_succ,getElem_cons_zero,setIfInBounds_toArray,set_cons_zero,set_cons_succ]
     refine wpAnyH_done (by kernel_rfl) ?_ _
     have HBE:=hid (below_set6 HBV2.out b7 hsz7 (.int .i64 zt) (.int .i64 zn) (.int .i64 zk) (.slice za zS.length zc) (.slice zka zK.length zkc) (.slice zma zM.length zmc))
     have HXE:=hid (HX7.out.put zt zn zk zS za zc zK zka zkc zM zma zmc)
     have HFE:=hid (HF5.out.set6 (show b7<V1.heap.size by rw[HS17.out];exact Nat.lt_succ_self _) (.int .i64 zt) (.int .i64 zn) (.int .i64 zk) (.slice za zS.length zc) (.slice zka zK.length zkc) (.slice zma zM.length zmc))
     have HFX:=hid ((HF.out.later HBE.out).trans (HFE.out.lower (Nat.le_trans hsz HBV1.out.size)))
     have HYE:=hid (HX.out.later HBE.out)
     have hlb:HI<=b7:=Nat.le_trans hsz hsz7
     clear x0 x1 x2 x3 x4 x5 xf
     go_wp2
     go_meet
     case rel=>exact⟨b7,⟨zt,zn,zk,zS,za,zc,zK,zka,zkc,zM,zma,zmc⟩,rfl,hlb,Nat.le_trans hsz HBE.out.size,HXE,HYE,HFX,HV5,HBE⟩
   case rest=>
    obtain⟨b7,⟨zt,zn,zk,zS,za,zc,zK,zka,zkc,zM,zma,zmc⟩,rfl,hb7,hszc,HXC,HYC,HFC,HVC,HBW⟩:=hcut
    clear c0 c1 c2 c3 c4 c5 cf p0 p1 p2 p3 p4 p5 HX HKP KV HF
    obtain⟨wz,rfl⟩: ∃wz,wz=wc:=⟨_,rfl⟩
    have HBC:=hid (step HB.out HBW.out)
    obtain⟨⟨US,⟨dc,dn,da,dh⟩,dk⟩,hRR⟩: ∃R,applyA (atA (StC.v ⟨yt,yn,yk,yS,ya,yc,yK,yka,ykc,yM,yma,ymc⟩) ⟨at',ac,aq,ak,an,am⟩ (d:Int)) rq=R:=⟨_,rfl⟩
    have hfw:=HFW.out
    have hcd:=HCD.out
    rw[hRR] at hfw hcd
    dsimp only at hcd hfw
    have HFU:=hid hfw
    clear HFW HCD hfw
    have KQ:=hid (fun W (hb:Below wz.heap.size wz W)=>Request_any ⟨zt,zn,zk,zS,za,zc,zK,zka,zkc,zM,zma,zmc⟩ ⟨at',ac,aq,ak,an,am⟩ W ((HFC.out.later hb).rd (RdSt.zero W)) (by rw[HVC.out];exact HAR.out) HOK.out)
    have KA:=hid (fun W (hb:Below wz.heap.size wz W)=>AutoApply_any ⟨zt,zn,zk,zS,za,zc,zK,zka,zkc,zM,zma,zmc⟩ rq W ((HFC.out.later hb).rd (RdSt.zero W)) (by rw[HVC.out];exact HAR.out) (by have:=HBD.out.1;rw[<-HVC.out] at this;exact this) (by have:=HBD.out.2;rw[<-HVC.out] at this;exact this))
    rw[HVC.out,hrq] at KQ
    rw[HVC.out,hRR] at KA
    have HRQ:=hid hrq
    obtain⟨rc,rs,⟨rk,rn,rm⟩⟩:=rq
    unfold stVal actVal reqVal at KQ
    unfold stVal reqVal GetsAp at KA
    simp only[StC.sv,StC.kv,StC.mv] at KQ KA
    have HKP:Hid (∀W,Below wz.heap.size wz W->((W.cell? ⟨b7,0,none⟩=some (.int .i64 zt)/\W.cell? ⟨b7,1,none⟩=some (.int .i64 zn)/\W.cell? ⟨b7,2,none⟩=some (.int .i64 zk))/\W.cell? ⟨b7,3,none⟩=some (.slice za zS.length zc)/\W.cell? ⟨b7,4,none⟩=some (.slice zka zK.length zkc)/\W.cell? ⟨b7,5,none⟩=some (.slice zma zM.length zmc))/\W.cell? ⟨b,o+k*6,none⟩=some (.int .u8 (at':Int))/\W.cell? ⟨b,o+k*6+1,none⟩=some (.int .u8 (ac:Int))/\W.cell? ⟨b,o+k*6+2,none⟩=some (.int .u8 (aq:Int))/\W.cell? ⟨b,o+k*6+3,none⟩=some (.int .u8 (ak:Int))/\W.cell? ⟨b,o+k*6+4,none⟩=some (.int .u8 (an:Int))/\W.cell? ⟨b,o+k*6+5,none⟩=some (.int .u8 (am:Int))):=hid fun W hb=>⟨(HXC.out.later hb).cells,HAC.out W (step HBC.out hb)⟩
    clear hrq hRR
    go_upto_region 6 with fail
    go_cut [8,9] from 35 to 46 (fun s8 s9 wc=> ∃(b8 b9:Nat) (u:StC),s8= .pointer (some ⟨b8,0,none⟩)/\s9= .pointer (some ⟨b9,0,none⟩)/\HI<=wc.heap.size/\Hid (BoxS wc b8 u)/\Hid (FromS HI wc zeroC10 u)/\Hid (u.v=US)/\Hid (wc.cell? ⟨b9,0,none⟩=some (.int .i64 dc))/\Hid (Below wz.heap.size wz wc))
    case first=>
     refine wp_region_held_drew (S:=(fun W=>((W.cell? ⟨b7,0,none⟩=some (.int .i64 zt)/\W.cell? ⟨b7,1,none⟩=some (.int .i64 zn)/\W.cell? ⟨b7,2,none⟩=some (.int .i64 zk))/\W.cell? ⟨b7,3,none⟩=some (.slice za zS.length zc)/\W.cell? ⟨b7,4,none⟩=some (.slice zka zK.length zkc)/\W.cell? ⟨b7,5,none⟩=some (.slice zma zM.length zmc))/\W.cell? ⟨b,o+k*6,none⟩=some (.int .u8 (at':Int))/\W.cell? ⟨b,o+k*6+1,none⟩=some (.int .u8 (ac:Int))/\W.cell? ⟨b,o+k*6+2,none⟩=some (.int .u8 (aq:Int))/\W.cell? ⟨b,o+k*6+3,none⟩=some (.int .u8 (ak:Int))/\W.cell? ⟨b,o+k*6+4,none⟩=some (.int .u8 (an:Int))/\W.cell? ⟨b,o+k*6+5,none⟩=some (.int .u8 (am:Int)))) (by kernel_rfl) (HKP.out _ (Below.refl _ _).drew) (fun hHeld=>?_)
     obtain⟨V0,hV0⟩: ∃V0,V0=wz.drew:=⟨_,rfl⟩
     have HBV0:Hid (Below wz.heap.size wz V0):=hid (by rw[hV0];exact(Below.refl _ _).drew)
     rw[<-hV0] at hHeld ⊢
     clear hV0
     refine wpAnyH_take (i:=0) (v:=?_) rfl (by kernel_rfl) (by kernel_rfl) (by kernel_rfl) (fun _ _ _ h=>h) (Or.inl ⟨by rfl,?_⟩) (by assumption) ?_
     rotate_left
     ·intro w hSw;(try dsimp only at hSw);go_simp<;>with_reducible rfl
     try simp only[Act.put,getElem_toArray,getElem_cons_succ,getElem_cons_zero,setIfInBounds_toArray,set_cons_zero,set_cons_succ]
     refine wpAnyH_take (i:=1) (v:=?_) rfl (by kernel_rfl) (by kernel_rfl) (by kernel_rfl) (fun _ _ _ h=>h) (Or.inl ⟨by rfl,?_⟩) (by assumption) ?_
     rotate_left
     ·intro w hSw;(try dsimp only at hSw);go_simp<;>with_reducible rfl
     try simp only[Act.put,getElem_toArray,getElem_cons_succ,getElem_cons_zero,setIfInBounds_toArray,set_cons_zero,set_cons_succ]
     refine wpAnyH_take (i:=2) (v:=?_) rfl (by kernel_rfl) (by kernel_rfl) (by kernel_rfl) (fun _ _ _ h=>h) (Or.inl ⟨by rfl,?_⟩) (by assumption) ?_
     rotate_left
     ·intro w hSw;(try dsimp only at hSw);go_simp<;>with_reducible rfl
     try simp only[Act.put,getElem_toArray,getElem_cons_succ,getElem_cons_zero,setIfInBounds_toArray,set_cons_zero,set_cons_succ]
     refine wpAnyH_take (i:=3) (v:=?_) rfl (by kernel_rfl) (by kernel_rfl) (by kernel_rfl) (fun _ _ _ h=>h) (Or.inl ⟨by rfl,?_⟩) (by assumption) ?_
     rotate_left
     ·intro w hSw;(try dsimp only at hSw);go_simp<;>with_reducible rfl
     try simp only[Act.put,getElem_toArray,getElem_cons_succ,getElem_cons_zero,setIfInBounds_toArray,set_cons_zero,set_cons_succ]
     refine wpAnyH_take (i:=4) (v:=?_) rfl (by kernel_rfl) (by kernel_rfl) (by kernel_rfl) (fun _ _ _ h=>h) (Or.inl ⟨by rfl,?_⟩) (by assumption) ?_
     rotate_left
     ·intro w hSw;(try dsimp only at hSw);go_simp<;>with_reducible rfl
     try simp only[Act.put,getElem_toArray,getElem_cons_succ,getElem_cons_zero,setIfInBounds_toArray,set_cons_zero,set_cons_succ]
     refine wpAnyH_take (i:=5) (v:=?_) rfl (by kernel_rfl) (by kernel_rfl) (by kernel_rfl) (fun _ _ _ h=>h) (Or.inl ⟨by rfl,?_⟩) (by assumption) ?_
     rotate_left
     ·intro w hSw;(try dsimp only at hSw);go_simp<;>with_reducible rfl
     try simp only[Act.put,getElem_toArray,getElem_cons_succ,getElem_cons_zero,setIfInBounds_toArray,set_cons_zero,set_cons_succ]
     refine wpAnyH_ready (rs:= [6,12,13]) (by kernel_rfl) (by simp) ?_
     refine AllReadyH.cons rfl (fun K hK=>?_) (AllReadyH.cons rfl (fun K hK=>?_) (AllReadyH.cons rfl (fun K hK=>?_) AllReadyH.nil))
     ·skip
      go_simp
      go_at_call 22
      refine(KQ.out V0 HBV0.out).mono ?_
      rintro e V1 ⟨rfl,hb⟩
      have HBV0V1:=hid hb
      have HBV1:Hid (Below wz.heap.size wz V1):=hid (step HBV0.out hb)
      clear hb
      refine hK.out _ _ (HKP.out _ HBV1.out) (fun hHeld=>?_)
      clear hK K
      try simp only[Act.put,getElem_toArray,getElem_cons_succ,getElem_cons_zero,setIfInBounds_toArray,set_cons_zero,set_cons_succ]
      refine wpAnyH_ready (rs:= [7,12,13]) (by kernel_rfl) (by simp) ?_
      refine AllReadyH.cons rfl (fun K hK=>?_) (AllReadyH.cons rfl (fun K hK=>?_) (AllReadyH.cons rfl (fun K hK=>?_) AllReadyH.nil))
      ·skip
       go_simp
       go_at_call 23
       refine(KA.out V1 HBV1.out).mono ?_
       rintro e V2 ⟨⟨ut,un,uk,uS,ua,uc,uK,uka,ukc,uM,uma,umc⟩,ra,rp,he,hv,hf,hr,hb⟩
       unfold stVal at he
       simp only[StC.sv,StC.kv,StC.mv] at he
       subst he
       have HVU:=hid hv
       have HFU:=hid hf
       have HRU:=hid hr
       have HBV1V2:=hid hb
       have HBV2:Hid (Below wz.heap.size wz V2):=hid (step HBV1.out hb)
       clear hv hf hr hb
       refine hK.out _ _ (HKP.out _ HBV2.out) (fun hHeld=>?_)
       clear hK K
       try simp only[Act.put,getElem_toArray,getElem_cons_succ,getElem_cons_zero,setIfInBounds_toArray,set_cons_zero,set_cons_succ]
       refine wpAnyH_take (i:=8) (v:=?_) rfl (by kernel_rfl) (by kernel_rfl) (by kernel_rfl) (fun _ _ _ h=>h) (Or.inl ⟨by rfl,?_⟩) (by assumption) ?_
       rotate_left
       ·intro w hSw;(try dsimp only at hSw);go_simp<;>with_reducible rfl
       try simp only[Act.put,getElem_toArray,getElem_cons_succ,getElem_cons_zero,setIfInBounds_toArray,set_cons_zero,set_cons_succ]
       refine wpAnyH_take (i:=9) (v:=?_) rfl (by kernel_rfl) (by kernel_rfl) (by kernel_rfl) (fun _ _ _ h=>h) (Or.inl ⟨by rfl,?_⟩) (by assumption) ?_
       rotate_left
       ·intro w hSw;(try dsimp only at hSw);go_simp<;>with_reducible rfl
       try simp only[Act.put,getElem_toArray,getElem_cons_succ,getElem_cons_zero,setIfInBounds_toArray,set_cons_zero,set_cons_succ]
       refine wpAnyH_take (i:=10) (v:=?_) rfl (by kernel_rfl) (by kernel_rfl) (by kernel_rfl) (fun _ _ _ h=>h) (Or.inl ⟨by rfl,?_⟩) (by assumption) ?_
       rotate_left
       ·intro w hSw;(try dsimp only at hSw);go_simp<;>with_reducible rfl
       try simp only[Act.put,getElem_toArray,getElem_cons_succ,getElem_cons_zero,setIfInBounds_toArray,set_cons_zero,set_cons_succ]
       refine wpAnyH_take (i:=11) (v:=?_) rfl (by kernel_rfl) (by kernel_rfl) (by kernel_rfl) (fun _ _ _ h=>h) (Or.inl ⟨by rfl,?_⟩) (by assumption) ?_
       rotate_left
       ·intro w hSw;(try dsimp only at hSw);go_simp<;>with_reducible rfl
       try simp only[Act.put,getElem_toArray,getElem_cons_succ,getElem_cons_zero,setIfInBounds_toArray,set_cons_zero,set_cons_succ]
       refine wpAnyH_ready (rs:= [12,13]) (by kernel_rfl) (by simp) ?_
       refine AllReadyH.cons rfl (fun K hK=>?_) (AllReadyH.cons rfl (fun K hK=>?_) AllReadyH.nil)
       ·skip
        go_simp
        obtain⟨V3,hV3⟩: ∃V3,V3=V2.alloc (.cells #[.int .i64 0,.int .i64 0,.int .i64 0,.slice none 0 0,.slice none 0 0,.slice none 0 0] 28):=⟨_,rfl⟩
        have hb:Below V2.heap.size V2 V3:=by rw[hV3];exact newAlloc _ _
        have hn:BoxS V3 V2.heap.size zeroC10:=by rw[hV3];exact BoxS.new V2 zeroC10 _
        have hsb28:V3.heap.size=V2.heap.size+1:=by rw[hV3];simp
        rw[<-hV3]
        obtain⟨b28,hb28⟩: ∃b28,V2.heap.size=b28:=⟨_,rfl⟩
        rw[hb28] at hn hsb28 ⊢
        have HNb28:Hid (∀W,Below V3.heap.size V3 W->BoxS W b28 zeroC10):=hid fun W hw=>hn.later hw
        have HBV2V3:=hid hb
        have HBV3:Hid (Below wz.heap.size wz V3):=hid (step HBV2.out hb)
        have HSb28:=hid hb28
        have HS1b28:=hid hsb28
        clear hV3 hb hn hb28 hsb28
        refine hK.out _ _ (HKP.out _ HBV3.out) (fun hHeld=>?_)
        clear hK K
        try simp only[Act.put,getElem_toArray,getElem_cons_succ,getElem_cons_zero,setIfInBounds_toArray,set_cons_zero,set_cons_succ]
        refine wpAnyH_ready (rs:= [13]) (by kernel_rfl) (by simp) ?_
        refine AllReadyH.cons rfl (fun K hK=>?_) AllReadyH.nil
        ·skip
         go_simp
         obtain⟨V4,hV4⟩: ∃V4,V4=V3.alloc (.cells #[.int .i64 0,.int .i64 0,.int .i64 0,.slice none 0 0] 44):=⟨_,rfl⟩
         have hb:Below V3.heap.size V3 V4:=by rw[hV4];exact newAlloc _ _
         have hn:EmptyR V4 V3.heap.size:=by rw[hV4];exact EmptyR.new V3
         have hsb44:V4.heap.size=V3.heap.size+1:=by rw[hV4];simp
         rw[<-hV4]
         obtain⟨b44,hb44⟩: ∃b44,V3.heap.size=b44:=⟨_,rfl⟩
         rw[hb44] at hn hsb44 ⊢
         have HNb44:Hid (∀W,Below V4.heap.size V4 W->EmptyR W b44):=hid fun W hw=>hn.later hw
         have HBV3V4:=hid hb
         have HBV4:Hid (Below wz.heap.size wz V4):=hid (step HBV3.out hb)
         have HSb44:=hid hb44
         have HS1b44:=hid hsb44
         clear hV4 hb hn hb44 hsb44
         refine hK.out _ _ (HKP.out _ HBV4.out) (fun hHeld=>?_)
         clear hK K
         try simp only[Act.put,getElem_toArray,getElem_cons_succ,getElem_cons_zero,setIfInBounds_toArray,set_cons_zero,set_cons_succ]
         have hsz:wz.heap.size<=b28:=by have:=HSb28.out;have:=HBV2.out.size;omega
         have hsz2:wz.heap.size<=b44:=by have:=HSb44.out;have:=HBV3.out.size;omega
         have hne:b28≠b44:=by have:=HSb44.out;have:=HS1b28.out;have:=((Below.refl V3.heap.size V3):Below _ _ V3).size;omega
         have hne2:b44≠b28:=fun q=>hne q.symm
         have hX1:=HNb28.out V4 HBV3V4.out
         have hR1:=HNb44.out V4 (Below.refl V4.heap.size V4)
         obtain⟨x0,x1,x2,x3,x4,x5,xf⟩:=hX1
         simp only[zeroC10,StC.sv,StC.kv,StC.mv,List.length_nil] at x0 x1 x2 x3 x4 x5
         obtain⟨⟨y0,y1,y2,y3⟩,yf⟩:=hR1 _ (Below.refl _ _)
         refine wpAnyH_ready (rs:= [14]) (by kernel_rfl) (by simp) ?_
         refine AllReadyH.cons rfl (fun K hK=>?_) AllReadyH.nil
         go_simp
         refine hK.out _ _ (HKP.out _ (below_set6 HBV4.out b28 hsz (.int .i64 ut) (.int .i64 un) (.int .i64 uk) (.slice ua uS.length uc) (.slice uka uK.length ukc) (.slice uma uM.length umc))) (fun hHeld=>?_)
         clear hK K
         try simp only[Act.put,getElem_toArray,getElem_cons_succ,getElem_cons_zero,setIfInBounds_toArray,set_cons_zero,set_cons_succ]
         refine wpAnyH_ready (rs:= [15]) (by kernel_rfl) (by simp) ?_
         refine AllReadyH.cons rfl (fun K hK=>?_) AllReadyH.nil
         go_simp
         refine hK.out _ _ (HKP.out _ (set4k (below_set6 HBV4.out b28 hsz (.int .i64 ut) (.int .i64 un) (.int .i64 uk) (.slice ua uS.length uc) (.slice uka uK.length ukc) (.slice uma uM.length umc)) b44 hsz2 (.int .i64 dc) (.int .i64 dn) (.int .i64 da) (.slice ra dh.length rp))) (fun hHeld=>?_)
         clear hK K
         try simp only[Act.put,getElem_toArray,getElem_cons_succ,getElem_cons_zero,setIfInBounds_toArray,set_cons_zero,set_cons_succ]
         refine wpAnyH_take (i:=16) (v:=?_) rfl (by kernel_rfl) (by kernel_rfl) (by kernel_rfl) (fun _ _ _ h=>h) (Or.inl ⟨by rfl,?_⟩) (by assumption) ?_
         rotate_left
         ·intro w hSw;(try dsimp only at hSw);go_simp<;>with_reducible rfl
         try simp only[Act.put,getElem_toArray,getElem_cons_succ,getElem_cons_zero,setIfInBounds_toArray,set_cons_zero,set_cons_succ]
         refine wpAnyH_done (by kernel_rfl) ?_ _
         have HFE:=hid ((HFU.out.later (set4k (below_set6 (step HBV2V3.out HBV3V4.out) b28 (by have:=HSb28.out;have:=((Below.refl V2.heap.size V2):Below _ _ V2).size;omega) (.int .i64 ut) (.int .i64 un) (.int .i64 uk) (.slice ua uS.length uc) (.slice uka uK.length ukc) (.slice uma uM.length umc)) b44 (by have:=HSb44.out;have:=(HBV2V3.out:Below _ _ V3).size;omega) (.int .i64 dc) (.int .i64 dn) (.int .i64 da) (.slice ra dh.length rp))))
         have HBE:=hid (set4k (below_set6 HBV4.out b28 hsz (.int .i64 ut) (.int .i64 un) (.int .i64 uk) (.slice ua uS.length uc) (.slice uka uK.length ukc) (.slice uma uM.length umc)) b44 hsz2 (.int .i64 dc) (.int .i64 dn) (.int .i64 da) (.slice ra dh.length rp))
         have HUE:=hid (((HNb28.out V4 HBV3V4.out).put ut un uk uS ua uc uK uka ukc uM uma umc).other4 hne2 (.int .i64 dc) (.int .i64 dn) (.int .i64 da) (.slice ra dh.length rp))
         have HSA:=hid (show wz.heap.size<=V1.heap.size from HBV1.out.size)
         have HFX:=hid ((HFC.out.later HBE.out).trans (HFE.out.lower (Nat.le_trans hszc HSA.out)))
         have HCX:=hid (boxP_put ((HNb44.out V4 (Below.refl V4.heap.size V4)).other6 hne (.int .i64 ut) (.int .i64 un) (.int .i64 uk) (.slice ua uS.length uc) (.slice uka uK.length ukc) (.slice uma uM.length umc)) ⟨dc,dn,da,dh⟩ (.slice ra dh.length rp))
         go_wp2
         go_meet
         case rel=>exact⟨b28,b44,⟨ut,un,uk,uS,ua,uc,uK,uka,ukc,uM,uma,umc⟩,rfl,rfl,Nat.le_trans hszc HBE.out.size,HUE,HFX,HVU,HCX,HBE⟩
       ·skip
        go_simp
        obtain⟨V3,hV3⟩: ∃V3,V3=V2.alloc (.cells #[.int .i64 0,.int .i64 0,.int .i64 0,.slice none 0 0] 44):=⟨_,rfl⟩
        have hb:Below V2.heap.size V2 V3:=by rw[hV3];exact newAlloc _ _
        have hn:EmptyR V3 V2.heap.size:=by rw[hV3];exact EmptyR.new V2
        have hsb44:V3.heap.size=V2.heap.size+1:=by rw[hV3];simp
        rw[<-hV3]
        obtain⟨b44,hb44⟩: ∃b44,V2.heap.size=b44:=⟨_,rfl⟩
        rw[hb44] at hn hsb44 ⊢
        have HNb44:Hid (∀W,Below V3.heap.size V3 W->EmptyR W b44):=hid fun W hw=>hn.later hw
        have HBV2V3:=hid hb
        have HBV3:Hid (Below wz.heap.size wz V3):=hid (step HBV2.out hb)
        have HSb44:=hid hb44
        have HS1b44:=hid hsb44
        clear hV3 hb hn hb44 hsb44
        refine hK.out _ _ (HKP.out _ HBV3.out) (fun hHeld=>?_)
        clear hK K
        try simp only[Act.put,getElem_toArray,getElem_cons_succ,getElem_cons_zero,setIfInBounds_toArray,set_cons_zero,set_cons_succ]
        refine wpAnyH_ready (rs:= [12]) (by kernel_rfl) (by simp) ?_
        refine AllReadyH.cons rfl (fun K hK=>?_) AllReadyH.nil
        ·skip
         go_simp
         obtain⟨V4,hV4⟩: ∃V4,V4=V3.alloc (.cells #[.int .i64 0,.int .i64 0,.int .i64 0,.slice none 0 0,.slice none 0 0,.slice none 0 0] 28):=⟨_,rfl⟩
         have hb:Below V3.heap.size V3 V4:=by rw[hV4];exact newAlloc _ _
         have hn:BoxS V4 V3.heap.size zeroC10:=by rw[hV4];exact BoxS.new V3 zeroC10 _
         have hsb28:V4.heap.size=V3.heap.size+1:=by rw[hV4];simp
         rw[<-hV4]
         obtain⟨b28,hb28⟩: ∃b28,V3.heap.size=b28:=⟨_,rfl⟩
         rw[hb28] at hn hsb28 ⊢
         have HNb28:Hid (∀W,Below V4.heap.size V4 W->BoxS W b28 zeroC10):=hid fun W hw=>hn.later hw
         have HBV3V4:=hid hb
         have HBV4:Hid (Below wz.heap.size wz V4):=hid (step HBV3.out hb)
         have HSb28:=hid hb28
         have HS1b28:=hid hsb28
         clear hV4 hb hn hb28 hsb28
         refine hK.out _ _ (HKP.out _ HBV4.out) (fun hHeld=>?_)
         clear hK K
         try simp only[Act.put,getElem_toArray,getElem_cons_succ,getElem_cons_zero,setIfInBounds_toArray,set_cons_zero,set_cons_succ]
         have hsz:wz.heap.size<=b28:=by have:=HSb28.out;have:=HBV3.out.size;omega
         have hsz2:wz.heap.size<=b44:=by have:=HSb44.out;have:=HBV2.out.size;omega
         have hne:b28≠b44:=by have:=HSb28.out;have:=HS1b44.out;have:=((Below.refl V3.heap.size V3):Below _ _ V3).size;omega
         have hne2:b44≠b28:=fun q=>hne q.symm
         have hX1:=HNb28.out V4 (Below.refl V4.heap.size V4)
         have hR1:=HNb44.out V4 HBV3V4.out
         obtain⟨x0,x1,x2,x3,x4,x5,xf⟩:=hX1
         simp only[zeroC10,StC.sv,StC.kv,StC.mv,List.length_nil] at x0 x1 x2 x3 x4 x5
         obtain⟨⟨y0,y1,y2,y3⟩,yf⟩:=hR1 _ (Below.refl _ _)
         refine wpAnyH_ready (rs:= [14]) (by kernel_rfl) (by simp) ?_
         refine AllReadyH.cons rfl (fun K hK=>?_) AllReadyH.nil
         go_simp
         refine hK.out _ _ (HKP.out _ (below_set6 HBV4.out b28 hsz (.int .i64 ut) (.int .i64 un) (.int .i64 uk) (.slice ua uS.length uc) (.slice uka uK.length ukc) (.slice uma uM.length umc))) (fun hHeld=>?_)
         clear hK K
         try simp only[Act.put,getElem_toArray,getElem_cons_succ,getElem_cons_zero,setIfInBounds_toArray,set_cons_zero,set_cons_succ]
         refine wpAnyH_ready (rs:= [15]) (by kernel_rfl) (by simp) ?_
         refine AllReadyH.cons rfl (fun K hK=>?_) AllReadyH.nil
         go_simp
         refine hK.out _ _ (HKP.out _ (set4k (below_set6 HBV4.out b28 hsz (.int .i64 ut) (.int .i64 un) (.int .i64 uk) (.slice ua uS.length uc) (.slice uka uK.length ukc) (.slice uma uM.length umc)) b44 hsz2 (.int .i64 dc) (.int .i64 dn) (.int .i64 da) (.slice ra dh.length rp))) (fun hHeld=>?_)
         clear hK K
         try simp only[Act.put,getElem_toArray,getElem_cons_succ,getElem_cons_zero,setIfInBounds_toArray,set_cons_zero,set_cons_succ]
         refine wpAnyH_take (i:=16) (v:=?_) rfl (by kernel_rfl) (by kernel_rfl) (by kernel_rfl) (fun _ _ _ h=>h) (Or.inl ⟨by rfl,?_⟩) (by assumption) ?_
         rotate_left
         ·intro w hSw;(try dsimp only at hSw);go_simp<;>with_reducible rfl
         try simp only[Act.put,getElem_toArray,getElem_cons_succ,getElem_cons_zero,setIfInBounds_toArray,set_cons_zero,set_cons_succ]
         refine wpAnyH_done (by kernel_rfl) ?_ _
         have HFE:=hid ((HFU.out.later (set4k (below_set6 (step HBV2V3.out HBV3V4.out) b28 (by have:=HSb28.out;have:=(HBV2V3.out:Below _ _ V3).size;omega) (.int .i64 ut) (.int .i64 un) (.int .i64 uk) (.slice ua uS.length uc) (.slice uka uK.length ukc) (.slice uma uM.length umc)) b44 (by have:=HSb44.out;have:=((Below.refl V2.heap.size V2):Below _ _ V2).size;omega) (.int .i64 dc) (.int .i64 dn) (.int .i64 da) (.slice ra dh.length rp))))
         have HBE:=hid (set4k (below_set6 HBV4.out b28 hsz (.int .i64 ut) (.int .i64 un) (.int .i64 uk) (.slice ua uS.length uc) (.slice uka uK.length ukc) (.slice uma uM.length umc)) b44 hsz2 (.int .i64 dc) (.int .i64 dn) (.int .i64 da) (.slice ra dh.length rp))
         have HUE:=hid (((HNb28.out V4 (Below.refl V4.heap.size V4)).put ut un uk uS ua uc uK uka ukc uM uma umc).other4 hne2 (.int .i64 dc) (.int .i64 dn) (.int .i64 da) (.slice ra dh.length rp))
         have HSA:=hid (show wz.heap.size<=V1.heap.size from HBV1.out.size)
         have HFX:=hid ((HFC.out.later HBE.out).trans (HFE.out.lower (Nat.le_trans hszc HSA.out)))
         have HCX:=hid (boxP_put ((HNb44.out V4 HBV3V4.out).other6 hne (.int .i64 ut) (.int .i64 un) (.int .i64 uk) (.slice ua uS.length uc) (.slice uka uK.length ukc) (.slice uma uM.length umc)) ⟨dc,dn,da,dh⟩ (.slice ra dh.length rp))
         go_wp2
         go_meet
         case rel=>exact⟨b28,b44,⟨ut,un,uk,uS,ua,uc,uK,uka,ukc,uM,uma,umc⟩,rfl,rfl,Nat.le_trans hszc HBE.out.size,HUE,HFX,HVU,HCX,HBE⟩
      ·skip
       go_simp
       obtain⟨V2,hV2⟩: ∃V2,V2=V1.alloc (.cells #[.int .i64 0,.int .i64 0,.int .i64 0,.slice none 0 0,.slice none 0 0,.slice none 0 0] 28):=⟨_,rfl⟩
       have hb:Below V1.heap.size V1 V2:=by rw[hV2];exact newAlloc _ _
       have hn:BoxS V2 V1.heap.size zeroC10:=by rw[hV2];exact BoxS.new V1 zeroC10 _
       have hsb28:V2.heap.size=V1.heap.size+1:=by rw[hV2];simp
       rw[<-hV2]
       obtain⟨b28,hb28⟩: ∃b28,V1.heap.size=b28:=⟨_,rfl⟩
       rw[hb28] at hn hsb28 ⊢
       have HNb28:Hid (∀W,Below V2.heap.size V2 W->BoxS W b28 zeroC10):=hid fun W hw=>hn.later hw
       have HBV1V2:=hid hb
       have HBV2:Hid (Below wz.heap.size wz V2):=hid (step HBV1.out hb)
       have HSb28:=hid hb28
       have HS1b28:=hid hsb28
       clear hV2 hb hn hb28 hsb28
       refine hK.out _ _ (HKP.out _ HBV2.out) (fun hHeld=>?_)
       clear hK K
       try simp only[Act.put,getElem_toArray,getElem_cons_succ,getElem_cons_zero,setIfInBounds_toArray,set_cons_zero,set_cons_succ]
       refine wpAnyH_ready (rs:= [7,13]) (by kernel_rfl) (by simp) ?_
       refine AllReadyH.cons rfl (fun K hK=>?_) (AllReadyH.cons rfl (fun K hK=>?_) AllReadyH.nil)
       ·skip
        go_simp
        go_at_call 23
        refine(KA.out V2 HBV2.out).mono ?_
        rintro e V3 ⟨⟨ut,un,uk,uS,ua,uc,uK,uka,ukc,uM,uma,umc⟩,ra,rp,he,hv,hf,hr,hb⟩
        unfold stVal at he
        simp only[StC.sv,StC.kv,StC.mv] at he
        subst he
        have HVU:=hid hv
        have HFU:=hid hf
        have HRU:=hid hr
        have HBV2V3:=hid hb
        have HBV3:Hid (Below wz.heap.size wz V3):=hid (step HBV2.out hb)
        clear hv hf hr hb
        refine hK.out _ _ (HKP.out _ HBV3.out) (fun hHeld=>?_)
        clear hK K
        try simp only[Act.put,getElem_toArray,getElem_cons_succ,getElem_cons_zero,setIfInBounds_toArray,set_cons_zero,set_cons_succ]
        refine wpAnyH_take (i:=8) (v:=?_) rfl (by kernel_rfl) (by kernel_rfl) (by kernel_rfl) (fun _ _ _ h=>h) (Or.inl ⟨by rfl,?_⟩) (by assumption) ?_
        rotate_left
        ·intro w hSw;(try dsimp only at hSw);go_simp<;>with_reducible rfl
        try simp only[Act.put,getElem_toArray,getElem_cons_succ,getElem_cons_zero,setIfInBounds_toArray,set_cons_zero,set_cons_succ]
        refine wpAnyH_take (i:=9) (v:=?_) rfl (by kernel_rfl) (by kernel_rfl) (by kernel_rfl) (fun _ _ _ h=>h) (Or.inl ⟨by rfl,?_⟩) (by assumption) ?_
        rotate_left
        ·intro w hSw;(try dsimp only at hSw);go_simp<;>with_reducible rfl
        try simp only[Act.put,getElem_toArray,getElem_cons_succ,getElem_cons_zero,setIfInBounds_toArray,set_cons_zero,set_cons_succ]
        refine wpAnyH_take (i:=10) (v:=?_) rfl (by kernel_rfl) (by kernel_rfl) (by kernel_rfl) (fun _ _ _ h=>h) (Or.inl ⟨by rfl,?_⟩) (by assumption) ?_
        rotate_left
        ·intro w hSw;(try dsimp only at hSw);go_simp<;>with_reducible rfl
        try simp only[Act.put,getElem_toArray,getElem_cons_succ,getElem_cons_zero,setIfInBounds_toArray,set_cons_zero,set_cons_succ]
        refine wpAnyH_take (i:=11) (v:=?_) rfl (by kernel_rfl) (by kernel_rfl) (by kernel_rfl) (fun _ _ _ h=>h) (Or.inl ⟨by rfl,?_⟩) (by assumption) ?_
        rotate_left
        ·intro w hSw;(try dsimp only at hSw);go_simp<;>with_reducible rfl
        try simp only[Act.put,getElem_toArray,getElem_cons_succ,getElem_cons_zero,setIfInBounds_toArray,set_cons_zero,set_cons_succ]
        refine wpAnyH_ready (rs:= [13]) (by kernel_rfl) (by simp) ?_
        refine AllReadyH.cons rfl (fun K hK=>?_) AllReadyH.nil
        ·skip
         go_simp
         obtain⟨V4,hV4⟩: ∃V4,V4=V3.alloc (.cells #[.int .i64 0,.int .i64 0,.int .i64 0,.slice none 0 0] 44):=⟨_,rfl⟩
         have hb:Below V3.heap.size V3 V4:=by rw[hV4];exact newAlloc _ _
         have hn:EmptyR V4 V3.heap.size:=by rw[hV4];exact EmptyR.new V3
         have hsb44:V4.heap.size=V3.heap.size+1:=by rw[hV4];simp
         rw[<-hV4]
         obtain⟨b44,hb44⟩: ∃b44,V3.heap.size=b44:=⟨_,rfl⟩
         rw[hb44] at hn hsb44 ⊢
         have HNb44:Hid (∀W,Below V4.heap.size V4 W->EmptyR W b44):=hid fun W hw=>hn.later hw
         have HBV3V4:=hid hb
         have HBV4:Hid (Below wz.heap.size wz V4):=hid (step HBV3.out hb)
         have HSb44:=hid hb44
         have HS1b44:=hid hsb44
         clear hV4 hb hn hb44 hsb44
         refine hK.out _ _ (HKP.out _ HBV4.out) (fun hHeld=>?_)
         clear hK K
         try simp only[Act.put,getElem_toArray,getElem_cons_succ,getElem_cons_zero,setIfInBounds_toArray,set_cons_zero,set_cons_succ]
         have hsz:wz.heap.size<=b28:=by have:=HSb28.out;have:=HBV1.out.size;omega
         have hsz2:wz.heap.size<=b44:=by have:=HSb44.out;have:=HBV3.out.size;omega
         have hne:b28≠b44:=by have:=HSb44.out;have:=HS1b28.out;have:=(HBV2V3.out:Below _ _ V3).size;omega
         have hne2:b44≠b28:=fun q=>hne q.symm
         have hX1:=HNb28.out V4 (step HBV2V3.out HBV3V4.out)
         have hR1:=HNb44.out V4 (Below.refl V4.heap.size V4)
         obtain⟨x0,x1,x2,x3,x4,x5,xf⟩:=hX1
         simp only[zeroC10,StC.sv,StC.kv,StC.mv,List.length_nil] at x0 x1 x2 x3 x4 x5
         obtain⟨⟨y0,y1,y2,y3⟩,yf⟩:=hR1 _ (Below.refl _ _)
         refine wpAnyH_ready (rs:= [14]) (by kernel_rfl) (by simp) ?_
         refine AllReadyH.cons rfl (fun K hK=>?_) AllReadyH.nil
         go_simp
         refine hK.out _ _ (HKP.out _ (below_set6 HBV4.out b28 hsz (.int .i64 ut) (.int .i64 un) (.int .i64 uk) (.slice ua uS.length uc) (.slice uka uK.length ukc) (.slice uma uM.length umc))) (fun hHeld=>?_)
         clear hK K
         try simp only[Act.put,getElem_toArray,getElem_cons_succ,getElem_cons_zero,setIfInBounds_toArray,set_cons_zero,set_cons_succ]
         refine wpAnyH_ready (rs:= [15]) (by kernel_rfl) (by simp) ?_
         refine AllReadyH.cons rfl (fun K hK=>?_) AllReadyH.nil
         go_simp
         refine hK.out _ _ (HKP.out _ (set4k (below_set6 HBV4.out b28 hsz (.int .i64 ut) (.int .i64 un) (.int .i64 uk) (.slice ua uS.length uc) (.slice uka uK.length ukc) (.slice uma uM.length umc)) b44 hsz2 (.int .i64 dc) (.int .i64 dn) (.int .i64 da) (.slice ra dh.length rp))) (fun hHeld=>?_)
         clear hK K
         try simp only[Act.put,getElem_toArray,getElem_cons_succ,getElem_cons_zero,setIfInBounds_toArray,set_cons_zero,set_cons_succ]
         refine wpAnyH_take (i:=16) (v:=?_) rfl (by kernel_rfl) (by kernel_rfl) (by kernel_rfl) (fun _ _ _ h=>h) (Or.inl ⟨by rfl,?_⟩) (by assumption) ?_
         rotate_left
         ·intro w hSw;(try dsimp only at hSw);go_simp<;>with_reducible rfl
         try simp only[Act.put,getElem_toArray,getElem_cons_succ,getElem_cons_zero,setIfInBounds_toArray,set_cons_zero,set_cons_succ]
         refine wpAnyH_done (by kernel_rfl) ?_ _
         have HFE:=hid (fromS_mix HFU.out HBV3V4.out (show b28<V2.heap.size by have:=HS1b28.out;have:=((Below.refl V2.heap.size V2):Below _ _ V2).size;omega) (show V3.heap.size<=b44 by have:=HSb44.out;have:=((Below.refl V3.heap.size V3):Below _ _ V3).size;omega) (.int .i64 ut) (.int .i64 un) (.int .i64 uk) (.slice ua uS.length uc) (.slice uka uK.length ukc) (.slice uma uM.length umc) (.int .i64 dc) (.int .i64 dn) (.int .i64 da) (.slice ra dh.length rp))
         have HBE:=hid (set4k (below_set6 HBV4.out b28 hsz (.int .i64 ut) (.int .i64 un) (.int .i64 uk) (.slice ua uS.length uc) (.slice uka uK.length ukc) (.slice uma uM.length umc)) b44 hsz2 (.int .i64 dc) (.int .i64 dn) (.int .i64 da) (.slice ra dh.length rp))
         have HUE:=hid (((HNb28.out V4 (step HBV2V3.out HBV3V4.out)).put ut un uk uS ua uc uK uka ukc uM uma umc).other4 hne2 (.int .i64 dc) (.int .i64 dn) (.int .i64 da) (.slice ra dh.length rp))
         have HSA:=hid (show wz.heap.size<=V2.heap.size from HBV2.out.size)
         have HFX:=hid ((HFC.out.later HBE.out).trans (HFE.out.lower (Nat.le_trans hszc HSA.out)))
         have HCX:=hid (boxP_put ((HNb44.out V4 (Below.refl V4.heap.size V4)).other6 hne (.int .i64 ut) (.int .i64 un) (.int .i64 uk) (.slice ua uS.length uc) (.slice uka uK.length ukc) (.slice uma uM.length umc)) ⟨dc,dn,da,dh⟩ (.slice ra dh.length rp))
         go_wp2
         go_meet
         case rel=>exact⟨b28,b44,⟨ut,un,uk,uS,ua,uc,uK,uka,ukc,uM,uma,umc⟩,rfl,rfl,Nat.le_trans hszc HBE.out.size,HUE,HFX,HVU,HCX,HBE⟩
       ·skip
        go_simp
        obtain⟨V3,hV3⟩: ∃V3,V3=V2.alloc (.cells #[.int .i64 0,.int .i64 0,.int .i64 0,.slice none 0 0] 44):=⟨_,rfl⟩
        have hb:Below V2.heap.size V2 V3:=by rw[hV3];exact newAlloc _ _
        have hn:EmptyR V3 V2.heap.size:=by rw[hV3];exact EmptyR.new V2
        have hsb44:V3.heap.size=V2.heap.size+1:=by rw[hV3];simp
        rw[<-hV3]
        obtain⟨b44,hb44⟩: ∃b44,V2.heap.size=b44:=⟨_,rfl⟩
        rw[hb44] at hn hsb44 ⊢
        have HNb44:Hid (∀W,Below V3.heap.size V3 W->EmptyR W b44):=hid fun W hw=>hn.later hw
        have HBV2V3:=hid hb
        have HBV3:Hid (Below wz.heap.size wz V3):=hid (step HBV2.out hb)
        have HSb44:=hid hb44
        have HS1b44:=hid hsb44
        clear hV3 hb hn hb44 hsb44
        refine hK.out _ _ (HKP.out _ HBV3.out) (fun hHeld=>?_)
        clear hK K
        try simp only[Act.put,getElem_toArray,getElem_cons_succ,getElem_cons_zero,setIfInBounds_toArray,set_cons_zero,set_cons_succ]
        refine wpAnyH_ready (rs:= [7]) (by kernel_rfl) (by simp) ?_
        refine AllReadyH.cons rfl (fun K hK=>?_) AllReadyH.nil
        ·skip
         go_simp
         go_at_call 23
         refine(KA.out V3 HBV3.out).mono ?_
         rintro e V4 ⟨⟨ut,un,uk,uS,ua,uc,uK,uka,ukc,uM,uma,umc⟩,ra,rp,he,hv,hf,hr,hb⟩
         unfold stVal at he
         simp only[StC.sv,StC.kv,StC.mv] at he
         subst he
         have HVU:=hid hv
         have HFU:=hid hf
         have HRU:=hid hr
         have HBV3V4:=hid hb
         have HBV4:Hid (Below wz.heap.size wz V4):=hid (step HBV3.out hb)
         clear hv hf hr hb
         refine hK.out _ _ (HKP.out _ HBV4.out) (fun hHeld=>?_)
         clear hK K
         try simp only[Act.put,getElem_toArray,getElem_cons_succ,getElem_cons_zero,setIfInBounds_toArray,set_cons_zero,set_cons_succ]
         refine wpAnyH_take (i:=8) (v:=?_) rfl (by kernel_rfl) (by kernel_rfl) (by kernel_rfl) (fun _ _ _ h=>h) (Or.inl ⟨by rfl,?_⟩) (by assumption) ?_
         rotate_left
         ·intro w hSw;(try dsimp only at hSw);go_simp<;>with_reducible rfl
         try simp only[Act.put,getElem_toArray,getElem_cons_succ,getElem_cons_zero,setIfInBounds_toArray,set_cons_zero,set_cons_succ]
         refine wpAnyH_take (i:=9) (v:=?_) rfl (by kernel_rfl) (by kernel_rfl) (by kernel_rfl) (fun _ _ _ h=>h) (Or.inl ⟨by rfl,?_⟩) (by assumption) ?_
         rotate_left
         ·intro w hSw;(try dsimp only at hSw);go_simp<;>with_reducible rfl
         try simp only[Act.put,getElem_toArray,getElem_cons_succ,getElem_cons_zero,setIfInBounds_toArray,set_cons_zero,set_cons_succ]
         refine wpAnyH_take (i:=10) (v:=?_) rfl (by kernel_rfl) (by kernel_rfl) (by kernel_rfl) (fun _ _ _ h=>h) (Or.inl ⟨by rfl,?_⟩) (by assumption) ?_
         rotate_left
         ·intro w hSw;(try dsimp only at hSw);go_simp<;>with_reducible rfl
         try simp only[Act.put,getElem_toArray,getElem_cons_succ,getElem_cons_zero,setIfInBounds_toArray,set_cons_zero,set_cons_succ]
         refine wpAnyH_take (i:=11) (v:=?_) rfl (by kernel_rfl) (by kernel_rfl) (by kernel_rfl) (fun _ _ _ h=>h) (Or.inl ⟨by rfl,?_⟩) (by assumption) ?_
         rotate_left
         ·intro w hSw;(try dsimp only at hSw);go_simp<;>with_reducible rfl
         try simp only[Act.put,getElem_toArray,getElem_cons_succ,getElem_cons_zero,setIfInBounds_toArray,set_cons_zero,set_cons_succ]
         have hsz:wz.heap.size<=b28:=by have:=HSb28.out;have:=HBV1.out.size;omega
         have hsz2:wz.heap.size<=b44:=by have:=HSb44.out;have:=HBV2.out.size;omega
         have hne:b28≠b44:=by have:=HSb44.out;have:=HS1b28.out;have:=((Below.refl V2.heap.size V2):Below _ _ V2).size;omega
         have hne2:b44≠b28:=fun q=>hne q.symm
         have hX1:=HNb28.out V4 (step HBV2V3.out HBV3V4.out)
         have hR1:=HNb44.out V4 HBV3V4.out
         obtain⟨x0,x1,x2,x3,x4,x5,xf⟩:=hX1
         simp only[zeroC10,StC.sv,StC.kv,StC.mv,List.length_nil] at x0 x1 x2 x3 x4 x5
         obtain⟨⟨y0,y1,y2,y3⟩,yf⟩:=hR1 _ (Below.refl _ _)
         refine wpAnyH_ready (rs:= [14]) (by kernel_rfl) (by simp) ?_
         refine AllReadyH.cons rfl (fun K hK=>?_) AllReadyH.nil
         go_simp
         refine hK.out _ _ (HKP.out _ (below_set6 HBV4.out b28 hsz (.int .i64 ut) (.int .i64 un) (.int .i64 uk) (.slice ua uS.length uc) (.slice uka uK.length ukc) (.slice uma uM.length umc))) (fun hHeld=>?_)
         clear hK K
         try simp only[Act.put,getElem_toArray,getElem_cons_succ,getElem_cons_zero,setIfInBounds_toArray,set_cons_zero,set_cons_succ]
         refine wpAnyH_ready (rs:= [15]) (by kernel_rfl) (by simp) ?_
         refine AllReadyH.cons rfl (fun K hK=>?_) AllReadyH.nil
         go_simp
         refine hK.out _ _ (HKP.out _ (set4k (below_set6 HBV4.out b28 hsz (.int .i64 ut) (.int .i64 un) (.int .i64 uk) (.slice ua uS.length uc) (.slice uka uK.length ukc) (.slice uma uM.length umc)) b44 hsz2 (.int .i64 dc) (.int .i64 dn) (.int .i64 da) (.slice ra dh.length rp))) (fun hHeld=>?_)
         clear hK K
         try simp only[Act.put,getElem_toArray,getElem_cons_succ,getElem_cons_zero,setIfInBounds_toArray,set_cons_zero,set_cons_succ]
         refine wpAnyH_take (i:=16) (v:=?_) rfl (by kernel_rfl) (by kernel_rfl) (by kernel_rfl) (fun _ _ _ h=>h) (Or.inl ⟨by rfl,?_⟩) (by assumption) ?_
         rotate_left
         ·intro w hSw;(try dsimp only at hSw);go_simp<;>with_reducible rfl
         try simp only[Act.put,getElem_toArray,getElem_cons_succ,getElem_cons_zero,setIfInBounds_toArray,set_cons_zero,set_cons_succ]
         refine wpAnyH_done (by kernel_rfl) ?_ _
         have HFE:=hid (((HFU.out).set6 (show b28<V3.heap.size by have:=HS1b28.out;have:=(HBV2V3.out:Below _ _ V3).size;omega) (.int .i64 ut) (.int .i64 un) (.int .i64 uk) (.slice ua uS.length uc) (.slice uka uK.length ukc) (.slice uma uM.length umc)).set4 (show b44<V3.heap.size by have:=HS1b44.out;have:=((Below.refl V3.heap.size V3):Below _ _ V3).size;omega) (.int .i64 dc) (.int .i64 dn) (.int .i64 da) (.slice ra dh.length rp))
         have HBE:=hid (set4k (below_set6 HBV4.out b28 hsz (.int .i64 ut) (.int .i64 un) (.int .i64 uk) (.slice ua uS.length uc) (.slice uka uK.length ukc) (.slice uma uM.length umc)) b44 hsz2 (.int .i64 dc) (.int .i64 dn) (.int .i64 da) (.slice ra dh.length rp))
         have HUE:=hid (((HNb28.out V4 (step HBV2V3.out HBV3V4.out)).put ut un uk uS ua uc uK uka ukc uM uma umc).other4 hne2 (.int .i64 dc) (.int .i64 dn) (.int .i64 da) (.slice ra dh.length rp))
         have HSA:=hid (show wz.heap.size<=V3.heap.size from HBV3.out.size)
         have HFX:=hid ((HFC.out.later HBE.out).trans (HFE.out.lower (Nat.le_trans hszc HSA.out)))
         have HCX:=hid (boxP_put ((HNb44.out V4 HBV3V4.out).other6 hne (.int .i64 ut) (.int .i64 un) (.int .i64 uk) (.slice ua uS.length uc) (.slice uka uK.length ukc) (.slice uma uM.length umc)) ⟨dc,dn,da,dh⟩ (.slice ra dh.length rp))
         go_wp2
         go_meet
         case rel=>exact⟨b28,b44,⟨ut,un,uk,uS,ua,uc,uK,uka,ukc,uM,uma,umc⟩,rfl,rfl,Nat.le_trans hszc HBE.out.size,HUE,HFX,HVU,HCX,HBE⟩
      ·skip
       go_simp
       obtain⟨V2,hV2⟩: ∃V2,V2=V1.alloc (.cells #[.int .i64 0,.int .i64 0,.int .i64 0,.slice none 0 0] 44):=⟨_,rfl⟩
       have hb:Below V1.heap.size V1 V2:=by rw[hV2];exact newAlloc _ _
       have hn:EmptyR V2 V1.heap.size:=by rw[hV2];exact EmptyR.new V1
       have hsb44:V2.heap.size=V1.heap.size+1:=by rw[hV2];simp
       rw[<-hV2]
       obtain⟨b44,hb44⟩: ∃b44,V1.heap.size=b44:=⟨_,rfl⟩
       rw[hb44] at hn hsb44 ⊢
       have HNb44:Hid (∀W,Below V2.heap.size V2 W->EmptyR W b44):=hid fun W hw=>hn.later hw
       have HBV1V2:=hid hb
       have HBV2:Hid (Below wz.heap.size wz V2):=hid (step HBV1.out hb)
       have HSb44:=hid hb44
       have HS1b44:=hid hsb44
       clear hV2 hb hn hb44 hsb44
       refine hK.out _ _ (HKP.out _ HBV2.out) (fun hHeld=>?_)
       clear hK K
       try simp only[Act.put,getElem_toArray,getElem_cons_succ,getElem_cons_zero,setIfInBounds_toArray,set_cons_zero,set_cons_succ]
       refine wpAnyH_ready (rs:= [7,12]) (by kernel_rfl) (by simp) ?_
       refine AllReadyH.cons rfl (fun K hK=>?_) (AllReadyH.cons rfl (fun K hK=>?_) AllReadyH.nil)
       ·skip
        go_simp
        go_at_call 23
        refine(KA.out V2 HBV2.out).mono ?_
        rintro e V3 ⟨⟨ut,un,uk,uS,ua,uc,uK,uka,ukc,uM,uma,umc⟩,ra,rp,he,hv,hf,hr,hb⟩
        unfold stVal at he
        simp only[StC.sv,StC.kv,StC.mv] at he
        subst he
        have HVU:=hid hv
        have HFU:=hid hf
        have HRU:=hid hr
        have HBV2V3:=hid hb
        have HBV3:Hid (Below wz.heap.size wz V3):=hid (step HBV2.out hb)
        clear hv hf hr hb
        refine hK.out _ _ (HKP.out _ HBV3.out) (fun hHeld=>?_)
        clear hK K
        try simp only[Act.put,getElem_toArray,getElem_cons_succ,getElem_cons_zero,setIfInBounds_toArray,set_cons_zero,set_cons_succ]
        refine wpAnyH_take (i:=8) (v:=?_) rfl (by kernel_rfl) (by kernel_rfl) (by kernel_rfl) (fun _ _ _ h=>h) (Or.inl ⟨by rfl,?_⟩) (by assumption) ?_
        rotate_left
        ·intro w hSw;(try dsimp only at hSw);go_simp<;>with_reducible rfl
        try simp only[Act.put,getElem_toArray,getElem_cons_succ,getElem_cons_zero,setIfInBounds_toArray,set_cons_zero,set_cons_succ]
        refine wpAnyH_take (i:=9) (v:=?_) rfl (by kernel_rfl) (by kernel_rfl) (by kernel_rfl) (fun _ _ _ h=>h) (Or.inl ⟨by rfl,?_⟩) (by assumption) ?_
        rotate_left
        ·intro w hSw;(try dsimp only at hSw);go_simp<;>with_reducible rfl
        try simp only[Act.put,getElem_toArray,getElem_cons_succ,getElem_cons_zero,setIfInBounds_toArray,set_cons_zero,set_cons_succ]
        refine wpAnyH_take (i:=10) (v:=?_) rfl (by kernel_rfl) (by kernel_rfl) (by kernel_rfl) (fun _ _ _ h=>h) (Or.inl ⟨by rfl,?_⟩) (by assumption) ?_
        rotate_left
        ·intro w hSw;(try dsimp only at hSw);go_simp<;>with_reducible rfl
        try simp only[Act.put,getElem_toArray,getElem_cons_succ,getElem_cons_zero,setIfInBounds_toArray,set_cons_zero,set_cons_succ]
        refine wpAnyH_take (i:=11) (v:=?_) rfl (by kernel_rfl) (by kernel_rfl) (by kernel_rfl) (fun _ _ _ h=>h) (Or.inl ⟨by rfl,?_⟩) (by assumption) ?_
        rotate_left
        ·intro w hSw;(try dsimp only at hSw);go_simp<;>with_reducible rfl
        try simp only[Act.put,getElem_toArray,getElem_cons_succ,getElem_cons_zero,setIfInBounds_toArray,set_cons_zero,set_cons_succ]
        refine wpAnyH_ready (rs:= [12]) (by kernel_rfl) (by simp) ?_
        refine AllReadyH.cons rfl (fun K hK=>?_) AllReadyH.nil
        ·skip
         go_simp
         obtain⟨V4,hV4⟩: ∃V4,V4=V3.alloc (.cells #[.int .i64 0,.int .i64 0,.int .i64 0,.slice none 0 0,.slice none 0 0,.slice none 0 0] 28):=⟨_,rfl⟩
         have hb:Below V3.heap.size V3 V4:=by rw[hV4];exact newAlloc _ _
         have hn:BoxS V4 V3.heap.size zeroC10:=by rw[hV4];exact BoxS.new V3 zeroC10 _
         have hsb28:V4.heap.size=V3.heap.size+1:=by rw[hV4];simp
         rw[<-hV4]
         obtain⟨b28,hb28⟩: ∃b28,V3.heap.size=b28:=⟨_,rfl⟩
         rw[hb28] at hn hsb28 ⊢
         have HNb28:Hid (∀W,Below V4.heap.size V4 W->BoxS W b28 zeroC10):=hid fun W hw=>hn.later hw
         have HBV3V4:=hid hb
         have HBV4:Hid (Below wz.heap.size wz V4):=hid (step HBV3.out hb)
         have HSb28:=hid hb28
         have HS1b28:=hid hsb28
         clear hV4 hb hn hb28 hsb28
         refine hK.out _ _ (HKP.out _ HBV4.out) (fun hHeld=>?_)
         clear hK K
         try simp only[Act.put,getElem_toArray,getElem_cons_succ,getElem_cons_zero,setIfInBounds_toArray,set_cons_zero,set_cons_succ]
         have hsz:wz.heap.size<=b28:=by have:=HSb28.out;have:=HBV3.out.size;omega
         have hsz2:wz.heap.size<=b44:=by have:=HSb44.out;have:=HBV1.out.size;omega
         have hne:b28≠b44:=by have:=HSb28.out;have:=HS1b44.out;have:=(HBV2V3.out:Below _ _ V3).size;omega
         have hne2:b44≠b28:=fun q=>hne q.symm
         have hX1:=HNb28.out V4 (Below.refl V4.heap.size V4)
         have hR1:=HNb44.out V4 (step HBV2V3.out HBV3V4.out)
         obtain⟨x0,x1,x2,x3,x4,x5,xf⟩:=hX1
         simp only[zeroC10,StC.sv,StC.kv,StC.mv,List.length_nil] at x0 x1 x2 x3 x4 x5
         obtain⟨⟨y0,y1,y2,y3⟩,yf⟩:=hR1 _ (Below.refl _ _)
         refine wpAnyH_ready (rs:= [14]) (by kernel_rfl) (by simp) ?_
         refine AllReadyH.cons rfl (fun K hK=>?_) AllReadyH.nil
         go_simp
         refine hK.out _ _ (HKP.out _ (below_set6 HBV4.out b28 hsz (.int .i64 ut) (.int .i64 un) (.int .i64 uk) (.slice ua uS.length uc) (.slice uka uK.length ukc) (.slice uma uM.length umc))) (fun hHeld=>?_)
         clear hK K
         try simp only[Act.put,getElem_toArray,getElem_cons_succ,getElem_cons_zero,setIfInBounds_toArray,set_cons_zero,set_cons_succ]
         refine wpAnyH_ready (rs:= [15]) (by kernel_rfl) (by simp) ?_
         refine AllReadyH.cons rfl (fun K hK=>?_) AllReadyH.nil
         go_simp
         refine hK.out _ _ (HKP.out _ (set4k (below_set6 HBV4.out b28 hsz (.int .i64 ut) (.int .i64 un) (.int .i64 uk) (.slice ua uS.length uc) (.slice uka uK.length ukc) (.slice uma uM.length umc)) b44 hsz2 (.int .i64 dc) (.int .i64 dn) (.int .i64 da) (.slice ra dh.length rp))) (fun hHeld=>?_)
         clear hK K
         try simp only[Act.put,getElem_toArray,getElem_cons_succ,getElem_cons_zero,setIfInBounds_toArray,set_cons_zero,set_cons_succ]
         refine wpAnyH_take (i:=16) (v:=?_) rfl (by kernel_rfl) (by kernel_rfl) (by kernel_rfl) (fun _ _ _ h=>h) (Or.inl ⟨by rfl,?_⟩) (by assumption) ?_
         rotate_left
         ·intro w hSw;(try dsimp only at hSw);go_simp<;>with_reducible rfl
         try simp only[Act.put,getElem_toArray,getElem_cons_succ,getElem_cons_zero,setIfInBounds_toArray,set_cons_zero,set_cons_succ]
         refine wpAnyH_done (by kernel_rfl) ?_ _
         have HFE:=hid (((HFU.out.later (below_set6 HBV3V4.out b28 (by have:=HSb28.out;have:=((Below.refl V3.heap.size V3):Below _ _ V3).size;omega) (.int .i64 ut) (.int .i64 un) (.int .i64 uk) (.slice ua uS.length uc) (.slice uka uK.length ukc) (.slice uma uM.length umc)))).set4 (show b44<V2.heap.size by have:=HS1b44.out;have:=((Below.refl V2.heap.size V2):Below _ _ V2).size;omega) (.int .i64 dc) (.int .i64 dn) (.int .i64 da) (.slice ra dh.length rp))
         have HBE:=hid (set4k (below_set6 HBV4.out b28 hsz (.int .i64 ut) (.int .i64 un) (.int .i64 uk) (.slice ua uS.length uc) (.slice uka uK.length ukc) (.slice uma uM.length umc)) b44 hsz2 (.int .i64 dc) (.int .i64 dn) (.int .i64 da) (.slice ra dh.length rp))
         have HUE:=hid (((HNb28.out V4 (Below.refl V4.heap.size V4)).put ut un uk uS ua uc uK uka ukc uM uma umc).other4 hne2 (.int .i64 dc) (.int .i64 dn) (.int .i64 da) (.slice ra dh.length rp))
         have HSA:=hid (show wz.heap.size<=V2.heap.size from HBV2.out.size)
         have HFX:=hid ((HFC.out.later HBE.out).trans (HFE.out.lower (Nat.le_trans hszc HSA.out)))
         have HCX:=hid (boxP_put ((HNb44.out V4 (step HBV2V3.out HBV3V4.out)).other6 hne (.int .i64 ut) (.int .i64 un) (.int .i64 uk) (.slice ua uS.length uc) (.slice uka uK.length ukc) (.slice uma uM.length umc)) ⟨dc,dn,da,dh⟩ (.slice ra dh.length rp))
         go_wp2
         go_meet
         case rel=>exact⟨b28,b44,⟨ut,un,uk,uS,ua,uc,uK,uka,ukc,uM,uma,umc⟩,rfl,rfl,Nat.le_trans hszc HBE.out.size,HUE,HFX,HVU,HCX,HBE⟩
       ·skip
        go_simp
        obtain⟨V3,hV3⟩: ∃V3,V3=V2.alloc (.cells #[.int .i64 0,.int .i64 0,.int .i64 0,.slice none 0 0,.slice none 0 0,.slice none 0 0] 28):=⟨_,rfl⟩
        have hb:Below V2.heap.size V2 V3:=by rw[hV3];exact newAlloc _ _
        have hn:BoxS V3 V2.heap.size zeroC10:=by rw[hV3];exact BoxS.new V2 zeroC10 _
        have hsb28:V3.heap.size=V2.heap.size+1:=by rw[hV3];simp
        rw[<-hV3]
        obtain⟨b28,hb28⟩: ∃b28,V2.heap.size=b28:=⟨_,rfl⟩
        rw[hb28] at hn hsb28 ⊢
        have HNb28:Hid (∀W,Below V3.heap.size V3 W->BoxS W b28 zeroC10):=hid fun W hw=>hn.later hw
        have HBV2V3:=hid hb
        have HBV3:Hid (Below wz.heap.size wz V3):=hid (step HBV2.out hb)
        have HSb28:=hid hb28
        have HS1b28:=hid hsb28
        clear hV3 hb hn hb28 hsb28
        refine hK.out _ _ (HKP.out _ HBV3.out) (fun hHeld=>?_)
        clear hK K
        try simp only[Act.put,getElem_toArray,getElem_cons_succ,getElem_cons_zero,setIfInBounds_toArray,set_cons_zero,set_cons_succ]
        refine wpAnyH_ready (rs:= [7]) (by kernel_rfl) (by simp) ?_
        refine AllReadyH.cons rfl (fun K hK=>?_) AllReadyH.nil
        ·skip
         go_simp
         go_at_call 23
         refine(KA.out V3 HBV3.out).mono ?_
         rintro e V4 ⟨⟨ut,un,uk,uS,ua,uc,uK,uka,ukc,uM,uma,umc⟩,ra,rp,he,hv,hf,hr,hb⟩
         unfold stVal at he
         simp only[StC.sv,StC.kv,StC.mv] at he
         subst he
         have HVU:=hid hv
         have HFU:=hid hf
         have HRU:=hid hr
         have HBV3V4:=hid hb
         have HBV4:Hid (Below wz.heap.size wz V4):=hid (step HBV3.out hb)
         clear hv hf hr hb
         refine hK.out _ _ (HKP.out _ HBV4.out) (fun hHeld=>?_)
         clear hK K
         try simp only[Act.put,getElem_toArray,getElem_cons_succ,getElem_cons_zero,setIfInBounds_toArray,set_cons_zero,set_cons_succ]
         refine wpAnyH_take (i:=8) (v:=?_) rfl (by kernel_rfl) (by kernel_rfl) (by kernel_rfl) (fun _ _ _ h=>h) (Or.inl ⟨by rfl,?_⟩) (by assumption) ?_
         rotate_left
         ·intro w hSw;(try dsimp only at hSw);go_simp<;>with_reducible rfl
         try simp only[Act.put,getElem_toArray,getElem_cons_succ,getElem_cons_zero,setIfInBounds_toArray,set_cons_zero,set_cons_succ]
         refine wpAnyH_take (i:=9) (v:=?_) rfl (by kernel_rfl) (by kernel_rfl) (by kernel_rfl) (fun _ _ _ h=>h) (Or.inl ⟨by rfl,?_⟩) (by assumption) ?_
         rotate_left
         ·intro w hSw;(try dsimp only at hSw);go_simp<;>with_reducible rfl
         try simp only[Act.put,getElem_toArray,getElem_cons_succ,getElem_cons_zero,setIfInBounds_toArray,set_cons_zero,set_cons_succ]
         refine wpAnyH_take (i:=10) (v:=?_) rfl (by kernel_rfl) (by kernel_rfl) (by kernel_rfl) (fun _ _ _ h=>h) (Or.inl ⟨by rfl,?_⟩) (by assumption) ?_
         rotate_left
         ·intro w hSw;(try dsimp only at hSw);go_simp<;>with_reducible rfl
         try simp only[Act.put,getElem_toArray,getElem_cons_succ,getElem_cons_zero,setIfInBounds_toArray,set_cons_zero,set_cons_succ]
         refine wpAnyH_take (i:=11) (v:=?_) rfl (by kernel_rfl) (by kernel_rfl) (by kernel_rfl) (fun _ _ _ h=>h) (Or.inl ⟨by rfl,?_⟩) (by assumption) ?_
         rotate_left
         ·intro w hSw;(try dsimp only at hSw);go_simp<;>with_reducible rfl
         try simp only[Act.put,getElem_toArray,getElem_cons_succ,getElem_cons_zero,setIfInBounds_toArray,set_cons_zero,set_cons_succ]
         have hsz:wz.heap.size<=b28:=by have:=HSb28.out;have:=HBV2.out.size;omega
         have hsz2:wz.heap.size<=b44:=by have:=HSb44.out;have:=HBV1.out.size;omega
         have hne:b28≠b44:=by have:=HSb28.out;have:=HS1b44.out;have:=((Below.refl V2.heap.size V2):Below _ _ V2).size;omega
         have hne2:b44≠b28:=fun q=>hne q.symm
         have hX1:=HNb28.out V4 HBV3V4.out
         have hR1:=HNb44.out V4 (step HBV2V3.out HBV3V4.out)
         obtain⟨x0,x1,x2,x3,x4,x5,xf⟩:=hX1
         simp only[zeroC10,StC.sv,StC.kv,StC.mv,List.length_nil] at x0 x1 x2 x3 x4 x5
         obtain⟨⟨y0,y1,y2,y3⟩,yf⟩:=hR1 _ (Below.refl _ _)
         refine wpAnyH_ready (rs:= [14]) (by kernel_rfl) (by simp) ?_
         refine AllReadyH.cons rfl (fun K hK=>?_) AllReadyH.nil
         go_simp
         refine hK.out _ _ (HKP.out _ (below_set6 HBV4.out b28 hsz (.int .i64 ut) (.int .i64 un) (.int .i64 uk) (.slice ua uS.length uc) (.slice uka uK.length ukc) (.slice uma uM.length umc))) (fun hHeld=>?_)
         clear hK K
         try simp only[Act.put,getElem_toArray,getElem_cons_succ,getElem_cons_zero,setIfInBounds_toArray,set_cons_zero,set_cons_succ]
         refine wpAnyH_ready (rs:= [15]) (by kernel_rfl) (by simp) ?_
         refine AllReadyH.cons rfl (fun K hK=>?_) AllReadyH.nil
         go_simp
         refine hK.out _ _ (HKP.out _ (set4k (below_set6 HBV4.out b28 hsz (.int .i64 ut) (.int .i64 un) (.int .i64 uk) (.slice ua uS.length uc) (.slice uka uK.length ukc) (.slice uma uM.length umc)) b44 hsz2 (.int .i64 dc) (.int .i64 dn) (.int .i64 da) (.slice ra dh.length rp))) (fun hHeld=>?_)
         clear hK K
         try simp only[Act.put,getElem_toArray,getElem_cons_succ,getElem_cons_zero,setIfInBounds_toArray,set_cons_zero,set_cons_succ]
         refine wpAnyH_take (i:=16) (v:=?_) rfl (by kernel_rfl) (by kernel_rfl) (by kernel_rfl) (fun _ _ _ h=>h) (Or.inl ⟨by rfl,?_⟩) (by assumption) ?_
         rotate_left
         ·intro w hSw;(try dsimp only at hSw);go_simp<;>with_reducible rfl
         try simp only[Act.put,getElem_toArray,getElem_cons_succ,getElem_cons_zero,setIfInBounds_toArray,set_cons_zero,set_cons_succ]
         refine wpAnyH_done (by kernel_rfl) ?_ _
         have HFE:=hid (((HFU.out).set6 (show b28<V3.heap.size by have:=HS1b28.out;have:=((Below.refl V3.heap.size V3):Below _ _ V3).size;omega) (.int .i64 ut) (.int .i64 un) (.int .i64 uk) (.slice ua uS.length uc) (.slice uka uK.length ukc) (.slice uma uM.length umc)).set4 (show b44<V3.heap.size by have:=HS1b44.out;have:=(HBV2V3.out:Below _ _ V3).size;omega) (.int .i64 dc) (.int .i64 dn) (.int .i64 da) (.slice ra dh.length rp))
         have HBE:=hid (set4k (below_set6 HBV4.out b28 hsz (.int .i64 ut) (.int .i64 un) (.int .i64 uk) (.slice ua uS.length uc) (.slice uka uK.length ukc) (.slice uma uM.length umc)) b44 hsz2 (.int .i64 dc) (.int .i64 dn) (.int .i64 da) (.slice ra dh.length rp))
         have HUE:=hid (((HNb28.out V4 HBV3V4.out).put ut un uk uS ua uc uK uka ukc uM uma umc).other4 hne2 (.int .i64 dc) (.int .i64 dn) (.int .i64 da) (.slice ra dh.length rp))
         have HSA:=hid (show wz.heap.size<=V3.heap.size from HBV3.out.size)
         have HFX:=hid ((HFC.out.later HBE.out).trans (HFE.out.lower (Nat.le_trans hszc HSA.out)))
         have HCX:=hid (boxP_put ((HNb44.out V4 (step HBV2V3.out HBV3V4.out)).other6 hne (.int .i64 ut) (.int .i64 un) (.int .i64 uk) (.slice ua uS.length uc) (.slice uka uK.length ukc) (.slice uma uM.length umc)) ⟨dc,dn,da,dh⟩ (.slice ra dh.length rp))
         go_wp2
         go_meet
         case rel=>exact⟨b28,b44,⟨ut,un,uk,uS,ua,uc,uK,uka,ukc,uM,uma,umc⟩,rfl,rfl,Nat.le_trans hszc HBE.out.size,HUE,HFX,HVU,HCX,HBE⟩
     ·skip
      go_simp
      obtain⟨V1,hV1⟩: ∃V1,V1=V0.alloc (.cells #[.int .i64 0,.int .i64 0,.int .i64 0,.slice none 0 0,.slice none 0 0,.slice none 0 0] 28):=⟨_,rfl⟩
      have hb:Below V0.heap.size V0 V1:=by rw[hV1];exact newAlloc _ _
      have hn:BoxS V1 V0.heap.size zeroC10:=by rw[hV1];exact BoxS.new V0 zeroC10 _
      have hsb28:V1.heap.size=V0.heap.size+1:=by rw[hV1];simp
      rw[<-hV1]
      obtain⟨b28,hb28⟩: ∃b28,V0.heap.size=b28:=⟨_,rfl⟩
      rw[hb28] at hn hsb28 ⊢
      have HNb28:Hid (∀W,Below V1.heap.size V1 W->BoxS W b28 zeroC10):=hid fun W hw=>hn.later hw
      have HBV0V1:=hid hb
      have HBV1:Hid (Below wz.heap.size wz V1):=hid (step HBV0.out hb)
      have HSb28:=hid hb28
      have HS1b28:=hid hsb28
      clear hV1 hb hn hb28 hsb28
      refine hK.out _ _ (HKP.out _ HBV1.out) (fun hHeld=>?_)
      clear hK K
      try simp only[Act.put,getElem_toArray,getElem_cons_succ,getElem_cons_zero,setIfInBounds_toArray,set_cons_zero,set_cons_succ]
      refine wpAnyH_ready (rs:= [6,13]) (by kernel_rfl) (by simp) ?_
      refine AllReadyH.cons rfl (fun K hK=>?_) (AllReadyH.cons rfl (fun K hK=>?_) AllReadyH.nil)
      ·skip
       go_simp
       go_at_call 22
       refine(KQ.out V1 HBV1.out).mono ?_
       rintro e V2 ⟨rfl,hb⟩
       have HBV1V2:=hid hb
       have HBV2:Hid (Below wz.heap.size wz V2):=hid (step HBV1.out hb)
       clear hb
       refine hK.out _ _ (HKP.out _ HBV2.out) (fun hHeld=>?_)
       clear hK K
       try simp only[Act.put,getElem_toArray,getElem_cons_succ,getElem_cons_zero,setIfInBounds_toArray,set_cons_zero,set_cons_succ]
       refine wpAnyH_ready (rs:= [7,13]) (by kernel_rfl) (by simp) ?_
       refine AllReadyH.cons rfl (fun K hK=>?_) (AllReadyH.cons rfl (fun K hK=>?_) AllReadyH.nil)
       ·skip
        go_simp
        go_at_call 23
        refine(KA.out V2 HBV2.out).mono ?_
        rintro e V3 ⟨⟨ut,un,uk,uS,ua,uc,uK,uka,ukc,uM,uma,umc⟩,ra,rp,he,hv,hf,hr,hb⟩
        unfold stVal at he
        simp only[StC.sv,StC.kv,StC.mv] at he
        subst he
        have HVU:=hid hv
        have HFU:=hid hf
        have HRU:=hid hr
        have HBV2V3:=hid hb
        have HBV3:Hid (Below wz.heap.size wz V3):=hid (step HBV2.out hb)
        clear hv hf hr hb
        refine hK.out _ _ (HKP.out _ HBV3.out) (fun hHeld=>?_)
        clear hK K
        try simp only[Act.put,getElem_toArray,getElem_cons_succ,getElem_cons_zero,setIfInBounds_toArray,set_cons_zero,set_cons_succ]
        refine wpAnyH_take (i:=8) (v:=?_) rfl (by kernel_rfl) (by kernel_rfl) (by kernel_rfl) (fun _ _ _ h=>h) (Or.inl ⟨by rfl,?_⟩) (by assumption) ?_
        rotate_left
        ·intro w hSw;(try dsimp only at hSw);go_simp<;>with_reducible rfl
        try simp only[Act.put,getElem_toArray,getElem_cons_succ,getElem_cons_zero,setIfInBounds_toArray,set_cons_zero,set_cons_succ]
        refine wpAnyH_take (i:=9) (v:=?_) rfl (by kernel_rfl) (by kernel_rfl) (by kernel_rfl) (fun _ _ _ h=>h) (Or.inl ⟨by rfl,?_⟩) (by assumption) ?_
        rotate_left
        ·intro w hSw;(try dsimp only at hSw);go_simp<;>with_reducible rfl
        try simp only[Act.put,getElem_toArray,getElem_cons_succ,getElem_cons_zero,setIfInBounds_toArray,set_cons_zero,set_cons_succ]
        refine wpAnyH_take (i:=10) (v:=?_) rfl (by kernel_rfl) (by kernel_rfl) (by kernel_rfl) (fun _ _ _ h=>h) (Or.inl ⟨by rfl,?_⟩) (by assumption) ?_
        rotate_left
        ·intro w hSw;(try dsimp only at hSw);go_simp<;>with_reducible rfl
        try simp only[Act.put,getElem_toArray,getElem_cons_succ,getElem_cons_zero,setIfInBounds_toArray,set_cons_zero,set_cons_succ]
        refine wpAnyH_take (i:=11) (v:=?_) rfl (by kernel_rfl) (by kernel_rfl) (by kernel_rfl) (fun _ _ _ h=>h) (Or.inl ⟨by rfl,?_⟩) (by assumption) ?_
        rotate_left
        ·intro w hSw;(try dsimp only at hSw);go_simp<;>with_reducible rfl
        try simp only[Act.put,getElem_toArray,getElem_cons_succ,getElem_cons_zero,setIfInBounds_toArray,set_cons_zero,set_cons_succ]
        refine wpAnyH_ready (rs:= [13]) (by kernel_rfl) (by simp) ?_
        refine AllReadyH.cons rfl (fun K hK=>?_) AllReadyH.nil
        ·skip
         go_simp
         obtain⟨V4,hV4⟩: ∃V4,V4=V3.alloc (.cells #[.int .i64 0,.int .i64 0,.int .i64 0,.slice none 0 0] 44):=⟨_,rfl⟩
         have hb:Below V3.heap.size V3 V4:=by rw[hV4];exact newAlloc _ _
         have hn:EmptyR V4 V3.heap.size:=by rw[hV4];exact EmptyR.new V3
         have hsb44:V4.heap.size=V3.heap.size+1:=by rw[hV4];simp
         rw[<-hV4]
         obtain⟨b44,hb44⟩: ∃b44,V3.heap.size=b44:=⟨_,rfl⟩
         rw[hb44] at hn hsb44 ⊢
         have HNb44:Hid (∀W,Below V4.heap.size V4 W->EmptyR W b44):=hid fun W hw=>hn.later hw
         have HBV3V4:=hid hb
         have HBV4:Hid (Below wz.heap.size wz V4):=hid (step HBV3.out hb)
         have HSb44:=hid hb44
         have HS1b44:=hid hsb44
         clear hV4 hb hn hb44 hsb44
         refine hK.out _ _ (HKP.out _ HBV4.out) (fun hHeld=>?_)
         clear hK K
         try simp only[Act.put,getElem_toArray,getElem_cons_succ,getElem_cons_zero,setIfInBounds_toArray,set_cons_zero,set_cons_succ]
         have hsz:wz.heap.size<=b28:=by have:=HSb28.out;have:=HBV0.out.size;omega
         have hsz2:wz.heap.size<=b44:=by have:=HSb44.out;have:=HBV3.out.size;omega
         have hne:b28≠b44:=by have:=HSb44.out;have:=HS1b28.out;have:=((step HBV1V2.out HBV2V3.out):Below _ _ V3).size;omega
         have hne2:b44≠b28:=fun q=>hne q.symm
         have hX1:=HNb28.out V4 (step (step HBV1V2.out HBV2V3.out) HBV3V4.out)
         have hR1:=HNb44.out V4 (Below.refl V4.heap.size V4)
         obtain⟨x0,x1,x2,x3,x4,x5,xf⟩:=hX1
         simp only[zeroC10,StC.sv,StC.kv,StC.mv,List.length_nil] at x0 x1 x2 x3 x4 x5
         obtain⟨⟨y0,y1,y2,y3⟩,yf⟩:=hR1 _ (Below.refl _ _)
         refine wpAnyH_ready (rs:= [14]) (by kernel_rfl) (by simp) ?_
         refine AllReadyH.cons rfl (fun K hK=>?_) AllReadyH.nil
         go_simp
         refine hK.out _ _ (HKP.out _ (below_set6 HBV4.out b28 hsz (.int .i64 ut) (.int .i64 un) (.int .i64 uk) (.slice ua uS.length uc) (.slice uka uK.length ukc) (.slice uma uM.length umc))) (fun hHeld=>?_)
         clear hK K
         try simp only[Act.put,getElem_toArray,getElem_cons_succ,getElem_cons_zero,setIfInBounds_toArray,set_cons_zero,set_cons_succ]
         refine wpAnyH_ready (rs:= [15]) (by kernel_rfl) (by simp) ?_
         refine AllReadyH.cons rfl (fun K hK=>?_) AllReadyH.nil
         go_simp
         refine hK.out _ _ (HKP.out _ (set4k (below_set6 HBV4.out b28 hsz (.int .i64 ut) (.int .i64 un) (.int .i64 uk) (.slice ua uS.length uc) (.slice uka uK.length ukc) (.slice uma uM.length umc)) b44 hsz2 (.int .i64 dc) (.int .i64 dn) (.int .i64 da) (.slice ra dh.length rp))) (fun hHeld=>?_)
         clear hK K
         try simp only[Act.put,getElem_toArray,getElem_cons_succ,getElem_cons_zero,setIfInBounds_toArray,set_cons_zero,set_cons_succ]
         refine wpAnyH_take (i:=16) (v:=?_) rfl (by kernel_rfl) (by kernel_rfl) (by kernel_rfl) (fun _ _ _ h=>h) (Or.inl ⟨by rfl,?_⟩) (by assumption) ?_
         rotate_left
         ·intro w hSw;(try dsimp only at hSw);go_simp<;>with_reducible rfl
         try simp only[Act.put,getElem_toArray,getElem_cons_succ,getElem_cons_zero,setIfInBounds_toArray,set_cons_zero,set_cons_succ]
         refine wpAnyH_done (by kernel_rfl) ?_ _
         have HFE:=hid (fromS_mix HFU.out HBV3V4.out (show b28<V2.heap.size by have:=HS1b28.out;have:=(HBV1V2.out:Below _ _ V2).size;omega) (show V3.heap.size<=b44 by have:=HSb44.out;have:=((Below.refl V3.heap.size V3):Below _ _ V3).size;omega) (.int .i64 ut) (.int .i64 un) (.int .i64 uk) (.slice ua uS.length uc) (.slice uka uK.length ukc) (.slice uma uM.length umc) (.int .i64 dc) (.int .i64 dn) (.int .i64 da) (.slice ra dh.length rp))
         have HBE:=hid (set4k (below_set6 HBV4.out b28 hsz (.int .i64 ut) (.int .i64 un) (.int .i64 uk) (.slice ua uS.length uc) (.slice uka uK.length ukc) (.slice uma uM.length umc)) b44 hsz2 (.int .i64 dc) (.int .i64 dn) (.int .i64 da) (.slice ra dh.length rp))
         have HUE:=hid (((HNb28.out V4 (step (step HBV1V2.out HBV2V3.out) HBV3V4.out)).put ut un uk uS ua uc uK uka ukc uM uma umc).other4 hne2 (.int .i64 dc) (.int .i64 dn) (.int .i64 da) (.slice ra dh.length rp))
         have HSA:=hid (show wz.heap.size<=V2.heap.size from HBV2.out.size)
         have HFX:=hid ((HFC.out.later HBE.out).trans (HFE.out.lower (Nat.le_trans hszc HSA.out)))
         have HCX:=hid (boxP_put ((HNb44.out V4 (Below.refl V4.heap.size V4)).other6 hne (.int .i64 ut) (.int .i64 un) (.int .i64 uk) (.slice ua uS.length uc) (.slice uka uK.length ukc) (.slice uma uM.length umc)) ⟨dc,dn,da,dh⟩ (.slice ra dh.length rp))
         go_wp2
         go_meet
         case rel=>exact⟨b28,b44,⟨ut,un,uk,uS,ua,uc,uK,uka,ukc,uM,uma,umc⟩,rfl,rfl,Nat.le_trans hszc HBE.out.size,HUE,HFX,HVU,HCX,HBE⟩
       ·skip
        go_simp
        obtain⟨V3,hV3⟩: ∃V3,V3=V2.alloc (.cells #[.int .i64 0,.int .i64 0,.int .i64 0,.slice none 0 0] 44):=⟨_,rfl⟩
        have hb:Below V2.heap.size V2 V3:=by rw[hV3];exact newAlloc _ _
        have hn:EmptyR V3 V2.heap.size:=by rw[hV3];exact EmptyR.new V2
        have hsb44:V3.heap.size=V2.heap.size+1:=by rw[hV3];simp
        rw[<-hV3]
        obtain⟨b44,hb44⟩: ∃b44,V2.heap.size=b44:=⟨_,rfl⟩
        rw[hb44] at hn hsb44 ⊢
        have HNb44:Hid (∀W,Below V3.heap.size V3 W->EmptyR W b44):=hid fun W hw=>hn.later hw
        have HBV2V3:=hid hb
        have HBV3:Hid (Below wz.heap.size wz V3):=hid (step HBV2.out hb)
        have HSb44:=hid hb44
        have HS1b44:=hid hsb44
        clear hV3 hb hn hb44 hsb44
        refine hK.out _ _ (HKP.out _ HBV3.out) (fun hHeld=>?_)
        clear hK K
        try simp only[Act.put,getElem_toArray,getElem_cons_succ,getElem_cons_zero,setIfInBounds_toArray,set_cons_zero,set_cons_succ]
        refine wpAnyH_ready (rs:= [7]) (by kernel_rfl) (by simp) ?_
        refine AllReadyH.cons rfl (fun K hK=>?_) AllReadyH.nil
        ·skip
         go_simp
         go_at_call 23
         refine(KA.out V3 HBV3.out).mono ?_
         rintro e V4 ⟨⟨ut,un,uk,uS,ua,uc,uK,uka,ukc,uM,uma,umc⟩,ra,rp,he,hv,hf,hr,hb⟩
         unfold stVal at he
         simp only[StC.sv,StC.kv,StC.mv] at he
         subst he
         have HVU:=hid hv
         have HFU:=hid hf
         have HRU:=hid hr
         have HBV3V4:=hid hb
         have HBV4:Hid (Below wz.heap.size wz V4):=hid (step HBV3.out hb)
         clear hv hf hr hb
         refine hK.out _ _ (HKP.out _ HBV4.out) (fun hHeld=>?_)
         clear hK K
         try simp only[Act.put,getElem_toArray,getElem_cons_succ,getElem_cons_zero,setIfInBounds_toArray,set_cons_zero,set_cons_succ]
         refine wpAnyH_take (i:=8) (v:=?_) rfl (by kernel_rfl) (by kernel_rfl) (by kernel_rfl) (fun _ _ _ h=>h) (Or.inl ⟨by rfl,?_⟩) (by assumption) ?_
         rotate_left
         ·intro w hSw;(try dsimp only at hSw);go_simp<;>with_reducible rfl
         try simp only[Act.put,getElem_toArray,getElem_cons_succ,getElem_cons_zero,setIfInBounds_toArray,set_cons_zero,set_cons_succ]
         refine wpAnyH_take (i:=9) (v:=?_) rfl (by kernel_rfl) (by kernel_rfl) (by kernel_rfl) (fun _ _ _ h=>h) (Or.inl ⟨by rfl,?_⟩) (by assumption) ?_
         rotate_left
         ·intro w hSw;(try dsimp only at hSw);go_simp<;>with_reducible rfl
         try simp only[Act.put,getElem_toArray,getElem_cons_succ,getElem_cons_zero,setIfInBounds_toArray,set_cons_zero,set_cons_succ]
         refine wpAnyH_take (i:=10) (v:=?_) rfl (by kernel_rfl) (by kernel_rfl) (by kernel_rfl) (fun _ _ _ h=>h) (Or.inl ⟨by rfl,?_⟩) (by assumption) ?_
         rotate_left
         ·intro w hSw;(try dsimp only at hSw);go_simp<;>with_reducible rfl
         try simp only[Act.put,getElem_toArray,getElem_cons_succ,getElem_cons_zero,setIfInBounds_toArray,set_cons_zero,set_cons_succ]
         refine wpAnyH_take (i:=11) (v:=?_) rfl (by kernel_rfl) (by kernel_rfl) (by kernel_rfl) (fun _ _ _ h=>h) (Or.inl ⟨by rfl,?_⟩) (by assumption) ?_
         rotate_left
         ·intro w hSw;(try dsimp only at hSw);go_simp<;>with_reducible rfl
         try simp only[Act.put,getElem_toArray,getElem_cons_succ,getElem_cons_zero,setIfInBounds_toArray,set_cons_zero,set_cons_succ]
         have hsz:wz.heap.size<=b28:=by have:=HSb28.out;have:=HBV0.out.size;omega
         have hsz2:wz.heap.size<=b44:=by have:=HSb44.out;have:=HBV2.out.size;omega
         have hne:b28≠b44:=by have:=HSb44.out;have:=HS1b28.out;have:=(HBV1V2.out:Below _ _ V2).size;omega
         have hne2:b44≠b28:=fun q=>hne q.symm
         have hX1:=HNb28.out V4 (step (step HBV1V2.out HBV2V3.out) HBV3V4.out)
         have hR1:=HNb44.out V4 HBV3V4.out
         obtain⟨x0,x1,x2,x3,x4,x5,xf⟩:=hX1
         simp only[zeroC10,StC.sv,StC.kv,StC.mv,List.length_nil] at x0 x1 x2 x3 x4 x5
         obtain⟨⟨y0,y1,y2,y3⟩,yf⟩:=hR1 _ (Below.refl _ _)
         refine wpAnyH_ready (rs:= [14]) (by kernel_rfl) (by simp) ?_
         refine AllReadyH.cons rfl (fun K hK=>?_) AllReadyH.nil
         go_simp
         refine hK.out _ _ (HKP.out _ (below_set6 HBV4.out b28 hsz (.int .i64 ut) (.int .i64 un) (.int .i64 uk) (.slice ua uS.length uc) (.slice uka uK.length ukc) (.slice uma uM.length umc))) (fun hHeld=>?_)
         clear hK K
         try simp only[Act.put,getElem_toArray,getElem_cons_succ,getElem_cons_zero,setIfInBounds_toArray,set_cons_zero,set_cons_succ]
         refine wpAnyH_ready (rs:= [15]) (by kernel_rfl) (by simp) ?_
         refine AllReadyH.cons rfl (fun K hK=>?_) AllReadyH.nil
         go_simp
         refine hK.out _ _ (HKP.out _ (set4k (below_set6 HBV4.out b28 hsz (.int .i64 ut) (.int .i64 un) (.int .i64 uk) (.slice ua uS.length uc) (.slice uka uK.length ukc) (.slice uma uM.length umc)) b44 hsz2 (.int .i64 dc) (.int .i64 dn) (.int .i64 da) (.slice ra dh.length rp))) (fun hHeld=>?_)
         clear hK K
         try simp only[Act.put,getElem_toArray,getElem_cons_succ,getElem_cons_zero,setIfInBounds_toArray,set_cons_zero,set_cons_succ]
         refine wpAnyH_take (i:=16) (v:=?_) rfl (by kernel_rfl) (by kernel_rfl) (by kernel_rfl) (fun _ _ _ h=>h) (Or.inl ⟨by rfl,?_⟩) (by assumption) ?_
         rotate_left
         ·intro w hSw;(try dsimp only at hSw);go_simp<;>with_reducible rfl
         try simp only[Act.put,getElem_toArray,getElem_cons_succ,getElem_cons_zero,setIfInBounds_toArray,set_cons_zero,set_cons_succ]
         refine wpAnyH_done (by kernel_rfl) ?_ _
         have HFE:=hid (((HFU.out).set6 (show b28<V3.heap.size by have:=HS1b28.out;have:=((step HBV1V2.out HBV2V3.out):Below _ _ V3).size;omega) (.int .i64 ut) (.int .i64 un) (.int .i64 uk) (.slice ua uS.length uc) (.slice uka uK.length ukc) (.slice uma uM.length umc)).set4 (show b44<V3.heap.size by have:=HS1b44.out;have:=((Below.refl V3.heap.size V3):Below _ _ V3).size;omega) (.int .i64 dc) (.int .i64 dn) (.int .i64 da) (.slice ra dh.length rp))
         have HBE:=hid (set4k (below_set6 HBV4.out b28 hsz (.int .i64 ut) (.int .i64 un) (.int .i64 uk) (.slice ua uS.length uc) (.slice uka uK.length ukc) (.slice uma uM.length umc)) b44 hsz2 (.int .i64 dc) (.int .i64 dn) (.int .i64 da) (.slice ra dh.length rp))
         have HUE:=hid (((HNb28.out V4 (step (step HBV1V2.out HBV2V3.out) HBV3V4.out)).put ut un uk uS ua uc uK uka ukc uM uma umc).other4 hne2 (.int .i64 dc) (.int .i64 dn) (.int .i64 da) (.slice ra dh.length rp))
         have HSA:=hid (show wz.heap.size<=V3.heap.size from HBV3.out.size)
         have HFX:=hid ((HFC.out.later HBE.out).trans (HFE.out.lower (Nat.le_trans hszc HSA.out)))
         have HCX:=hid (boxP_put ((HNb44.out V4 HBV3V4.out).other6 hne (.int .i64 ut) (.int .i64 un) (.int .i64 uk) (.slice ua uS.length uc) (.slice uka uK.length ukc) (.slice uma uM.length umc)) ⟨dc,dn,da,dh⟩ (.slice ra dh.length rp))
         go_wp2
         go_meet
         case rel=>exact⟨b28,b44,⟨ut,un,uk,uS,ua,uc,uK,uka,ukc,uM,uma,umc⟩,rfl,rfl,Nat.le_trans hszc HBE.out.size,HUE,HFX,HVU,HCX,HBE⟩
      ·skip
       go_simp
       obtain⟨V2,hV2⟩: ∃V2,V2=V1.alloc (.cells #[.int .i64 0,.int .i64 0,.int .i64 0,.slice none 0 0] 44):=⟨_,rfl⟩
       have hb:Below V1.heap.size V1 V2:=by rw[hV2];exact newAlloc _ _
       have hn:EmptyR V2 V1.heap.size:=by rw[hV2];exact EmptyR.new V1
       have hsb44:V2.heap.size=V1.heap.size+1:=by rw[hV2];simp
       rw[<-hV2]
       obtain⟨b44,hb44⟩: ∃b44,V1.heap.size=b44:=⟨_,rfl⟩
       rw[hb44] at hn hsb44 ⊢
       have HNb44:Hid (∀W,Below V2.heap.size V2 W->EmptyR W b44):=hid fun W hw=>hn.later hw
       have HBV1V2:=hid hb
       have HBV2:Hid (Below wz.heap.size wz V2):=hid (step HBV1.out hb)
       have HSb44:=hid hb44
       have HS1b44:=hid hsb44
       clear hV2 hb hn hb44 hsb44
       refine hK.out _ _ (HKP.out _ HBV2.out) (fun hHeld=>?_)
       clear hK K
       try simp only[Act.put,getElem_toArray,getElem_cons_succ,getElem_cons_zero,setIfInBounds_toArray,set_cons_zero,set_cons_succ]
       refine wpAnyH_ready (rs:= [6]) (by kernel_rfl) (by simp) ?_
       refine AllReadyH.cons rfl (fun K hK=>?_) AllReadyH.nil
       ·skip
        go_simp
        go_at_call 22
        refine(KQ.out V2 HBV2.out).mono ?_
        rintro e V3 ⟨rfl,hb⟩
        have HBV2V3:=hid hb
        have HBV3:Hid (Below wz.heap.size wz V3):=hid (step HBV2.out hb)
        clear hb
        refine hK.out _ _ (HKP.out _ HBV3.out) (fun hHeld=>?_)
        clear hK K
        try simp only[Act.put,getElem_toArray,getElem_cons_succ,getElem_cons_zero,setIfInBounds_toArray,set_cons_zero,set_cons_succ]
        refine wpAnyH_ready (rs:= [7]) (by kernel_rfl) (by simp) ?_
        refine AllReadyH.cons rfl (fun K hK=>?_) AllReadyH.nil
        ·skip
         go_simp
         go_at_call 23
         refine(KA.out V3 HBV3.out).mono ?_
         rintro e V4 ⟨⟨ut,un,uk,uS,ua,uc,uK,uka,ukc,uM,uma,umc⟩,ra,rp,he,hv,hf,hr,hb⟩
         unfold stVal at he
         simp only[StC.sv,StC.kv,StC.mv] at he
         subst he
         have HVU:=hid hv
         have HFU:=hid hf
         have HRU:=hid hr
         have HBV3V4:=hid hb
         have HBV4:Hid (Below wz.heap.size wz V4):=hid (step HBV3.out hb)
         clear hv hf hr hb
         refine hK.out _ _ (HKP.out _ HBV4.out) (fun hHeld=>?_)
         clear hK K
         try simp only[Act.put,getElem_toArray,getElem_cons_succ,getElem_cons_zero,setIfInBounds_toArray,set_cons_zero,set_cons_succ]
         refine wpAnyH_take (i:=8) (v:=?_) rfl (by kernel_rfl) (by kernel_rfl) (by kernel_rfl) (fun _ _ _ h=>h) (Or.inl ⟨by rfl,?_⟩) (by assumption) ?_
         rotate_left
         ·intro w hSw;(try dsimp only at hSw);go_simp<;>with_reducible rfl
         try simp only[Act.put,getElem_toArray,getElem_cons_succ,getElem_cons_zero,setIfInBounds_toArray,set_cons_zero,set_cons_succ]
         refine wpAnyH_take (i:=9) (v:=?_) rfl (by kernel_rfl) (by kernel_rfl) (by kernel_rfl) (fun _ _ _ h=>h) (Or.inl ⟨by rfl,?_⟩) (by assumption) ?_
         rotate_left
         ·intro w hSw;(try dsimp only at hSw);go_simp<;>with_reducible rfl
         try simp only[Act.put,getElem_toArray,getElem_cons_succ,getElem_cons_zero,setIfInBounds_toArray,set_cons_zero,set_cons_succ]
         refine wpAnyH_take (i:=10) (v:=?_) rfl (by kernel_rfl) (by kernel_rfl) (by kernel_rfl) (fun _ _ _ h=>h) (Or.inl ⟨by rfl,?_⟩) (by assumption) ?_
         rotate_left
         ·intro w hSw;(try dsimp only at hSw);go_simp<;>with_reducible rfl
         try simp only[Act.put,getElem_toArray,getElem_cons_succ,getElem_cons_zero,setIfInBounds_toArray,set_cons_zero,set_cons_succ]
         refine wpAnyH_take (i:=11) (v:=?_) rfl (by kernel_rfl) (by kernel_rfl) (by kernel_rfl) (fun _ _ _ h=>h) (Or.inl ⟨by rfl,?_⟩) (by assumption) ?_
         rotate_left
         ·intro w hSw;(try dsimp only at hSw);go_simp<;>with_reducible rfl
         try simp only[Act.put,getElem_toArray,getElem_cons_succ,getElem_cons_zero,setIfInBounds_toArray,set_cons_zero,set_cons_succ]
         have hsz:wz.heap.size<=b28:=by have:=HSb28.out;have:=HBV0.out.size;omega
         have hsz2:wz.heap.size<=b44:=by have:=HSb44.out;have:=HBV1.out.size;omega
         have hne:b28≠b44:=by have:=HSb44.out;have:=HS1b28.out;have:=((Below.refl V1.heap.size V1):Below _ _ V1).size;omega
         have hne2:b44≠b28:=fun q=>hne q.symm
         have hX1:=HNb28.out V4 (step (step HBV1V2.out HBV2V3.out) HBV3V4.out)
         have hR1:=HNb44.out V4 (step HBV2V3.out HBV3V4.out)
         obtain⟨x0,x1,x2,x3,x4,x5,xf⟩:=hX1
         simp only[zeroC10,StC.sv,StC.kv,StC.mv,List.length_nil] at x0 x1 x2 x3 x4 x5
         obtain⟨⟨y0,y1,y2,y3⟩,yf⟩:=hR1 _ (Below.refl _ _)
         refine wpAnyH_ready (rs:= [14]) (by kernel_rfl) (by simp) ?_
         refine AllReadyH.cons rfl (fun K hK=>?_) AllReadyH.nil
         go_simp
         refine hK.out _ _ (HKP.out _ (below_set6 HBV4.out b28 hsz (.int .i64 ut) (.int .i64 un) (.int .i64 uk) (.slice ua uS.length uc) (.slice uka uK.length ukc) (.slice uma uM.length umc))) (fun hHeld=>?_)
         clear hK K
         try simp only[Act.put,getElem_toArray,getElem_cons_succ,getElem_cons_zero,setIfInBounds_toArray,set_cons_zero,set_cons_succ]
         refine wpAnyH_ready (rs:= [15]) (by kernel_rfl) (by simp) ?_
         refine AllReadyH.cons rfl (fun K hK=>?_) AllReadyH.nil
         go_simp
         refine hK.out _ _ (HKP.out _ (set4k (below_set6 HBV4.out b28 hsz (.int .i64 ut) (.int .i64 un) (.int .i64 uk) (.slice ua uS.length uc) (.slice uka uK.length ukc) (.slice uma uM.length umc)) b44 hsz2 (.int .i64 dc) (.int .i64 dn) (.int .i64 da) (.slice ra dh.length rp))) (fun hHeld=>?_)
         clear hK K
         try simp only[Act.put,getElem_toArray,getElem_cons_succ,getElem_cons_zero,setIfInBounds_toArray,set_cons_zero,set_cons_succ]
         refine wpAnyH_take (i:=16) (v:=?_) rfl (by kernel_rfl) (by kernel_rfl) (by kernel_rfl) (fun _ _ _ h=>h) (Or.inl ⟨by rfl,?_⟩) (by assumption) ?_
         rotate_left
         ·intro w hSw;(try dsimp only at hSw);go_simp<;>with_reducible rfl
         try simp only[Act.put,getElem_toArray,getElem_cons_succ,getElem_cons_zero,setIfInBounds_toArray,set_cons_zero,set_cons_succ]
         refine wpAnyH_done (by kernel_rfl) ?_ _
         have HFE:=hid (((HFU.out).set6 (show b28<V3.heap.size by have:=HS1b28.out;have:=((step HBV1V2.out HBV2V3.out):Below _ _ V3).size;omega) (.int .i64 ut) (.int .i64 un) (.int .i64 uk) (.slice ua uS.length uc) (.slice uka uK.length ukc) (.slice uma uM.length umc)).set4 (show b44<V3.heap.size by have:=HS1b44.out;have:=(HBV2V3.out:Below _ _ V3).size;omega) (.int .i64 dc) (.int .i64 dn) (.int .i64 da) (.slice ra dh.length rp))
         have HBE:=hid (set4k (below_set6 HBV4.out b28 hsz (.int .i64 ut) (.int .i64 un) (.int .i64 uk) (.slice ua uS.length uc) (.slice uka uK.length ukc) (.slice uma uM.length umc)) b44 hsz2 (.int .i64 dc) (.int .i64 dn) (.int .i64 da) (.slice ra dh.length rp))
         have HUE:=hid (((HNb28.out V4 (step (step HBV1V2.out HBV2V3.out) HBV3V4.out)).put ut un uk uS ua uc uK uka ukc uM uma umc).other4 hne2 (.int .i64 dc) (.int .i64 dn) (.int .i64 da) (.slice ra dh.length rp))
         have HSA:=hid (show wz.heap.size<=V3.heap.size from HBV3.out.size)
         have HFX:=hid ((HFC.out.later HBE.out).trans (HFE.out.lower (Nat.le_trans hszc HSA.out)))
         have HCX:=hid (boxP_put ((HNb44.out V4 (step HBV2V3.out HBV3V4.out)).other6 hne (.int .i64 ut) (.int .i64 un) (.int .i64 uk) (.slice ua uS.length uc) (.slice uka uK.length ukc) (.slice uma uM.length umc)) ⟨dc,dn,da,dh⟩ (.slice ra dh.length rp))
         go_wp2
         go_meet
         case rel=>exact⟨b28,b44,⟨ut,un,uk,uS,ua,uc,uK,uka,ukc,uM,uma,umc⟩,rfl,rfl,Nat.le_trans hszc HBE.out.size,HUE,HFX,HVU,HCX,HBE⟩
     ·skip
      go_simp
      obtain⟨V1,hV1⟩: ∃V1,V1=V0.alloc (.cells #[.int .i64 0,.int .i64 0,.int .i64 0,.slice none 0 0] 44):=⟨_,rfl⟩
      have hb:Below V0.heap.size V0 V1:=by rw[hV1];exact newAlloc _ _
      have hn:EmptyR V1 V0.heap.size:=by rw[hV1];exact EmptyR.new V0
      have hsb44:V1.heap.size=V0.heap.size+1:=by rw[hV1];simp
      rw[<-hV1]
      obtain⟨b44,hb44⟩: ∃b44,V0.heap.size=b44:=⟨_,rfl⟩
      rw[hb44] at hn hsb44 ⊢
      have HNb44:Hid (∀W,Below V1.heap.size V1 W->EmptyR W b44):=hid fun W hw=>hn.later hw
      have HBV0V1:=hid hb
      have HBV1:Hid (Below wz.heap.size wz V1):=hid (step HBV0.out hb)
      have HSb44:=hid hb44
      have HS1b44:=hid hsb44
      clear hV1 hb hn hb44 hsb44
      refine hK.out _ _ (HKP.out _ HBV1.out) (fun hHeld=>?_)
      clear hK K
      try simp only[Act.put,getElem_toArray,getElem_cons_succ,getElem_cons_zero,setIfInBounds_toArray,set_cons_zero,set_cons_succ]
      refine wpAnyH_ready (rs:= [6,12]) (by kernel_rfl) (by simp) ?_
      refine AllReadyH.cons rfl (fun K hK=>?_) (AllReadyH.cons rfl (fun K hK=>?_) AllReadyH.nil)
      ·skip
       go_simp
       go_at_call 22
       refine(KQ.out V1 HBV1.out).mono ?_
       rintro e V2 ⟨rfl,hb⟩
       have HBV1V2:=hid hb
       have HBV2:Hid (Below wz.heap.size wz V2):=hid (step HBV1.out hb)
       clear hb
       refine hK.out _ _ (HKP.out _ HBV2.out) (fun hHeld=>?_)
       clear hK K
       try simp only[Act.put,getElem_toArray,getElem_cons_succ,getElem_cons_zero,setIfInBounds_toArray,set_cons_zero,set_cons_succ]
       refine wpAnyH_ready (rs:= [7,12]) (by kernel_rfl) (by simp) ?_
       refine AllReadyH.cons rfl (fun K hK=>?_) (AllReadyH.cons rfl (fun K hK=>?_) AllReadyH.nil)
       ·skip
        go_simp
        go_at_call 23
        refine(KA.out V2 HBV2.out).mono ?_
        rintro e V3 ⟨⟨ut,un,uk,uS,ua,uc,uK,uka,ukc,uM,uma,umc⟩,ra,rp,he,hv,hf,hr,hb⟩
        unfold stVal at he
        simp only[StC.sv,StC.kv,StC.mv] at he
        subst he
        have HVU:=hid hv
        have HFU:=hid hf
        have HRU:=hid hr
        have HBV2V3:=hid hb
        have HBV3:Hid (Below wz.heap.size wz V3):=hid (step HBV2.out hb)
        clear hv hf hr hb
        refine hK.out _ _ (HKP.out _ HBV3.out) (fun hHeld=>?_)
        clear hK K
        try simp only[Act.put,getElem_toArray,getElem_cons_succ,getElem_cons_zero,setIfInBounds_toArray,set_cons_zero,set_cons_succ]
        refine wpAnyH_take (i:=8) (v:=?_) rfl (by kernel_rfl) (by kernel_rfl) (by kernel_rfl) (fun _ _ _ h=>h) (Or.inl ⟨by rfl,?_⟩) (by assumption) ?_
        rotate_left
        ·intro w hSw;(try dsimp only at hSw);go_simp<;>with_reducible rfl
        try simp only[Act.put,getElem_toArray,getElem_cons_succ,getElem_cons_zero,setIfInBounds_toArray,set_cons_zero,set_cons_succ]
        refine wpAnyH_take (i:=9) (v:=?_) rfl (by kernel_rfl) (by kernel_rfl) (by kernel_rfl) (fun _ _ _ h=>h) (Or.inl ⟨by rfl,?_⟩) (by assumption) ?_
        rotate_left
        ·intro w hSw;(try dsimp only at hSw);go_simp<;>with_reducible rfl
        try simp only[Act.put,getElem_toArray,getElem_cons_succ,getElem_cons_zero,setIfInBounds_toArray,set_cons_zero,set_cons_succ]
        refine wpAnyH_take (i:=10) (v:=?_) rfl (by kernel_rfl) (by kernel_rfl) (by kernel_rfl) (fun _ _ _ h=>h) (Or.inl ⟨by rfl,?_⟩) (by assumption) ?_
        rotate_left
        ·intro w hSw;(try dsimp only at hSw);go_simp<;>with_reducible rfl
        try simp only[Act.put,getElem_toArray,getElem_cons_succ,getElem_cons_zero,setIfInBounds_toArray,set_cons_zero,set_cons_succ]
        refine wpAnyH_take (i:=11) (v:=?_) rfl (by kernel_rfl) (by kernel_rfl) (by kernel_rfl) (fun _ _ _ h=>h) (Or.inl ⟨by rfl,?_⟩) (by assumption) ?_
        rotate_left
        ·intro w hSw;(try dsimp only at hSw);go_simp<;>with_reducible rfl
        try simp only[Act.put,getElem_toArray,getElem_cons_succ,getElem_cons_zero,setIfInBounds_toArray,set_cons_zero,set_cons_succ]
        refine wpAnyH_ready (rs:= [12]) (by kernel_rfl) (by simp) ?_
        refine AllReadyH.cons rfl (fun K hK=>?_) AllReadyH.nil
        ·skip
         go_simp
         obtain⟨V4,hV4⟩: ∃V4,V4=V3.alloc (.cells #[.int .i64 0,.int .i64 0,.int .i64 0,.slice none 0 0,.slice none 0 0,.slice none 0 0] 28):=⟨_,rfl⟩
         have hb:Below V3.heap.size V3 V4:=by rw[hV4];exact newAlloc _ _
         have hn:BoxS V4 V3.heap.size zeroC10:=by rw[hV4];exact BoxS.new V3 zeroC10 _
         have hsb28:V4.heap.size=V3.heap.size+1:=by rw[hV4];simp
         rw[<-hV4]
         obtain⟨b28,hb28⟩: ∃b28,V3.heap.size=b28:=⟨_,rfl⟩
         rw[hb28] at hn hsb28 ⊢
         have HNb28:Hid (∀W,Below V4.heap.size V4 W->BoxS W b28 zeroC10):=hid fun W hw=>hn.later hw
         have HBV3V4:=hid hb
         have HBV4:Hid (Below wz.heap.size wz V4):=hid (step HBV3.out hb)
         have HSb28:=hid hb28
         have HS1b28:=hid hsb28
         clear hV4 hb hn hb28 hsb28
         refine hK.out _ _ (HKP.out _ HBV4.out) (fun hHeld=>?_)
         clear hK K
         try simp only[Act.put,getElem_toArray,getElem_cons_succ,getElem_cons_zero,setIfInBounds_toArray,set_cons_zero,set_cons_succ]
         have hsz:wz.heap.size<=b28:=by have:=HSb28.out;have:=HBV3.out.size;omega
         have hsz2:wz.heap.size<=b44:=by have:=HSb44.out;have:=HBV0.out.size;omega
         have hne:b28≠b44:=by have:=HSb28.out;have:=HS1b44.out;have:=((step HBV1V2.out HBV2V3.out):Below _ _ V3).size;omega
         have hne2:b44≠b28:=fun q=>hne q.symm
         have hX1:=HNb28.out V4 (Below.refl V4.heap.size V4)
         have hR1:=HNb44.out V4 (step (step HBV1V2.out HBV2V3.out) HBV3V4.out)
         obtain⟨x0,x1,x2,x3,x4,x5,xf⟩:=hX1
         simp only[zeroC10,StC.sv,StC.kv,StC.mv,List.length_nil] at x0 x1 x2 x3 x4 x5
         obtain⟨⟨y0,y1,y2,y3⟩,yf⟩:=hR1 _ (Below.refl _ _)
         refine wpAnyH_ready (rs:= [14]) (by kernel_rfl) (by simp) ?_
         refine AllReadyH.cons rfl (fun K hK=>?_) AllReadyH.nil
         go_simp
         refine hK.out _ _ (HKP.out _ (below_set6 HBV4.out b28 hsz (.int .i64 ut) (.int .i64 un) (.int .i64 uk) (.slice ua uS.length uc) (.slice uka uK.length ukc) (.slice uma uM.length umc))) (fun hHeld=>?_)
         clear hK K
         try simp only[Act.put,getElem_toArray,getElem_cons_succ,getElem_cons_zero,setIfInBounds_toArray,set_cons_zero,set_cons_succ]
         refine wpAnyH_ready (rs:= [15]) (by kernel_rfl) (by simp) ?_
         refine AllReadyH.cons rfl (fun K hK=>?_) AllReadyH.nil
         go_simp
         refine hK.out _ _ (HKP.out _ (set4k (below_set6 HBV4.out b28 hsz (.int .i64 ut) (.int .i64 un) (.int .i64 uk) (.slice ua uS.length uc) (.slice uka uK.length ukc) (.slice uma uM.length umc)) b44 hsz2 (.int .i64 dc) (.int .i64 dn) (.int .i64 da) (.slice ra dh.length rp))) (fun hHeld=>?_)
         clear hK K
         try simp only[Act.put,getElem_toArray,getElem_cons_succ,getElem_cons_zero,setIfInBounds_toArray,set_cons_zero,set_cons_succ]
         refine wpAnyH_take (i:=16) (v:=?_) rfl (by kernel_rfl) (by kernel_rfl) (by kernel_rfl) (fun _ _ _ h=>h) (Or.inl ⟨by rfl,?_⟩) (by assumption) ?_
         rotate_left
         ·intro w hSw;(try dsimp only at hSw);go_simp<;>with_reducible rfl
         try simp only[Act.put,getElem_toArray,getElem_cons_succ,getElem_cons_zero,setIfInBounds_toArray,set_cons_zero,set_cons_succ]
         refine wpAnyH_done (by kernel_rfl) ?_ _
         have HFE:=hid (((HFU.out.later (below_set6 HBV3V4.out b28 (by have:=HSb28.out;have:=((Below.refl V3.heap.size V3):Below _ _ V3).size;omega) (.int .i64 ut) (.int .i64 un) (.int .i64 uk) (.slice ua uS.length uc) (.slice uka uK.length ukc) (.slice uma uM.length umc)))).set4 (show b44<V2.heap.size by have:=HS1b44.out;have:=(HBV1V2.out:Below _ _ V2).size;omega) (.int .i64 dc) (.int .i64 dn) (.int .i64 da) (.slice ra dh.length rp))
         have HBE:=hid (set4k (below_set6 HBV4.out b28 hsz (.int .i64 ut) (.int .i64 un) (.int .i64 uk) (.slice ua uS.length uc) (.slice uka uK.length ukc) (.slice uma uM.length umc)) b44 hsz2 (.int .i64 dc) (.int .i64 dn) (.int .i64 da) (.slice ra dh.length rp))
         have HUE:=hid (((HNb28.out V4 (Below.refl V4.heap.size V4)).put ut un uk uS ua uc uK uka ukc uM uma umc).other4 hne2 (.int .i64 dc) (.int .i64 dn) (.int .i64 da) (.slice ra dh.length rp))
         have HSA:=hid (show wz.heap.size<=V2.heap.size from HBV2.out.size)
         have HFX:=hid ((HFC.out.later HBE.out).trans (HFE.out.lower (Nat.le_trans hszc HSA.out)))
         have HCX:=hid (boxP_put ((HNb44.out V4 (step (step HBV1V2.out HBV2V3.out) HBV3V4.out)).other6 hne (.int .i64 ut) (.int .i64 un) (.int .i64 uk) (.slice ua uS.length uc) (.slice uka uK.length ukc) (.slice uma uM.length umc)) ⟨dc,dn,da,dh⟩ (.slice ra dh.length rp))
         go_wp2
         go_meet
         case rel=>exact⟨b28,b44,⟨ut,un,uk,uS,ua,uc,uK,uka,ukc,uM,uma,umc⟩,rfl,rfl,Nat.le_trans hszc HBE.out.size,HUE,HFX,HVU,HCX,HBE⟩
       ·skip
        go_simp
        obtain⟨V3,hV3⟩: ∃V3,V3=V2.alloc (.cells #[.int .i64 0,.int .i64 0,.int .i64 0,.slice none 0 0,.slice none 0 0,.slice none 0 0] 28):=⟨_,rfl⟩
        have hb:Below V2.heap.size V2 V3:=by rw[hV3];exact newAlloc _ _
        have hn:BoxS V3 V2.heap.size zeroC10:=by rw[hV3];exact BoxS.new V2 zeroC10 _
        have hsb28:V3.heap.size=V2.heap.size+1:=by rw[hV3];simp
        rw[<-hV3]
        obtain⟨b28,hb28⟩: ∃b28,V2.heap.size=b28:=⟨_,rfl⟩
        rw[hb28] at hn hsb28 ⊢
        have HNb28:Hid (∀W,Below V3.heap.size V3 W->BoxS W b28 zeroC10):=hid fun W hw=>hn.later hw
        have HBV2V3:=hid hb
        have HBV3:Hid (Below wz.heap.size wz V3):=hid (step HBV2.out hb)
        have HSb28:=hid hb28
        have HS1b28:=hid hsb28
        clear hV3 hb hn hb28 hsb28
        refine hK.out _ _ (HKP.out _ HBV3.out) (fun hHeld=>?_)
        clear hK K
        try simp only[Act.put,getElem_toArray,getElem_cons_succ,getElem_cons_zero,setIfInBounds_toArray,set_cons_zero,set_cons_succ]
        refine wpAnyH_ready (rs:= [7]) (by kernel_rfl) (by simp) ?_
        refine AllReadyH.cons rfl (fun K hK=>?_) AllReadyH.nil
        ·skip
         go_simp
         go_at_call 23
         refine(KA.out V3 HBV3.out).mono ?_
         rintro e V4 ⟨⟨ut,un,uk,uS,ua,uc,uK,uka,ukc,uM,uma,umc⟩,ra,rp,he,hv,hf,hr,hb⟩
         unfold stVal at he
         simp only[StC.sv,StC.kv,StC.mv] at he
         subst he
         have HVU:=hid hv
         have HFU:=hid hf
         have HRU:=hid hr
         have HBV3V4:=hid hb
         have HBV4:Hid (Below wz.heap.size wz V4):=hid (step HBV3.out hb)
         clear hv hf hr hb
         refine hK.out _ _ (HKP.out _ HBV4.out) (fun hHeld=>?_)
         clear hK K
         try simp only[Act.put,getElem_toArray,getElem_cons_succ,getElem_cons_zero,setIfInBounds_toArray,set_cons_zero,set_cons_succ]
         refine wpAnyH_take (i:=8) (v:=?_) rfl (by kernel_rfl) (by kernel_rfl) (by kernel_rfl) (fun _ _ _ h=>h) (Or.inl ⟨by rfl,?_⟩) (by assumption) ?_
         rotate_left
         ·intro w hSw;(try dsimp only at hSw);go_simp<;>with_reducible rfl
         try simp only[Act.put,getElem_toArray,getElem_cons_succ,getElem_cons_zero,setIfInBounds_toArray,set_cons_zero,set_cons_succ]
         refine wpAnyH_take (i:=9) (v:=?_) rfl (by kernel_rfl) (by kernel_rfl) (by kernel_rfl) (fun _ _ _ h=>h) (Or.inl ⟨by rfl,?_⟩) (by assumption) ?_
         rotate_left
         ·intro w hSw;(try dsimp only at hSw);go_simp<;>with_reducible rfl
         try simp only[Act.put,getElem_toArray,getElem_cons_succ,getElem_cons_zero,setIfInBounds_toArray,set_cons_zero,set_cons_succ]
         refine wpAnyH_take (i:=10) (v:=?_) rfl (by kernel_rfl) (by kernel_rfl) (by kernel_rfl) (fun _ _ _ h=>h) (Or.inl ⟨by rfl,?_⟩) (by assumption) ?_
         rotate_left
         ·intro w hSw;(try dsimp only at hSw);go_simp<;>with_reducible rfl
         try simp only[Act.put,getElem_toArray,getElem_cons_succ,getElem_cons_zero,setIfInBounds_toArray,set_cons_zero,set_cons_succ]
         refine wpAnyH_take (i:=11) (v:=?_) rfl (by kernel_rfl) (by kernel_rfl) (by kernel_rfl) (fun _ _ _ h=>h) (Or.inl ⟨by rfl,?_⟩) (by assumption) ?_
         rotate_left
         ·intro w hSw;(try dsimp only at hSw);go_simp<;>with_reducible rfl
         try simp only[Act.put,getElem_toArray,getElem_cons_succ,getElem_cons_zero,setIfInBounds_toArray,set_cons_zero,set_cons_succ]
         have hsz:wz.heap.size<=b28:=by have:=HSb28.out;have:=HBV2.out.size;omega
         have hsz2:wz.heap.size<=b44:=by have:=HSb44.out;have:=HBV0.out.size;omega
         have hne:b28≠b44:=by have:=HSb28.out;have:=HS1b44.out;have:=(HBV1V2.out:Below _ _ V2).size;omega
         have hne2:b44≠b28:=fun q=>hne q.symm
         have hX1:=HNb28.out V4 HBV3V4.out
         have hR1:=HNb44.out V4 (step (step HBV1V2.out HBV2V3.out) HBV3V4.out)
         obtain⟨x0,x1,x2,x3,x4,x5,xf⟩:=hX1
         simp only[zeroC10,StC.sv,StC.kv,StC.mv,List.length_nil] at x0 x1 x2 x3 x4 x5
         obtain⟨⟨y0,y1,y2,y3⟩,yf⟩:=hR1 _ (Below.refl _ _)
         refine wpAnyH_ready (rs:= [14]) (by kernel_rfl) (by simp) ?_
         refine AllReadyH.cons rfl (fun K hK=>?_) AllReadyH.nil
         go_simp
         refine hK.out _ _ (HKP.out _ (below_set6 HBV4.out b28 hsz (.int .i64 ut) (.int .i64 un) (.int .i64 uk) (.slice ua uS.length uc) (.slice uka uK.length ukc) (.slice uma uM.length umc))) (fun hHeld=>?_)
         clear hK K
         try simp only[Act.put,getElem_toArray,getElem_cons_succ,getElem_cons_zero,setIfInBounds_toArray,set_cons_zero,set_cons_succ]
         refine wpAnyH_ready (rs:= [15]) (by kernel_rfl) (by simp) ?_
         refine AllReadyH.cons rfl (fun K hK=>?_) AllReadyH.nil
         go_simp
         refine hK.out _ _ (HKP.out _ (set4k (below_set6 HBV4.out b28 hsz (.int .i64 ut) (.int .i64 un) (.int .i64 uk) (.slice ua uS.length uc) (.slice uka uK.length ukc) (.slice uma uM.length umc)) b44 hsz2 (.int .i64 dc) (.int .i64 dn) (.int .i64 da) (.slice ra dh.length rp))) (fun hHeld=>?_)
         clear hK K
         try simp only[Act.put,getElem_toArray,getElem_cons_succ,getElem_cons_zero,setIfInBounds_toArray,set_cons_zero,set_cons_succ]
         refine wpAnyH_take (i:=16) (v:=?_) rfl (by kernel_rfl) (by kernel_rfl) (by kernel_rfl) (fun _ _ _ h=>h) (Or.inl ⟨by rfl,?_⟩) (by assumption) ?_
         rotate_left
         ·intro w hSw;(try dsimp only at hSw);go_simp<;>with_reducible rfl
         try simp only[Act.put,getElem_toArray,getElem_cons_succ,getElem_cons_zero,setIfInBounds_toArray,set_cons_zero,set_cons_succ]
         refine wpAnyH_done (by kernel_rfl) ?_ _
         have HFE:=hid (((HFU.out).set6 (show b28<V3.heap.size by have:=HS1b28.out;have:=((Below.refl V3.heap.size V3):Below _ _ V3).size;omega) (.int .i64 ut) (.int .i64 un) (.int .i64 uk) (.slice ua uS.length uc) (.slice uka uK.length ukc) (.slice uma uM.length umc)).set4 (show b44<V3.heap.size by have:=HS1b44.out;have:=((step HBV1V2.out HBV2V3.out):Below _ _ V3).size;omega) (.int .i64 dc) (.int .i64 dn) (.int .i64 da) (.slice ra dh.length rp))
         have HBE:=hid (set4k (below_set6 HBV4.out b28 hsz (.int .i64 ut) (.int .i64 un) (.int .i64 uk) (.slice ua uS.length uc) (.slice uka uK.length ukc) (.slice uma uM.length umc)) b44 hsz2 (.int .i64 dc) (.int .i64 dn) (.int .i64 da) (.slice ra dh.length rp))
         have HUE:=hid (((HNb28.out V4 HBV3V4.out).put ut un uk uS ua uc uK uka ukc uM uma umc).other4 hne2 (.int .i64 dc) (.int .i64 dn) (.int .i64 da) (.slice ra dh.length rp))
         have HSA:=hid (show wz.heap.size<=V3.heap.size from HBV3.out.size)
         have HFX:=hid ((HFC.out.later HBE.out).trans (HFE.out.lower (Nat.le_trans hszc HSA.out)))
         have HCX:=hid (boxP_put ((HNb44.out V4 (step (step HBV1V2.out HBV2V3.out) HBV3V4.out)).other6 hne (.int .i64 ut) (.int .i64 un) (.int .i64 uk) (.slice ua uS.length uc) (.slice uka uK.length ukc) (.slice uma uM.length umc)) ⟨dc,dn,da,dh⟩ (.slice ra dh.length rp))
         go_wp2
         go_meet
         case rel=>exact⟨b28,b44,⟨ut,un,uk,uS,ua,uc,uK,uka,ukc,uM,uma,umc⟩,rfl,rfl,Nat.le_trans hszc HBE.out.size,HUE,HFX,HVU,HCX,HBE⟩
      ·skip
       go_simp
       obtain⟨V2,hV2⟩: ∃V2,V2=V1.alloc (.cells #[.int .i64 0,.int .i64 0,.int .i64 0,.slice none 0 0,.slice none 0 0,.slice none 0 0] 28):=⟨_,rfl⟩
       have hb:Below V1.heap.size V1 V2:=by rw[hV2];exact newAlloc _ _
       have hn:BoxS V2 V1.heap.size zeroC10:=by rw[hV2];exact BoxS.new V1 zeroC10 _
       have hsb28:V2.heap.size=V1.heap.size+1:=by rw[hV2];simp
       rw[<-hV2]
       obtain⟨b28,hb28⟩: ∃b28,V1.heap.size=b28:=⟨_,rfl⟩
       rw[hb28] at hn hsb28 ⊢
       have HNb28:Hid (∀W,Below V2.heap.size V2 W->BoxS W b28 zeroC10):=hid fun W hw=>hn.later hw
       have HBV1V2:=hid hb
       have HBV2:Hid (Below wz.heap.size wz V2):=hid (step HBV1.out hb)
       have HSb28:=hid hb28
       have HS1b28:=hid hsb28
       clear hV2 hb hn hb28 hsb28
       refine hK.out _ _ (HKP.out _ HBV2.out) (fun hHeld=>?_)
       clear hK K
       try simp only[Act.put,getElem_toArray,getElem_cons_succ,getElem_cons_zero,setIfInBounds_toArray,set_cons_zero,set_cons_succ]
       refine wpAnyH_ready (rs:= [6]) (by kernel_rfl) (by simp) ?_
       refine AllReadyH.cons rfl (fun K hK=>?_) AllReadyH.nil
       ·skip
        go_simp
        go_at_call 22
        refine(KQ.out V2 HBV2.out).mono ?_
        rintro e V3 ⟨rfl,hb⟩
        have HBV2V3:=hid hb
        have HBV3:Hid (Below wz.heap.size wz V3):=hid (step HBV2.out hb)
        clear hb
        refine hK.out _ _ (HKP.out _ HBV3.out) (fun hHeld=>?_)
        clear hK K
        try simp only[Act.put,getElem_toArray,getElem_cons_succ,getElem_cons_zero,setIfInBounds_toArray,set_cons_zero,set_cons_succ]
        refine wpAnyH_ready (rs:= [7]) (by kernel_rfl) (by simp) ?_
        refine AllReadyH.cons rfl (fun K hK=>?_) AllReadyH.nil
        ·skip
         go_simp
         go_at_call 23
         refine(KA.out V3 HBV3.out).mono ?_
         rintro e V4 ⟨⟨ut,un,uk,uS,ua,uc,uK,uka,ukc,uM,uma,umc⟩,ra,rp,he,hv,hf,hr,hb⟩
         unfold stVal at he
         simp only[StC.sv,StC.kv,StC.mv] at he
         subst he
         have HVU:=hid hv
         have HFU:=hid hf
         have HRU:=hid hr
         have HBV3V4:=hid hb
         have HBV4:Hid (Below wz.heap.size wz V4):=hid (step HBV3.out hb)
         clear hv hf hr hb
         refine hK.out _ _ (HKP.out _ HBV4.out) (fun hHeld=>?_)
         clear hK K
         try simp only[Act.put,getElem_toArray,getElem_cons_succ,getElem_cons_zero,setIfInBounds_toArray,set_cons_zero,set_cons_succ]
         refine wpAnyH_take (i:=8) (v:=?_) rfl (by kernel_rfl) (by kernel_rfl) (by kernel_rfl) (fun _ _ _ h=>h) (Or.inl ⟨by rfl,?_⟩) (by assumption) ?_
         rotate_left
         ·intro w hSw;(try dsimp only at hSw);go_simp<;>with_reducible rfl
         try simp only[Act.put,getElem_toArray,getElem_cons_succ,getElem_cons_zero,setIfInBounds_toArray,set_cons_zero,set_cons_succ]
         refine wpAnyH_take (i:=9) (v:=?_) rfl (by kernel_rfl) (by kernel_rfl) (by kernel_rfl) (fun _ _ _ h=>h) (Or.inl ⟨by rfl,?_⟩) (by assumption) ?_
         rotate_left
         ·intro w hSw;(try dsimp only at hSw);go_simp<;>with_reducible rfl
         try simp only[Act.put,getElem_toArray,getElem_cons_succ,getElem_cons_zero,setIfInBounds_toArray,set_cons_zero,set_cons_succ]
         refine wpAnyH_take (i:=10) (v:=?_) rfl (by kernel_rfl) (by kernel_rfl) (by kernel_rfl) (fun _ _ _ h=>h) (Or.inl ⟨by rfl,?_⟩) (by assumption) ?_
         rotate_left
         ·intro w hSw;(try dsimp only at hSw);go_simp<;>with_reducible rfl
         try simp only[Act.put,getElem_toArray,getElem_cons_succ,getElem_cons_zero,setIfInBounds_toArray,set_cons_zero,set_cons_succ]
         refine wpAnyH_take (i:=11) (v:=?_) rfl (by kernel_rfl) (by kernel_rfl) (by kernel_rfl) (fun _ _ _ h=>h) (Or.inl ⟨by rfl,?_⟩) (by assumption) ?_
         rotate_left
         ·intro w hSw;(try dsimp only at hSw);go_simp<;>with_reducible rfl
         try simp only[Act.put,getElem_toArray,getElem_cons_succ,getElem_cons_zero,setIfInBounds_toArray,set_cons_zero,set_cons_succ]
         have hsz:wz.heap.size<=b28:=by have:=HSb28.out;have:=HBV1.out.size;omega
         have hsz2:wz.heap.size<=b44:=by have:=HSb44.out;have:=HBV0.out.size;omega
         have hne:b28≠b44:=by have:=HSb28.out;have:=HS1b44.out;have:=((Below.refl V1.heap.size V1):Below _ _ V1).size;omega
         have hne2:b44≠b28:=fun q=>hne q.symm
         have hX1:=HNb28.out V4 (step HBV2V3.out HBV3V4.out)
         have hR1:=HNb44.out V4 (step (step HBV1V2.out HBV2V3.out) HBV3V4.out)
         obtain⟨x0,x1,x2,x3,x4,x5,xf⟩:=hX1
         simp only[zeroC10,StC.sv,StC.kv,StC.mv,List.length_nil] at x0 x1 x2 x3 x4 x5
         obtain⟨⟨y0,y1,y2,y3⟩,yf⟩:=hR1 _ (Below.refl _ _)
         refine wpAnyH_ready (rs:= [14]) (by kernel_rfl) (by simp) ?_
         refine AllReadyH.cons rfl (fun K hK=>?_) AllReadyH.nil
         go_simp
         refine hK.out _ _ (HKP.out _ (below_set6 HBV4.out b28 hsz (.int .i64 ut) (.int .i64 un) (.int .i64 uk) (.slice ua uS.length uc) (.slice uka uK.length ukc) (.slice uma uM.length umc))) (fun hHeld=>?_)
         clear hK K
         try simp only[Act.put,getElem_toArray,getElem_cons_succ,getElem_cons_zero,setIfInBounds_toArray,set_cons_zero,set_cons_succ]
         refine wpAnyH_ready (rs:= [15]) (by kernel_rfl) (by simp) ?_
         refine AllReadyH.cons rfl (fun K hK=>?_) AllReadyH.nil
         go_simp
         refine hK.out _ _ (HKP.out _ (set4k (below_set6 HBV4.out b28 hsz (.int .i64 ut) (.int .i64 un) (.int .i64 uk) (.slice ua uS.length uc) (.slice uka uK.length ukc) (.slice uma uM.length umc)) b44 hsz2 (.int .i64 dc) (.int .i64 dn) (.int .i64 da) (.slice ra dh.length rp))) (fun hHeld=>?_)
         clear hK K
         try simp only[Act.put,getElem_toArray,getElem_cons_succ,getElem_cons_zero,setIfInBounds_toArray,set_cons_zero,set_cons_succ]
         refine wpAnyH_take (i:=16) (v:=?_) rfl (by kernel_rfl) (by kernel_rfl) (by kernel_rfl) (fun _ _ _ h=>h) (Or.inl ⟨by rfl,?_⟩) (by assumption) ?_
         rotate_left
         ·intro w hSw;(try dsimp only at hSw);go_simp<;>with_reducible rfl
         try simp only[Act.put,getElem_toArray,getElem_cons_succ,getElem_cons_zero,setIfInBounds_toArray,set_cons_zero,set_cons_succ]
         refine wpAnyH_done (by kernel_rfl) ?_ _
         have HFE:=hid (((HFU.out).set6 (show b28<V3.heap.size by have:=HS1b28.out;have:=(HBV2V3.out:Below _ _ V3).size;omega) (.int .i64 ut) (.int .i64 un) (.int .i64 uk) (.slice ua uS.length uc) (.slice uka uK.length ukc) (.slice uma uM.length umc)).set4 (show b44<V3.heap.size by have:=HS1b44.out;have:=((step HBV1V2.out HBV2V3.out):Below _ _ V3).size;omega) (.int .i64 dc) (.int .i64 dn) (.int .i64 da) (.slice ra dh.length rp))
         have HBE:=hid (set4k (below_set6 HBV4.out b28 hsz (.int .i64 ut) (.int .i64 un) (.int .i64 uk) (.slice ua uS.length uc) (.slice uka uK.length ukc) (.slice uma uM.length umc)) b44 hsz2 (.int .i64 dc) (.int .i64 dn) (.int .i64 da) (.slice ra dh.length rp))
         have HUE:=hid (((HNb28.out V4 (step HBV2V3.out HBV3V4.out)).put ut un uk uS ua uc uK uka ukc uM uma umc).other4 hne2 (.int .i64 dc) (.int .i64 dn) (.int .i64 da) (.slice ra dh.length rp))
         have HSA:=hid (show wz.heap.size<=V3.heap.size from HBV3.out.size)
         have HFX:=hid ((HFC.out.later HBE.out).trans (HFE.out.lower (Nat.le_trans hszc HSA.out)))
         have HCX:=hid (boxP_put ((HNb44.out V4 (step (step HBV1V2.out HBV2V3.out) HBV3V4.out)).other6 hne (.int .i64 ut) (.int .i64 un) (.int .i64 uk) (.slice ua uS.length uc) (.slice uka uK.length ukc) (.slice uma uM.length umc)) ⟨dc,dn,da,dh⟩ (.slice ra dh.length rp))
         go_wp2
         go_meet
         case rel=>exact⟨b28,b44,⟨ut,un,uk,uS,ua,uc,uK,uka,ukc,uM,uma,umc⟩,rfl,rfl,Nat.le_trans hszc HBE.out.size,HUE,HFX,HVU,HCX,HBE⟩
    case rest=>
     obtain⟨b8,b9,⟨ut,un,uk,uS,ua,uc,uK,uka,ukc,uM,uma,umc⟩,rfl,rfl,hszu,HXU,HFU2,HVU,HCE,HBU⟩:=hcut
     obtain⟨wu,rfl⟩: ∃wu,wu=wc:=⟨_,rfl⟩
     have HXS:=hid (HYC.out.later HBU.out)
     have HXT:=hid (HXC.out.later HBU.out)
     have hat:=HAT4.out
     have hnx:=HFU.out.2
     rw[<-HVC.out] at hat hnx
     rw[<-HVU.out] at hnx
     have e1:un ≥ zn:=hnx.num.1
     have e2:uk ≥ zk:=hnx.tok.1
     have e3:ut=zt:=hnx.time
     have e4:zk ≥ yk:=hat.2.1
     have e5:zn=yn:=hat.2.2.2
     have e6:yt<=zt:=by have:=HTM.out;rw[<-HVC.out] at this;exact this
     subst e3 e5
     have g1:decide (zk<yk)=false:=decide_eq_false (by omega)
     have g2:decide (uk<zk)=false:=decide_eq_false (by omega)
     have g3:decide (un<zn)=false:=decide_eq_false (by omega)
     have g4:decide (ut<yt)=false:=decide_eq_false (by omega)
     have g5:decide (dc<0)=false:=decide_eq_false (by omega)
     have g6:decide ((12:Int)<dc)=false:=decide_eq_false (by omega)
     have hru:=hnx.right
     have KT:=hid (fun W (hb:Below wu.heap.size wu W)=>DevRight _ W (((HFC.out.later HBU.out).later hb).rd (RdSt.zero W)) hat.1)
     have KU:=hid (fun W (hb:Below wu.heap.size wu W)=>DevRight _ W ((HFU2.out.later hb).rd (RdSt.zero W)) hru)
     unfold stVal at KT KU
     simp only[StC.sv,StC.kv,StC.mv] at KT KU
     clear HKP KQ KA hat hnx hru e1 e2 e4 e6 hcd
     obtain⟨d0,d1,d2,d3,d4,d5,df⟩:=HXT.out
     simp only[StC.sv,StC.kv,StC.mv] at d0 d1 d2 d3 d4 d5
     go_wp2_with fail
     refine(KT.out _ (Below.refl _ _)).mono ?_
     rintro e w5 ⟨rfl,hb5⟩
     have HB5:=hid hb5
     clear hb5 d0 d1 d2 d3 d4 d5 df
     obtain⟨d0,d1,d2,d3,d4,d5,df⟩:=HXU.out.later HB5.out
     simp only[StC.sv,StC.kv,StC.mv] at d0 d1 d2 d3 d4 d5
     go_wp2_with fail
     refine(KU.out _ HB5.out).mono ?_
     rintro e w6 ⟨rfl,hb6⟩
     have HB6:=hid (step HB5.out hb6)
     clear hb6 d0 d1 d2 d3 d4 d5 df
     have HXE:=hid ((HXS.out.later HB6.out).put ut un uk uS ua uc uK uka ukc uM uma umc)
     have HFE:=hid ((HFU2.out.later HB6.out).set6 hlt1 (.int .i64 ut) (.int .i64 un) (.int .i64 uk) (.slice ua uS.length uc) (.slice uka uK.length ukc) (.slice uma uM.length umc))
     have HBE:=hid (below_set6 (step HBC.out (step HBU.out HB6.out)) nb (Nat.le_of_eq HNB.out) (.int .i64 ut) (.int .i64 un) (.int .i64 uk) (.slice ua uS.length uc) (.slice uka uK.length ukc) (.slice uma uM.length umc))
     have HVE:Hid (Few10 (k+1) (StC.v ⟨ut,un,uk,uS,ua,uc,uK,uka,ukc,uM,uma,umc⟩)):=hid (by rw[HVU.out];exact HFU.out.1)
     have hszv:HI<=w6.heap.size:=Nat.le_trans hszu HB6.out.size
     obtain⟨d0,d1,d2,d3,d4,d5,df⟩:=HXU.out.later HB6.out
     simp only[StC.sv,StC.kv,StC.mv] at d0 d1 d2 d3 d4 d5
     obtain⟨c0,c1,c2,c3,c4,c5,cf⟩:=HXS.out.later HB6.out
     simp only[StC.sv,StC.kv,StC.mv] at c0 c1 c2 c3 c4 c5
     obtain⟨z0,z1,z2,z3,z4,z5,zf⟩:=HXT.out.later HB6.out
     simp only[StC.sv,StC.kv,StC.mv] at z0 z1 z2 z3 z4 z5
     have r0:=(HB6.out.cell (lt_of_cell HCE.out)).trans HCE.out
     go_wp2_with fail
     go_roundw
     case rel=>exact⟨k+1,⟨ut,un,uk,uS,ua,uc,uK,uka,ukc,uM,uma,umc⟩,by omega,by omega,by go_num,by simpa using hszv,HXE,HFE,HVE,HBE⟩
     case measure=>simp [intOf];omega
  ·have hor:k=N\/(k<N/\k=60):=by omega
   clear hlt HAT HAO
   rcases hor with rfl | ⟨t0,rfl⟩
   case' inr=>
    have t1:decide (60<N)=true:=decide_eq_true t0
    have t2:((60:Nat):Int)<(N:Int):=by omega
   all_goals
    go_wp2_with fail
    refine(C0.out _).mono ?_
    rintro e w9 ⟨rfl,hb9⟩
    go_wp2_with fail
    go_ret
    exact⟨rfl,step HB.out hb9⟩
end Cm
end Go.Proofs.YthpknaieimlmnaaGreat
