/- Texts laid together by program. -/
import Derived.Test.YtheenjkmglmihaaQW1
/- The statements' with. -/
set_option linter.unusedVariables false
set_option maxRecDepth 8000
set_option linter.unusedSimpArgs false
namespace Go.Proofs.Ytheenjkmglmihaa
open Lib (hid)
open Go.RowKit
namespace Pl
open Cm Ac

theorem own_al {w w':World} {o:Obj} {b1 b2 s1 s2 n1 n2:Nat} {e1 e2:TypeId} {u v:Value} {xs ys:List Value} (h:w.ownsRow b1 e1 s1 u n1 xs) (h2:w.ownsRow b2 e2 s2 v n2 ys) (hg:(w.alloc o).grownBy w' u.ownBlock) (hne:e1≠e2):w'.ownsRow b2 e2 s2 v n2 ys:=
 Rw.own_other (Rw.own_alloc h2 o) hg (own_typesD (Rw.own_alloc h o) (Rw.own_alloc h2 o) hne)
def GivesW (l:List VoteV) (base:Nat) (w:World) (e:Ending) (w':World):Prop:=
 ∃va vc,∃M:List VoteC,e= .returned (.slice va M.length vc)/\valsV M=l/\M.length<=19/\w'.ownsRow w.heap.size 49 8 (.slice va M.length vc) M.length (flatX cellsV M)/\(∀z∈M,OwnR base w' z)/\Below w.heap.size w w'
set_option maxHeartbeats 16000000 in
theorem with_any (v:Value) (L:List VoteC) (x:VoteC) (base:Nat) (w:World) (h:OwnV base w v L) (hx:OwnR base w x) (h9:L.length<=9):
  Calls Try.prog 18 #[v,voteVal x] w (GivesW (withV (valsV L) x.val) base w):=by
 have hl0:=valsV_length L
 obtain⟨a,cap,rfl⟩:=Rw.own_form h.row
 have hrd:=RdX.own cellsV_length h.row
 obtain⟨_,_,hv,hlc,hcm, -⟩:=hrd.ex
 cases hv
 have HA:=hid (fun i hi=>rdv_at hrd i hi)
 have HG:=hid (fun i (hi:i<L.length) hi'=>valsV_get L i hi hi')
 have HLW0:=hid (fun y (hy:y∈L) wx (hb:Below w.heap.size w wx)=>(h.reqs y hy).later hb)
 have HXW0:=hid (fun wx (hb:Below w.heap.size w wx)=>hx.later hb)
 clear h hx hrd
 unfold GivesW
 generalize valsV L=V at HG hl0 ⊢
 obtain⟨N,hn⟩: ∃N,L.length=N:=⟨_,rfl⟩
 have HN:=hid hn
 rw[hn] at hlc hl0 h9 ⊢
 have HVN:=hid hl0
 clear hn hl0
 obtain⟨xs,xb,⟨xf,xv,xtv,xts,xt,xr⟩,xa,xc⟩:=x
 have HTK:=hid (fun i hi=>foldW_take (VoteC.val (⟨xs,xb,⟨xf,xv,xtv,xts,xt,xr⟩,xa,xc⟩:VoteC)) V i hi)
 have HEND:=hid (show V.take N=V by rw[<-HVN.out];exact List.take_length)
 unfold voteVal VoteC.u
 dsimp only
 obtain⟨i8,hi8,h80,h81,h82⟩:=info_partsP infoVoteP
 have HBW:=hid (newAlloc w (.cells #[.int .i64 xs,.int .i64 xb,.bool xf,.int .i64 xv,.int .i64 xtv,.int .i64 xts,.int .i64 xt,.slice xa xr.length xc] 49))
 have HX0:=hid (fun w' (hb:Below (w.alloc (.cells #[.int .i64 xs,.int .i64 xb,.bool xf,.int .i64 xv,.int .i64 xtv,.int .i64 xts,.int .i64 xt,.slice xa xr.length xc] 49)).heap.size (w.alloc (.cells #[.int .i64 xs,.int .i64 xb,.bool xf,.int .i64 xv,.int .i64 xtv,.int .i64 xts,.int .i64 xt,.slice xa xr.length xc] 49)) w')=>box8p hb)
 go_enter Try.func18,Try.ntmps18
 go_upto_region 1 with fail
 obtain⟨gx,hgx⟩: ∃g,w.heap.size=g:=⟨_,rfl⟩
 have HGX:=hid hgx
 generalize w.alloc (.cells #[.int .i64 xs,.int .i64 xb,.bool xf,.int .i64 xv,.int .i64 xtv,.int .i64 xts,.int .i64 xt,.slice xa xr.length xc] 49)=W at HBW HX0 ⊢
 rw[hgx] at HX0 ⊢
 clear hgx
 have HXW:=hid (fun wx (hb:Below W.heap.size W wx)=>HXW0.out wx (step HBW.out hb))
 go_wp2
 go_loopw [5,6,7,8] (fun m p i _ wr=> ∃(j:Nat) (b:Bool) (M:List VoteC) (va:Option Addr) (vc:Nat),j<=N/\m= .slice va M.length vc/\p= .bool b/\i= .int .i64 (j:Int)/\Hid (Below W.heap.size W wr)/\Hid (wr.ownsRow W.heap.size 49 8 (.slice va M.length vc) M.length (flatX cellsV M))/\Hid (∀z∈M,OwnR base wr z)/\Hid (foldW (VoteC.val (⟨xs,xb,⟨xf,xv,xtv,xts,xt,xr⟩,xa,xc⟩:VoteC)) (V.take j)=(valsV M,b))/\M.length<=2*j) (fun _ _ i _ _=>N - (intOf i).toNat)
 case atStart=>exact⟨0,false,[],none,0,by omega,rfl,rfl,rfl,hid (Below.refl _ _),hid (World.ownsRow_nil _ _ _ _),hid (fun z hz=>by cases hz),hid rfl,by simp⟩
 case round=>
  obtain⟨j,b,M,va,vc,hj,rfl,rfl,rfl,HB,HM,HQ,HC,hMl⟩:=hrel
  by_cases hlt:j<N
  case neg=>
   obtain rfl:j=N:=by omega
   have HF:Hid (foldW (VoteC.val (⟨xs,xb,⟨xf,xv,xtv,xts,xt,xr⟩,xa,xc⟩:VoteC)) V=(valsV M,b)):=hid (by rw[<-HEND.out];exact HC.out)
   cases b
   case true=>
    have HR:Hid (valsV M=withV V (VoteC.val (⟨xs,xb,⟨xf,xv,xtv,xts,xt,xr⟩,xa,xc⟩:VoteC))):=hid (by unfold withV;rw[HF.out];rfl)
    go_wp2
    go_ret
    exact⟨va,vc,M,rfl,HR.out,by omega,own_lowerX HM.out HBW.out.size,HQ.out,step HBW.out HB.out⟩
   have HR:Hid (valsV M++ [VoteC.val (⟨xs,xb,⟨xf,xv,xtv,xts,xt,xr⟩,xa,xc⟩:VoteC)]=withV V (VoteC.val (⟨xs,xb,⟨xf,xv,xtv,xts,xt,xr⟩,xa,xc⟩:VoteC))):=hid (by unfold withV;rw[HF.out];rfl)
   obtain⟨x0,x1,x2,x3,x4,x5,x6,x7⟩:=HX0.out _ HB.out
   go_wp2_with (at_builtin;refine wpList_append_grD cellsV_length (by omega) rfl _ _ 27 rfl 49 i8 _ 80 Try.underlying27 hi8 h80 h81 h82 rfl #[.int .i64 xs,.int .i64 xb,.bool xf,.int .i64 xv,.int .i64 xtv,.int .i64 xts,.int .i64 xt,.slice xa xr.length xc] (⟨xs,xb,⟨xf,xv,xtv,xts,xt,xr⟩,xa,xc⟩:VoteC) rfl (cellsV_one _) M W.heap.size (.slice va M.length vc) rfl rfl HM.out (by unfold maxLen;omega) (by omega) (by have:=HB.out.size;omega) ?_;intro v2 w2 ho hg _;have hb:Below W.heap.size W w2:=(stepAlloc HB.out _).grown hg (by have:=HB.out.size;simp;omega) (fun g hg=>(Rw.own_lt HM.out g hg).1);have hq: ∀z∈M++ [(⟨xs,xb,⟨xf,xv,xtv,xts,xt,xr⟩,xa,xc⟩:VoteC)],OwnR base w2 z:=(fun z hz=>by rcases List.mem_append.1 hz with q | q;exact own_al HM.out (HQ.out z q) hg (by decide);rw[List.mem_singleton] at q;subst q;exact own_al HM.out (HXW.out _ HB.out) hg (by decide));have hl:=(show(M++ [(⟨xs,xb,⟨xf,xv,xtv,xts,xt,xr⟩,xa,xc⟩:VoteC)]).length <=19 by rw[List.length_append,List.length_singleton];omega);have hv:valsV (M++ [(⟨xs,xb,⟨xf,xv,xtv,xts,xt,xr⟩,xa,xc⟩:VoteC)])=valsV M++ [((⟨xs,xb,⟨xf,xv,xtv,xts,xt,xr⟩,xa,xc⟩:VoteC)).val]:=valsV_snoc _ _;generalize M++ [(⟨xs,xb,⟨xf,xv,xtv,xts,xt,xr⟩,xa,xc⟩:VoteC)]=M2 at ho hq hl hv;obtain⟨va2,vc2,rfl⟩:=Rw.own_form ho;have HM2:=hid ho;have HQ2:=hid hq;have HB2:=hid hb;have HV2:=hid hv;have hl2:=hl;clear ho hq hb hv hl hg)
   go_ret
   exact⟨va2,vc2,M2,rfl,by rw[HV2.out];exact HR.out,hl2,own_lowerX HM2.out HBW.out.size,HQ2.out,step HBW.out HB2.out⟩
  have hjl:j<L.length:=by rw[HN.out];exact hlt
  have hjv:j<V.length:=by rw[HVN.out];exact hlt
  obtain⟨b2,o2,rfl,hc⟩:=HA.out j hjl
  have htk:=HTK.out j hjv
  rw[HG.out j hjl hjv,HC.out] at htk
  have hyw:=HLW0.out L[j] (mem_get hjl)
  obtain⟨y,hy⟩: ∃y,L[j]=y:=⟨_,rfl⟩
  rw[hy] at htk hyw
  have HYC0:=hid (fun wx hb=>by have q:=hc wx hb;rw[hy] at q;exact q)
  clear hc hy hjl hjv HC HTK
  obtain⟨ys,yb,⟨yf,yv,ytv,yts,yt,yr⟩,ya,yc⟩:=y
  have HTK:=hid htk
  have HYW:=hid (fun wx (hb:Below W.heap.size W wx)=>hyw wx (step HBW.out hb))
  unfold VoteC.u at HYC0
  dsimp only at HYC0
  have HYC:=HYC0
  clear htk hyw HYC0
  have hj0:(0:Int)<=(j:Int):=by omega
  have hj1:(j:Int)<(N:Int):=by omega
  obtain⟨x0,x1,x2,x3,x4,x5,x6,x7⟩:=HX0.out _ HB.out
  obtain⟨y0,y1,y2,y3,y4,y5,y6,y7⟩:=HYC.out _ (step HBW.out HB.out)
  cases b
  case true=>
   have ec: ¬(true=false/\xs<=ys):=fun q=>by cases q.1
   go_upto_region 6 with fail
   go_quiet (fail)
   have HB0:=hid (below_drewB HB.out nq)
   have HM0:=hid (Rw.own_below HM.out (below_drewB (Below.refl _ _) nq))
   have HQ0:=hid (fun z hz=>Rw.own_below (HQ.out z hz) (below_drewB (Below.refl _ _) nq))
   generalize wr.drewN nq=wq at HB0 HM0 HQ0 ⊢
   clear x0 x1 x2 x3 x4 x5 x6 x7 y0 y1 y2 y3 y4 y5 y6 y7
   obtain⟨x0,x1,x2,x3,x4,x5,x6,x7⟩:=HX0.out _ HB0.out
   obtain⟨y0,y1,y2,y3,y4,y5,y6,y7⟩:=HYC.out _ (step HBW.out HB0.out)
   go_upto_region 9 with fail
   clear x0 x1 x2 x3 x4 x5 x6 x7 y0 y1 y2 y3 y4 y5 y6 y7
   obtain⟨x0,x1,x2,x3,x4,x5,x6,x7⟩:=HX0.out _ HB0.out
   obtain⟨y0,y1,y2,y3,y4,y5,y6,y7⟩:=HYC.out _ (step HBW.out HB0.out)
   by_cases e:ys=xs
   ·have de:(ys==xs)=true:=by simpa using e
    have HT:Hid (foldW (VoteC.val (⟨xs,xb,⟨xf,xv,xtv,xts,xt,xr⟩,xa,xc⟩:VoteC)) (V.take (j+1))=(valsV M,true)):=hid (HTK.out.trans (stepW_no ec e))
    clear e
    go_quiet (fail)
    go_wp2
    go_roundw
    case rel=>exact⟨j+1,true,M,va,vc,by omega,rfl,rfl,by go_num,hid (below_drewB HB0.out nq),hid (Rw.own_below HM0.out (below_drewB (Below.refl _ _) nq)),hid (fun z hz=>Rw.own_below (HQ0.out z hz) (below_drewB (Below.refl _ _) nq)),HT,by omega⟩
    case measure=>simp [intOf];omega
   ·have de:(ys==xs)=false:=by simpa using e
    go_quiet (fail)
    have HBQ:=hid (below_drewB HB0.out nq)
    have HMQ:=hid (Rw.own_below HM0.out (below_drewB (Below.refl _ _) nq))
    have HQQ:=hid (fun z hz=>Rw.own_below (HQ0.out z hz) (below_drewB (Below.refl _ _) nq))
    clear x0 x1 x2 x3 x4 x5 x6 x7 y0 y1 y2 y3 y4 y5 y6 y7
    generalize wq.drewN nq=wz at HBQ HMQ HQQ ⊢
    obtain⟨x0,x1,x2,x3,x4,x5,x6,x7⟩:=HX0.out _ HBQ.out
    obtain⟨y0,y1,y2,y3,y4,y5,y6,y7⟩:=HYC.out _ (step HBW.out HBQ.out)
    go_wp2_with (at_builtin;refine wpList_append_grD cellsV_length (by omega) rfl _ _ 27 rfl 49 i8 _ 80 Try.underlying27 hi8 h80 h81 h82 rfl #[.int .i64 ys,.int .i64 yb,.bool yf,.int .i64 yv,.int .i64 ytv,.int .i64 yts,.int .i64 yt,.slice ya yr.length yc] (⟨ys,yb,⟨yf,yv,ytv,yts,yt,yr⟩,ya,yc⟩:VoteC) rfl (cellsV_one _) M W.heap.size (.slice va M.length vc) rfl rfl HMQ.out (by unfold maxLen;omega) (by omega) (by have:=HBQ.out.size;omega) ?_;intro v2 w2 ho hg _;have hb:Below W.heap.size W w2:=(stepAlloc HBQ.out _).grown hg (by have:=HBQ.out.size;simp;omega) (fun g hg=>(Rw.own_lt HMQ.out g hg).1);have hq: ∀z∈M++ [(⟨ys,yb,⟨yf,yv,ytv,yts,yt,yr⟩,ya,yc⟩:VoteC)],OwnR base w2 z:=(fun z hz=>by rcases List.mem_append.1 hz with q | q;exact own_al HMQ.out (HQQ.out z q) hg (by decide);rw[List.mem_singleton] at q;subst q;exact own_al HMQ.out (HYW.out _ HBQ.out) hg (by decide));have hl:=(show(M++ [(⟨ys,yb,⟨yf,yv,ytv,yts,yt,yr⟩,ya,yc⟩:VoteC)]).length <=2*(j+1) by rw[List.length_append,List.length_singleton];omega);have hv:valsV (M++ [(⟨ys,yb,⟨yf,yv,ytv,yts,yt,yr⟩,ya,yc⟩:VoteC)])=valsV M++ [((⟨ys,yb,⟨yf,yv,ytv,yts,yt,yr⟩,ya,yc⟩:VoteC)).val]:=valsV_snoc _ _;generalize M++ [(⟨ys,yb,⟨yf,yv,ytv,yts,yt,yr⟩,ya,yc⟩:VoteC)]=M2 at ho hq hl hv;obtain⟨va2,vc2,rfl⟩:=Rw.own_form ho;have HM2:=hid ho;have HQ2:=hid hq;have HB2:=hid hb;have HV2:=hid hv;have hl2:=hl;clear ho hq hb hv hl hg)
    have HT:Hid (foldW (VoteC.val (⟨xs,xb,⟨xf,xv,xtv,xts,xt,xr⟩,xa,xc⟩:VoteC)) (V.take (j+1))=(valsV M2,true)):=hid (by rw[HV2.out];exact HTK.out.trans (stepW_no2 ec e))
    go_roundw
    case rel=>exact⟨j+1,true,M2,va2,vc2,by omega,rfl,rfl,by go_num,HB2,HM2,HQ2,HT,by omega⟩
    case measure=>simp [intOf];omega
  by_cases hle:xs<=ys
  case neg=>
   have ec: ¬(false=false/\xs<=ys):=fun q=>hle q.2
   have dle:decide (xs<=ys)=false:=decide_eq_false hle
   clear hle
   go_upto_region 6 with fail
   go_quiet (fail)
   have HB0:=hid (below_drewB HB.out nq)
   have HM0:=hid (Rw.own_below HM.out (below_drewB (Below.refl _ _) nq))
   have HQ0:=hid (fun z hz=>Rw.own_below (HQ.out z hz) (below_drewB (Below.refl _ _) nq))
   generalize wr.drewN nq=wq at HB0 HM0 HQ0 ⊢
   clear x0 x1 x2 x3 x4 x5 x6 x7 y0 y1 y2 y3 y4 y5 y6 y7
   obtain⟨x0,x1,x2,x3,x4,x5,x6,x7⟩:=HX0.out _ HB0.out
   obtain⟨y0,y1,y2,y3,y4,y5,y6,y7⟩:=HYC.out _ (step HBW.out HB0.out)
   go_upto_region 9 with fail
   clear x0 x1 x2 x3 x4 x5 x6 x7 y0 y1 y2 y3 y4 y5 y6 y7
   obtain⟨x0,x1,x2,x3,x4,x5,x6,x7⟩:=HX0.out _ HB0.out
   obtain⟨y0,y1,y2,y3,y4,y5,y6,y7⟩:=HYC.out _ (step HBW.out HB0.out)
   by_cases e:ys=xs
   ·have de:(ys==xs)=true:=by simpa using e
    have HT:Hid (foldW (VoteC.val (⟨xs,xb,⟨xf,xv,xtv,xts,xt,xr⟩,xa,xc⟩:VoteC)) (V.take (j+1))=(valsV M,false)):=hid (HTK.out.trans (stepW_no ec e))
    clear e
    go_quiet (fail)
    go_wp2
    go_roundw
    case rel=>exact⟨j+1,false,M,va,vc,by omega,rfl,rfl,by go_num,hid (below_drewB HB0.out nq),hid (Rw.own_below HM0.out (below_drewB (Below.refl _ _) nq)),hid (fun z hz=>Rw.own_below (HQ0.out z hz) (below_drewB (Below.refl _ _) nq)),HT,by omega⟩
    case measure=>simp [intOf];omega
   ·have de:(ys==xs)=false:=by simpa using e
    go_quiet (fail)
    have HBQ:=hid (below_drewB HB0.out nq)
    have HMQ:=hid (Rw.own_below HM0.out (below_drewB (Below.refl _ _) nq))
    have HQQ:=hid (fun z hz=>Rw.own_below (HQ0.out z hz) (below_drewB (Below.refl _ _) nq))
    clear x0 x1 x2 x3 x4 x5 x6 x7 y0 y1 y2 y3 y4 y5 y6 y7
    generalize wq.drewN nq=wz at HBQ HMQ HQQ ⊢
    obtain⟨x0,x1,x2,x3,x4,x5,x6,x7⟩:=HX0.out _ HBQ.out
    obtain⟨y0,y1,y2,y3,y4,y5,y6,y7⟩:=HYC.out _ (step HBW.out HBQ.out)
    go_wp2_with (at_builtin;refine wpList_append_grD cellsV_length (by omega) rfl _ _ 27 rfl 49 i8 _ 80 Try.underlying27 hi8 h80 h81 h82 rfl #[.int .i64 ys,.int .i64 yb,.bool yf,.int .i64 yv,.int .i64 ytv,.int .i64 yts,.int .i64 yt,.slice ya yr.length yc] (⟨ys,yb,⟨yf,yv,ytv,yts,yt,yr⟩,ya,yc⟩:VoteC) rfl (cellsV_one _) M W.heap.size (.slice va M.length vc) rfl rfl HMQ.out (by unfold maxLen;omega) (by omega) (by have:=HBQ.out.size;omega) ?_;intro v2 w2 ho hg _;have hb:Below W.heap.size W w2:=(stepAlloc HBQ.out _).grown hg (by have:=HBQ.out.size;simp;omega) (fun g hg=>(Rw.own_lt HMQ.out g hg).1);have hq: ∀z∈M++ [(⟨ys,yb,⟨yf,yv,ytv,yts,yt,yr⟩,ya,yc⟩:VoteC)],OwnR base w2 z:=(fun z hz=>by rcases List.mem_append.1 hz with q | q;exact own_al HMQ.out (HQQ.out z q) hg (by decide);rw[List.mem_singleton] at q;subst q;exact own_al HMQ.out (HYW.out _ HBQ.out) hg (by decide));have hl:=(show(M++ [(⟨ys,yb,⟨yf,yv,ytv,yts,yt,yr⟩,ya,yc⟩:VoteC)]).length <=2*(j+1) by rw[List.length_append,List.length_singleton];omega);have hv:valsV (M++ [(⟨ys,yb,⟨yf,yv,ytv,yts,yt,yr⟩,ya,yc⟩:VoteC)])=valsV M++ [((⟨ys,yb,⟨yf,yv,ytv,yts,yt,yr⟩,ya,yc⟩:VoteC)).val]:=valsV_snoc _ _;generalize M++ [(⟨ys,yb,⟨yf,yv,ytv,yts,yt,yr⟩,ya,yc⟩:VoteC)]=M2 at ho hq hl hv;obtain⟨va2,vc2,rfl⟩:=Rw.own_form ho;have HM2:=hid ho;have HQ2:=hid hq;have HB2:=hid hb;have HV2:=hid hv;have hl2:=hl;clear ho hq hb hv hl hg)
    have HT:Hid (foldW (VoteC.val (⟨xs,xb,⟨xf,xv,xtv,xts,xt,xr⟩,xa,xc⟩:VoteC)) (V.take (j+1))=(valsV M2,false)):=hid (by rw[HV2.out];exact HTK.out.trans (stepW_no2 ec e))
    go_roundw
    case rel=>exact⟨j+1,false,M2,va2,vc2,by omega,rfl,rfl,by go_num,HB2,HM2,HQ2,HT,by omega⟩
    case measure=>simp [intOf];omega
  have ec:xs<=ys:=hle
  have HEC:=hid ec
  have dle:decide (xs<=ys)=true:=decide_eq_true hle
  clear hle ec
  go_upto_region 6 with fail
  go_quiet (fail)
  have HB0:=hid (below_drewB HB.out nq)
  have HM0:=hid (Rw.own_below HM.out (below_drewB (Below.refl _ _) nq))
  have HQ0:=hid (fun z hz=>Rw.own_below (HQ.out z hz) (below_drewB (Below.refl _ _) nq))
  generalize wr.drewN nq=wq at HB0 HM0 HQ0 ⊢
  clear x0 x1 x2 x3 x4 x5 x6 x7 y0 y1 y2 y3 y4 y5 y6 y7
  obtain⟨x0,x1,x2,x3,x4,x5,x6,x7⟩:=HX0.out _ HB0.out
  obtain⟨y0,y1,y2,y3,y4,y5,y6,y7⟩:=HYC.out _ (step HBW.out HB0.out)
  go_upto_region 9 with (at_builtin;refine wpList_append_grD cellsV_length (by omega) rfl _ _ 27 rfl 49 i8 _ 80 Try.underlying27 hi8 h80 h81 h82 rfl #[.int .i64 xs,.int .i64 xb,.bool xf,.int .i64 xv,.int .i64 xtv,.int .i64 xts,.int .i64 xt,.slice xa xr.length xc] (⟨xs,xb,⟨xf,xv,xtv,xts,xt,xr⟩,xa,xc⟩:VoteC) rfl (cellsV_one _) M W.heap.size (.slice va M.length vc) rfl rfl HM0.out (by unfold maxLen;omega) (by omega) (by have:=HB0.out.size;omega) ?_;intro v1 w1 ho hg _;have hb:Below W.heap.size W w1:=(stepAlloc HB0.out _).grown hg (by have:=HB0.out.size;simp;omega) (fun g hg=>(Rw.own_lt HM0.out g hg).1);have hq: ∀z∈M++ [(⟨xs,xb,⟨xf,xv,xtv,xts,xt,xr⟩,xa,xc⟩:VoteC)],OwnR base w1 z:=(fun z hz=>by rcases List.mem_append.1 hz with q | q;exact own_al HM0.out (HQ0.out z q) hg (by decide);rw[List.mem_singleton] at q;subst q;exact own_al HM0.out (HXW.out _ HB0.out) hg (by decide));have hl:=(show(M++ [(⟨xs,xb,⟨xf,xv,xtv,xts,xt,xr⟩,xa,xc⟩:VoteC)]).length <=2*j+1 by rw[List.length_append,List.length_singleton];omega);have hv:valsV (M++ [(⟨xs,xb,⟨xf,xv,xtv,xts,xt,xr⟩,xa,xc⟩:VoteC)])=valsV M++ [((⟨xs,xb,⟨xf,xv,xtv,xts,xt,xr⟩,xa,xc⟩:VoteC)).val]:=valsV_snoc _ _;generalize M++ [(⟨xs,xb,⟨xf,xv,xtv,xts,xt,xr⟩,xa,xc⟩:VoteC)]=M1 at ho hq hl hv;obtain⟨va1,vc1,rfl⟩:=Rw.own_form ho;have HM1:=hid ho;have HQ1:=hid hq;have HB1:=hid hb;have HV1:=hid hv;have hl1:=hl;clear ho hq hb hv hl hg)
  have ec:=HEC.out
  clear dle
  clear x0 x1 x2 x3 x4 x5 x6 x7 y0 y1 y2 y3 y4 y5 y6 y7
  obtain⟨x0,x1,x2,x3,x4,x5,x6,x7⟩:=HX0.out _ HB1.out
  obtain⟨y0,y1,y2,y3,y4,y5,y6,y7⟩:=HYC.out _ (step HBW.out HB1.out)
  by_cases e:ys=xs
  ·have de:(ys==xs)=true:=by simpa using e
   have HT:Hid (foldW (VoteC.val (⟨xs,xb,⟨xf,xv,xtv,xts,xt,xr⟩,xa,xc⟩:VoteC)) (V.take (j+1))=(valsV M1,true)):=hid (by rw[HV1.out];exact HTK.out.trans (stepW_yes ec e))
   clear e
   go_quiet (fail)
   go_wp2
   go_roundw
   case rel=>exact⟨j+1,true,M1,va1,vc1,by omega,rfl,rfl,by go_num,hid (below_drewB HB1.out nq),hid (Rw.own_below HM1.out (below_drewB (Below.refl _ _) nq)),hid (fun z hz=>Rw.own_below (HQ1.out z hz) (below_drewB (Below.refl _ _) nq)),HT,by omega⟩
   case measure=>simp [intOf];omega
  ·have de:(ys==xs)=false:=by simpa using e
   go_quiet (fail)
   have HBQ:=hid (below_drewB HB1.out nq)
   have HMQ:=hid (Rw.own_below HM1.out (below_drewB (Below.refl _ _) nq))
   have HQQ:=hid (fun z hz=>Rw.own_below (HQ1.out z hz) (below_drewB (Below.refl _ _) nq))
   clear x0 x1 x2 x3 x4 x5 x6 x7 y0 y1 y2 y3 y4 y5 y6 y7
   generalize w1.drewN nq=wz at HBQ HMQ HQQ ⊢
   obtain⟨x0,x1,x2,x3,x4,x5,x6,x7⟩:=HX0.out _ HBQ.out
   obtain⟨y0,y1,y2,y3,y4,y5,y6,y7⟩:=HYC.out _ (step HBW.out HBQ.out)
   go_wp2_with (at_builtin;refine wpList_append_grD cellsV_length (by omega) rfl _ _ 27 rfl 49 i8 _ 80 Try.underlying27 hi8 h80 h81 h82 rfl #[.int .i64 ys,.int .i64 yb,.bool yf,.int .i64 yv,.int .i64 ytv,.int .i64 yts,.int .i64 yt,.slice ya yr.length yc] (⟨ys,yb,⟨yf,yv,ytv,yts,yt,yr⟩,ya,yc⟩:VoteC) rfl (cellsV_one _) M1 W.heap.size (.slice va1 M1.length vc1) rfl rfl HMQ.out (by unfold maxLen;omega) (by omega) (by have:=HBQ.out.size;omega) ?_;intro v2 w2 ho hg _;have hb:Below W.heap.size W w2:=(stepAlloc HBQ.out _).grown hg (by have:=HBQ.out.size;simp;omega) (fun g hg=>(Rw.own_lt HMQ.out g hg).1);have hq: ∀z∈M1++ [(⟨ys,yb,⟨yf,yv,ytv,yts,yt,yr⟩,ya,yc⟩:VoteC)],OwnR base w2 z:=(fun z hz=>by rcases List.mem_append.1 hz with q | q;exact own_al HMQ.out (HQQ.out z q) hg (by decide);rw[List.mem_singleton] at q;subst q;exact own_al HMQ.out (HYW.out _ HBQ.out) hg (by decide));have hl:=(show(M1++ [(⟨ys,yb,⟨yf,yv,ytv,yts,yt,yr⟩,ya,yc⟩:VoteC)]).length <=2*(j+1) by rw[List.length_append,List.length_singleton];omega);have hv:valsV (M1++ [(⟨ys,yb,⟨yf,yv,ytv,yts,yt,yr⟩,ya,yc⟩:VoteC)])=valsV M1++ [((⟨ys,yb,⟨yf,yv,ytv,yts,yt,yr⟩,ya,yc⟩:VoteC)).val]:=valsV_snoc _ _;generalize M1++ [(⟨ys,yb,⟨yf,yv,ytv,yts,yt,yr⟩,ya,yc⟩:VoteC)]=M2 at ho hq hl hv;obtain⟨va2,vc2,rfl⟩:=Rw.own_form ho;have HM2:=hid ho;have HQ2:=hid hq;have HB2:=hid hb;have HV2:=hid hv;have hl2:=hl;clear ho hq hb hv hl hg)
   have HT:Hid (foldW (VoteC.val (⟨xs,xb,⟨xf,xv,xtv,xts,xt,xr⟩,xa,xc⟩:VoteC)) (V.take (j+1))=(valsV M2,true)):=hid (by rw[HV2.out,HV1.out];exact HTK.out.trans (stepW_yes2 ec e))
   go_roundw
   case rel=>exact⟨j+1,true,M2,va2,vc2,by omega,rfl,rfl,by go_num,HB2,HM2,HQ2,HT,by omega⟩
   case measure=>simp [intOf];omega
end Pl
end Go.Proofs.Ytheenjkmglmihaa
