/- Texts laid together by program. -/
import Derived.Test.YtbpmfjjbfiiiaaaQS7
import Derived.Lib.QuietBelow
/- Contracts of package plan: isNumber, mayVotes, May, isBetter. -/
set_option linter.unusedVariables false
set_option maxRecDepth 8000
set_option linter.unusedSimpArgs false
namespace Go.Proofs.Ytbpmfjjbfiiiaaa
open Lib (hid)
open Go.RowKit
namespace Pl
open Cm Ac

theorem isNumP_any (v:Int) (w:World):Calls Try.prog 50 #[.int .i64 v] w (Says (highF v 0) w):=by
  unfold highF
  by_cases h1:0<=v<;>by_cases h2:v<=2305843009213693952<;>
    (go_enter Try.func50,Try.ntmps50
     go_wp2
     go_ret
     exact⟨by simp [h1,h2]<;>omega,rfl⟩)
theorem voteOk_1 {d b:Int} {v:VoteV} (h:v.slot<=b):voteOk d b v=false:=by
 unfold voteOk
 rw[decide_eq_false (by omega: ¬b<v.slot)]
 rfl
theorem voteOk_2 {d b M:Int} {v:VoteV} (hM: ∀s,s<=M ↔ s<=d+9/\s<=2305843009213693952) (h:M<v.slot):voteOk d b v=false:=by
 unfold voteOk
 by_cases h1:v.slot<=d+9
 ·by_cases h2:v.slot<=2305843009213693952
  ·have:=(hM v.slot).2 ⟨h1,h2⟩
   omega
  ·rw[decide_eq_false h2]
   simp
 ·rw[decide_eq_false h1]
  simp
theorem voteOk_3 {d b M:Int} {v:VoteV} (hM: ∀s,s<=M ↔ s<=d+9/\s<=2305843009213693952) (h1: ¬v.slot<=b) (h2: ¬M<v.slot):voteOk d b v=(highF v.ballot 0 && mayB v.bat):=by
 unfold voteOk
 obtain⟨a1,a2⟩:=(hM v.slot).1 (by omega)
 rw[decide_eq_true (by omega:b<v.slot),decide_eq_true a1,decide_eq_true a2]
 simp
set_option maxHeartbeats 4000000 in
theorem mayVotes_any (v:Value) (l:List VoteC) (d:Int) (w:World) (h:RdV w v l) (hd0:0<=d) (hd1:d<=2305843009213693952):Calls Try.prog 51 #[v,.int .i64 d] w (SaysB (decide (l.length<=9) && mayVs d d (valsV l)) w):=by
 have hm:=h.len
 have hl0:=valsV_length l
 obtain⟨a,cap,hv,hlc,hcm, -⟩:=h.row.ex
 subst hv
 by_cases c3:l.length<=9
 case neg=>
  rw[decide_eq_false c3]
  clear h hl0
  have d3:decide (9<(l.length:Int))=true:=by simp;omega
  generalize l.length=L at*
  go_enter Try.func51,Try.ntmps51
  go_wp2
  go_ret
  exact⟨by simp,Below.refl _ _⟩
 have d3:decide (9<(l.length:Int))=false:=by simp;omega
 rw[decide_eq_true c3,Bool.true_and]
 have HA:=hid (fun i hi=>rdv_at h.row i hi)
 have HR:=hid h.reqs
 have HD:=hid (fun b i hi=>mayVs_step d b (valsV l) i hi)
 have HE:=hid (fun b=>mayVs_end d b (valsV l) (valsV l).length (Nat.le_refl _))
 have HG:=hid (fun i (hi:i<l.length) hi'=>valsV_get l i hi hi')
 clear h
 generalize valsV l=V at HD HE HG hl0 ⊢
 obtain⟨L,hL⟩: ∃L,l.length=L:=⟨_,rfl⟩
 have HL:=hid hL
 rw[hL] at hm c3 d3 hl0 hlc ⊢
 clear hL
 rw[hl0] at HE
 have HV:=hid hl0
 obtain⟨M,hM⟩: ∃M:Int,(if (2305843009213693952:Int)<d+9 then 2305843009213693952 else d+9)=M:=⟨_,rfl⟩
 have HMM:Hid (∀s,s<=M ↔ s<=d+9/\s<=2305843009213693952):=hid (fun s=>by rw[<-hM];split<;>omega)
 have e9:IntKind.i64.wrap (d+9)=d+9:=by rw[IntKind.wrap_i64];omega
 clear hl0
 have hid0:=hid hd0
 have hid1:=hid hd1
 clear hd0 hd1
 go_enter Try.func51,Try.ntmps51
 go_wp2
 go_loopw [5,8,18] (fun b y i wr=> ∃(j:Nat) (B:Int),j<=L/\i= .int .i64 j/\b= .int .i64 B/\Hid (Below w.heap.size w wr)/\Hid (mayVs d d V=mayVs d B (V.drop j))) (fun _ _ i _=>L - (intOf i).toNat)
 case atStart=>exact⟨0,d,by omega,rfl,rfl,hid (Below.refl _ _),hid rfl⟩
 case round=>
  obtain⟨j,B,hj,rfl,rfl,HB,ha⟩:=hrel
  by_cases hlt:j<L
  ·have hjl:j<l.length:=by rw[HL.out];exact hlt
   have hjv:j<V.length:=by rw[HV.out];exact hlt
   obtain⟨b,o,rfl,hc⟩:=HA.out j hjl
   obtain⟨q0,q1,q2,q3,q4,q5,q6,q7⟩:=hc _ HB.out
   have hd:=HD.out B j hjv
   rw[HG.out j hjl hjv] at hd
   have hr:=HR.out l[j] (List.getElem_mem hjl)
   clear HA HD HG hc HR
   generalize l[j]=x at q0 q1 q2 q3 q4 q5 q6 q7 hd hr
   obtain⟨xs,xb,xx,xa,xc⟩:=x
   obtain⟨xf,xv,xtv,xts,xt,xr⟩:=xx
   unfold VoteC.val at hd
   unfold VoteC.u at hr q7
   dsimp only at q0 q1 q2 q3 q4 q5 q6 q7 hd hr
   have HB1:=hid (stepAlloc HB.out (.cells #[.int .i64 xs,.int .i64 xb,.bool xf,.int .i64 xv,.int .i64 xtv,.int .i64 xts,.int .i64 xt,.slice xa xr.length xc] 48))
   have cn:=fun W=>isNumP_any xb W
   have cm:=fun W (hb:Below w.heap.size w W)=>MayB_any ⟨xf,xv,xtv,xts,xt,xr⟩ _ W (hr.later hb)
   have g1:=fun h=>voteOk_1 (d:=d) (b:=B) (v:=⟨xs,xb,⟨xf,xv,xtv,xts,xt,xr⟩⟩) h
   have g2:=fun h=>voteOk_2 (d:=d) (b:=B) (v:=⟨xs,xb,⟨xf,xv,xtv,xts,xt,xr⟩⟩) HMM.out h
   have g3:=fun h h'=>voteOk_3 (d:=d) (b:=B) (v:=⟨xs,xb,⟨xf,xv,xtv,xts,xt,xr⟩⟩) HMM.out h h'
   dsimp only at g1 g2 g3
   unfold batVal at cm
   dsimp only at cm
   generalize voteOk d B ⟨xs,xb,⟨xf,xv,xtv,xts,xt,xr⟩⟩=V1 at hd g1 g2 g3
   generalize mayB ⟨xf,xv,xtv,xts,xt,xr⟩=V2 at cm g3
   generalize highF xb 0=V3 at cn g3
   generalize xr.length=xn at*
   have CN:=hid cn
   have CM:=hid cm
   have HDD:=hid hd
   obtain⟨y0,y1,y2,y3,y4,y5,y6,y7⟩:=box8p (Below.refl _ (wr.alloc (.cells #[.int .i64 xs,.int .i64 xb,.bool xf,.int .i64 xv,.int .i64 xtv,.int .i64 xts,.int .i64 xt,.slice xa xn xc] 48)))
   have hj0:(0:Int)<=(j:Int):=by omega
   have hj1:(j:Int)<(L:Int):=by omega
   clear cn cm hr hjl hjv hd
   by_cases k1:xs<=B
   ·have K:=hid (g1 k1)
    have d1:decide (xs<=B)=true:=decide_eq_true k1
    clear g1 g2 g3 k1
    go_wp2
    go_ret
    exact⟨by rw[ha.out,HDD.out,K.out];simp,HB1.out⟩
   have d1:decide (xs<=B)=false:=decide_eq_false k1
   by_cases k2:M<xs
   ·have K:=hid (g2 k2)
    have d2:decide (M<xs)=true:=decide_eq_true k2
    clear g1 g2 g3 k1 k2
    go_wp2
    go_ret
    exact⟨by rw[ha.out,HDD.out,K.out];simp,HB1.out⟩
   have d2:decide (M<xs)=false:=decide_eq_false k2
   have K:=hid (g3 k1 k2)
   clear g1 g2 g3 k1 k2
   cases V3
   case false=>
    go_wp2_with (go_at_call 50;refine(CN.out _).mono ?_;rintro e w1 ⟨rfl,rfl⟩)
    go_ret
    exact⟨by rw[ha.out,HDD.out,K.out];simp,HB1.out⟩
   cases V2
   case false=>
    go_wp2_with (first
     | (go_at_call 50;refine(CN.out _).mono ?_;rintro e w1 ⟨rfl,rfl⟩)
     | (go_at_call 11;refine(CM.out _ HB1.out).mono ?_;rintro e w1 ⟨rfl,hb1⟩))
    go_ret
    exact⟨by rw[ha.out,HDD.out,K.out];simp,step HB1.out hb1⟩
   go_wp2_with (first
    | (go_at_call 50;refine(CN.out _).mono ?_;rintro e w1 ⟨rfl,rfl⟩)
    | (go_at_call 11;refine(CM.out _ HB1.out).mono ?_;rintro e w1 ⟨rfl,hb1⟩;obtain⟨z0,z1,z2,z3,z4,z5,z6,z7⟩:=box8p hb1))
   go_roundw
   case rel=>exact⟨j+1,xs,by omega,by go_num,rfl,hid (step HB1.out hb1),hid (by rw[ha.out,HDD.out,K.out];simp)⟩
   case measure=>simp [intOf];omega
  ·obtain rfl:j=L:=by omega
   go_wp2
   go_ret
   exact⟨by rw[ha.out,HE.out];rfl,HB.out⟩
theorem mayP_val (p:PromC):mayP p.val=(headP p.val && (decide (p.votes.length<=9) && mayVs p.done p.done (valsV p.votes))):=by
 unfold mayP
 rw[Bool.and_assoc]
 show _=(headP p.val && _)
 rw[show(p.val).votes.length =p.votes.length from valsV_length p.votes]
 rfl
theorem highF_two {v:Int} (h:highF v 0=true):0<=v/\v<=2305843009213693952:=by
 unfold highF at h
 simpa using h
set_option maxHeartbeats 4000000 in
theorem MayP_any (p:PromC) (w:World) (h:RdV w p.u p.votes):Calls Try.prog 38 #[promVal p] w (SaysB (mayP p.val) w):=by
 rw[mayP_val]
 unfold headP
 obtain⟨pw,pd,pv,ps,pt,pl,pa,pc⟩:=p
 unfold PromC.u at h
 unfold promVal PromC.val PromC.u
 dsimp only at h ⊢
 have HB:=hid (newAlloc w (.cells #[.int .i64 pw,.int .i64 pd,.int .i64 pv,.int .i64 ps,.int .i64 pt,.slice pa pl.length pc] 59))
 have C1:=hid (fun w=>isNumP_any pd w)
 have C2:=hid (fun w=>isNumP_any pv w)
 have C3:=hid (fun w=>isNumP_any ps w)
 have C4:=hid (fun w=>isNumP_any pt w)
 have C5:=hid (fun h0 h1=>mayVotes_any _ pl pd _ (h.later HB.out) h0 h1)
 have HQ:=hid (@highF_two pd)
 clear h
 generalize (decide (pl.length<=9) && mayVs pd pd (valsV pl))=H5 at C5 ⊢
 generalize pl.length=L at*
 generalize highF pd 0=H1 at C1 HQ ⊢
 generalize highF pv 0=H2 at C2 ⊢
 generalize highF ps 0=H3 at C3 ⊢
 generalize highF pt 0=H4 at C4 ⊢
 by_cases k1:0<=pw
 case neg=>
  have d1:decide (0<=pw)=false:=decide_eq_false k1
  clear k1
  go_enter Try.func38,Try.ntmps38
  go_wp2
  go_ret
  exact⟨by simp [d1],HB.out⟩
 have d1:decide (0<=pw)=true:=decide_eq_true k1
 by_cases k2:pw<7
 case neg=>
  have d2:decide (pw<7)=false:=decide_eq_false k2
  clear k1 k2
  go_enter Try.func38,Try.ntmps38
  go_wp2
  go_ret
  exact⟨by simp [d2],HB.out⟩
 have d2:decide (pw<7)=true:=decide_eq_true k2
 clear k1 k2
 cases H1
 case false=>
  go_enter Try.func38,Try.ntmps38
  go_wp2_with fail
  refine(C1.out _).mono ?_
  rintro e w1 ⟨rfl,rfl⟩
  go_wp2
  go_ret
  exact⟨by simp,HB.out⟩
 cases H2
 case false=>
  go_enter Try.func38,Try.ntmps38
  go_wp2_with fail
  refine(C1.out _).mono ?_
  rintro e w1 ⟨rfl,rfl⟩
  go_wp2_with fail
  refine(C2.out _).mono ?_
  rintro e w1 ⟨rfl,rfl⟩
  go_wp2
  go_ret
  exact⟨by simp,HB.out⟩
 cases H3
 case false=>
  go_enter Try.func38,Try.ntmps38
  go_wp2_with fail
  refine(C1.out _).mono ?_
  rintro e w1 ⟨rfl,rfl⟩
  go_wp2_with fail
  refine(C2.out _).mono ?_
  rintro e w1 ⟨rfl,rfl⟩
  go_wp2_with fail
  refine(C3.out _).mono ?_
  rintro e w1 ⟨rfl,rfl⟩
  go_wp2
  go_ret
  exact⟨by simp,HB.out⟩
 cases H4
 case false=>
  go_enter Try.func38,Try.ntmps38
  go_wp2_with fail
  refine(C1.out _).mono ?_
  rintro e w1 ⟨rfl,rfl⟩
  go_wp2_with fail
  refine(C2.out _).mono ?_
  rintro e w1 ⟨rfl,rfl⟩
  go_wp2_with fail
  refine(C3.out _).mono ?_
  rintro e w1 ⟨rfl,rfl⟩
  go_wp2_with fail
  refine(C4.out _).mono ?_
  rintro e w1 ⟨rfl,rfl⟩
  go_wp2
  go_ret
  exact⟨by simp,HB.out⟩
 have CC:=hid (C5.out (HQ.out rfl).1 (HQ.out rfl).2)
 go_enter Try.func38,Try.ntmps38
 go_wp2_with fail
 refine(C1.out _).mono ?_
 rintro e w1 ⟨rfl,rfl⟩
 go_wp2_with fail
 refine(C2.out _).mono ?_
 rintro e w1 ⟨rfl,rfl⟩
 go_wp2_with fail
 refine(C3.out _).mono ?_
 rintro e w1 ⟨rfl,rfl⟩
 go_wp2_with fail
 refine(C4.out _).mono ?_
 rintro e w1 ⟨rfl,rfl⟩
 go_wp2_with (go_at_call 51;refine CC.out.mono ?_;rintro e w1 ⟨rfl,hb1⟩)
 go_ret
 exact⟨by simp [d1,d2],step HB.out hb1⟩
theorem isBetter_any (x y:VoteC) (w:World):Calls Try.prog 75 #[voteVal x,voteVal y] w (SaysB (better x.val y.val) w):=by
 unfold better
 obtain⟨xs,xb,⟨xf,xv,xtv,xts,xt,xr⟩,xa,xc⟩:=x
 obtain⟨ys,yb,⟨yf,yv,ytv,yts,yt,yr⟩,ya,yc⟩:=y
 unfold voteVal VoteC.val VoteC.u
 dsimp only
 have HB:=hid (stepAlloc (newAlloc w (.cells #[.int .i64 xs,.int .i64 xb,.bool xf,.int .i64 xv,.int .i64 xtv,.int .i64 xts,.int .i64 xt,.slice xa xr.length xc] 48)) (.cells #[.int .i64 ys,.int .i64 yb,.bool yf,.int .i64 yv,.int .i64 ytv,.int .i64 yts,.int .i64 yt,.slice ya yr.length yc] 48))
 generalize xr.length=n at*
 generalize yr.length=m at*
 by_cases k1:ys=0
 ·have d1:(ys==0)=true:=by simpa using k1
  have k1':=hid k1
  clear k1
  go_enter Try.func75,Try.ntmps75
  go_wp2
  go_ret
  exact⟨by simp [k1'.out],HB.out⟩
 ·have d1:(ys==0)=false:=by simpa using k1
  have k1':=hid k1
  clear k1
  go_enter Try.func75,Try.ntmps75
  go_wp2
  go_ret
  exact⟨by simp [k1'.out],HB.out⟩
end Pl
end Go.Proofs.Ytbpmfjjbfiiiaaa

/- hasTwins, newest, batchOf; batch.Walk and the document's. -/
set_option linter.unusedVariables false
set_option maxRecDepth 8000
set_option linter.unusedSimpArgs false
namespace Go.Proofs.Ytbpmfjjbfiiiaaa
open Lib (hid)
open Go.RowKit
namespace Pl
open Cm Ac

def twinsF:List PromV->Bool
 | x::y::l=>decide (x.who=y.who) || twinsF (y::l)
 | _=>false
theorem twinsF_step (l:List PromV) (i:Nat) (h0:0<i) (h:i<l.length):twinsF (l.drop (i - 1))=(decide (l[i - 1].who =l[i].who) || twinsF (l.drop i)):=by
 rw[List.drop_eq_getElem_cons (by omega:i - 1<l.length),show i - 1+1=i by omega,List.drop_eq_getElem_cons h,twinsF,<-List.drop_eq_getElem_cons h]
theorem twinsF_end (l:List PromV) (i:Nat) (h:l.length<=i):twinsF (l.drop (i - 1))=false:=by
 have:(l.drop (i - 1)).length <=1:=by simp;omega
 match l.drop (i - 1),this with
 | [],_=>rfl
 | [x],_=>rfl
 | _::_::_,h=>simp at h
set_option maxHeartbeats 4000000 in
theorem hasTwins_any (v:Value) (L:List PromC) (w:World) (h:RdX 6 cellsP w v L) (h0:0<L.length):Calls Try.prog 64 #[v] w (SaysB (twinsF (valsP L)) w):=by
 have hm:=h.len
 have hl0:=valsP_length L
 obtain⟨a,cap,rfl⟩:=h.form
 obtain⟨_,_,hv,hlc,hcm, -⟩:=h.ex
 cases hv
 have HA:=hid (fun i hi=>rdp_at h i hi)
 have HD:=hid (fun i h0 hi=>twinsF_step (valsP L) i h0 hi)
 have HE:=hid (fun i hi=>twinsF_end (valsP L) i hi)
 have HG:=hid (fun i (hi:i<L.length) hi'=>congrArg PromV.who (valsP_get L i hi hi'))
 have HZ:=hid (show twinsF (valsP L)=twinsF ((valsP L).drop (1 - 1)) from rfl)
 clear h
 generalize valsP L=V at HD HE HG HZ hl0 ⊢
 obtain⟨N,hN⟩: ∃N,L.length=N:=⟨_,rfl⟩
 have HN:=hid hN
 rw[hN] at hm hl0 h0 hlc ⊢
 clear hN
 have HV:=hid hl0
 clear hl0
 go_enter Try.func64,Try.ntmps64
 go_wp2
 go_loopw [3,4] (fun i t wr=> ∃j:Nat,1<=j/\j<=N/\i= .int .i64 j/\Hid (Below w.heap.size w wr)/\Hid (twinsF V=twinsF (V.drop (j - 1)))) (fun i _ _=>N - (intOf i).toNat)
 case atStart=>exact⟨1,by omega,h0,by go_num,hid (Below.refl _ _),HZ⟩
 case round=>
  obtain⟨j,hj1,hj,rfl,HB,ha⟩:=hrel
  by_cases hlt:j<N
  ·have hjl:j<L.length:=by rw[HN.out];exact hlt
   have hjl2:j - 1<L.length:=by omega
   have hjv:j<V.length:=by rw[HV.out];exact hlt
   have hd:=HD.out j (by omega) hjv
   rw[HG.out j hjl hjv,HG.out (j - 1) hjl2 (by omega)] at hd
   obtain⟨b,o,rfl,hc⟩:=HA.out j hjl
   obtain⟨q0, -⟩:=hc _ HB.out
   obtain⟨b',o',e',hc'⟩:=HA.out (j - 1) hjl2
   cases e'
   obtain⟨r0, -⟩:=hc' _ HB.out
   unfold PromC.val at hd
   dsimp only at hd
   clear hc hc'
   obtain⟨y,hy⟩: ∃y,L[j].who =y:=⟨_,rfl⟩
   obtain⟨x,hx⟩: ∃x,L[j - 1].who =x:=⟨_,rfl⟩
   rw[hy] at q0 hd
   rw[hx] at r0 hd
   clear hx hy
   obtain⟨J,hJ⟩: ∃J,j - 1=J:=⟨_,rfl⟩
   rw[hJ] at r0
   have ew:IntKind.i64.wrap ((j:Int) - 1)=(J:Int):=by rw[IntKind.wrap_i64];omega
   have hJN:J<N:=by omega
   have HD2:=hid hd
   have HJJ:=hid hJ
   have HDK:=hid (show decide (x=y)=true->twinsF V=true from fun q=>by rw[ha.out,HD2.out];simp only[decide_eq_true_eq] at q;simp [q])
   have HDL:=hid (show ¬x=y->twinsF V=twinsF (V.drop j) from fun q=>by rw[ha.out,HD2.out];simp [q])
   clear hd hJ HD2 hjl hjl2 hjv
   by_cases k:x=y
   ·have d:(x==y)=true:=by simpa using k
    have K:=hid (HDK.out (decide_eq_true k))
    clear k
    go_upto_region 4 with fail
    go_quiet (fail)
    go_wp2
    go_ret
    exact⟨by rw[K.out];rfl,below_drewB HB.out nq⟩
   ·have d:(x==y)=false:=by simpa using k
    have K:=hid (HDL.out k)
    clear k
    go_upto_region 4 with fail
    go_quiet (fail)
    go_wp2
    go_roundw
    case rel=>exact⟨j+1,by omega,by omega,by go_num,hid (below_drewB HB.out nq),hid (by rw[K.out];rfl)⟩
    case measure=>simp [intOf];omega
  ·obtain rfl:j=N:=by omega
   go_wp2
   go_ret
   exact⟨by rw[ha.out,HE.out _ (by rw[HV.out];exact Nat.le_refl _)];rfl,HB.out⟩
def newC (p:PromC):List PromC->PromC
 | []=>p
 | x::l=>newC (if p.done<x.done then x else p) l
theorem newC_val (p:PromC): ∀l,(newC p l).val =newF p.val (valsP l)
 | []=>rfl
 | x::l=>by
  rw[newC]
  show _=newF p.val (x.val::valsP l)
  rw[newF,newC_val _ l]
  show newF (if p.done<x.done then x else p).val _=newF (if p.done<x.done then x.val else p.val) _
  split<;>rfl
theorem newC_mem: ∀(l:List PromC) (p:PromC),newC p l=p\/newC p l∈l
 | [],p=>.inl rfl
 | x::l,p=>by
  rw[newC]
  rcases newC_mem l (if p.done<x.done then x else p) with e | e
  ·rw[e]
   split
   ·exact .inr List.mem_cons_self
   ·exact .inl rfl
  ·exact .inr (List.mem_cons_of_mem _ e)
theorem newC_step (p:PromC) (l:List PromC) (i:Nat) (h:i<l.length):newC p (l.drop i)=newC (if p.done<l[i].done then l[i] else p) (l.drop (i+1)):=by
 rw[List.drop_eq_getElem_cons h,newC]
structure BoxP (w:World) (b:Nat) (p:PromC):Prop where
 ex:w.heap[b]?=some (promObj p)
section
variable {w w' : World} {b g : Nat} {p : PromC}
theorem BoxP.lt (h:BoxP w b p):b<w.heap.size:=get_ltB h.ex
theorem BoxP.later (h:BoxP w b p) (hb:Below w.heap.size w w'):BoxP w' b p:=⟨cells_later h.ex hb⟩
theorem BoxP.gr (h:BoxP w b p) (hg:w.grownBy w' (some g)) (hne:b≠g):BoxP w' b p:=⟨(hg.block _ h.lt (fun q=>hne (by cases q;rfl))).trans h.ex⟩
theorem BoxP.c (h:BoxP w b p):w.cell? ⟨b,0,none⟩=some (.int .i64 p.who)/\w.cell? ⟨b,1,none⟩=some (.int .i64 p.done)/\w.cell? ⟨b,2,none⟩=some (.int .i64 p.tv)/\w.cell? ⟨b,3,none⟩=some (.int .i64 p.ts)/\w.cell? ⟨b,4,none⟩=some (.int .i64 p.time)/\w.cell? ⟨b,5,none⟩=some p.u:=
 ⟨cell_at h.ex 0,cell_at h.ex 1,cell_at h.ex 2,cell_at h.ex 3,cell_at h.ex 4,cell_at h.ex 5⟩
theorem BoxP.f (h:BoxP w b p) (k:Nat):w.frozen? ⟨b,k,none⟩=false:=frozen_at h.ex k
theorem BoxP.new (w:World) (p:PromC) (b:Nat) (hb:w.heap.size=b):BoxP (w.alloc (promObj p)) b p:=⟨alloc_atB w _ _ hb⟩
def putP (w:World) (b:Nat) (y:PromC):World:=(((((w.setCell ⟨b,0,none⟩ (.int .i64 y.who)).setCell ⟨b,1,none⟩ (.int .i64 y.done)).setCell ⟨b,2,none⟩ (.int .i64 y.tv)).setCell ⟨b,3,none⟩ (.int .i64 y.ts)).setCell ⟨b,4,none⟩ (.int .i64 y.time)).setCell ⟨b,5,none⟩ y.u
theorem BoxP.put (h:BoxP w b p) (y:PromC):BoxP (putP w b y) b y:=by
 refine⟨?_⟩
 unfold putP
 rw[set_atB (set_atB (set_atB (set_atB (set_atB (set_atB h.ex _ _) _ _) _ _) _ _) _ _) _ _]
 rfl
theorem grown_putP (w:World) (b:Nat) (y:PromC):w.grownBy (putP w b y) (some b):=by
 have g1: ∀(w:World) (j:Nat) (u:Value),w.grownBy (w.setCell ⟨b,j,none⟩ u) (some b):=fun w j u=>
  ⟨rfl,rfl,rfl,by simp,fun k hk hne=>Below.heap_setCell _ _ _ _ (fun q=>hne (by rw[show k=b from q]))⟩
 exact(((((g1 w _ _).trans (g1 _ _ _)).trans (g1 _ _ _)).trans (g1 _ _ _)).trans (g1 _ _ _)).trans (g1 _ _ _)
theorem below_putP {B:Nat} {a:World} (h:Below B a w) (hb:B<=b) (y:PromC):Below B a (putP w b y):=
 (((((h.setCell (p:=⟨b,0,none⟩) hb _).setCell (p:=⟨b,1,none⟩) hb _).setCell (p:=⟨b,2,none⟩) hb _).setCell (p:=⟨b,3,none⟩) hb _).setCell (p:=⟨b,4,none⟩) hb _).setCell (p:=⟨b,5,none⟩) hb _
end

set_option maxHeartbeats 4000000 in
theorem newest_any (v:Value) (p:PromC) (l:List PromC) (w:World) (h:RdX 6 cellsP w v (p::l)):Calls Try.prog 65 #[v] w (fun e w'=>e= .returned (promVal (newC p l))/\Below w.heap.size w w'):=by
 have hm:=h.len
 obtain⟨a,cap,rfl⟩:=h.form
 obtain⟨_,_,hv,hlc,hcm, -⟩:=h.ex
 cases hv
 have HA:=hid (fun i hi=>rdp_at h i hi)
 obtain⟨b0,o0,ha0,hc0⟩:=rdp_at h 0 (by simp)
 have HSt:=hid (newC_step)
 clear h
 obtain⟨N,hN⟩: ∃N,(p::l).length =N:=⟨_,rfl⟩
 have HN:=hid (show l.length+1=N from hN)
 have h0:0<N:=by rw[<-hN];simp
 rw[hN] at hm hlc ⊢
 clear hN
 obtain⟨q0,q1,q2,q3,q4,q5⟩:=hc0 (w.alloc (.cells #[.int .i64 0,.int .i64 0,.int .i64 0,.int .i64 0,.int .i64 0,.slice none 0 0] 59)) (newAlloc _ _)
 simp only[Nat.zero_mul,Nat.add_zero] at q0 q1 q2 q3 q4 q5
 clear hc0
 subst ha0
 obtain⟨M,hM⟩: ∃M,N - 1=M:=⟨_,rfl⟩
 have HM:=hid (show l.length=M by have:=HN.out;omega)
 have e1:(N:Int) - 1=(M:Int):=by omega
 obtain⟨P,hP⟩: ∃P,P=p:=⟨_,rfl⟩
 have hPP:=hid hP
 rw[<-hP] at q0 q1 q2 q3 q4 q5
 clear hP
 obtain⟨pw,pd,pv,ps,pt,pl,pa,pc⟩:=P
 unfold PromC.u at q5
 simp only[List.getElem_cons_zero] at q0 q1 q2 q3 q4 q5
 have h1N:1<=N:=h0
 have hba:=newAlloc w (.cells #[.int .i64 0,.int .i64 0,.int .i64 0,.int .i64 0,.int .i64 0,.slice none 0 0] 59)
 have HZ0:Hid (BoxP (w.alloc (.cells #[.int .i64 0,.int .i64 0,.int .i64 0,.int .i64 0,.int .i64 0,.slice none 0 0] 59)) w.heap.size ⟨0,0,0,0,0,[],none,0⟩):=hid (BoxP.new w ⟨0,0,0,0,0,[],none,0⟩ _ rfl)
 go_enter Try.func65,Try.ntmps65
 go_upto_region 2 with fail
 have hbb:=stepAlloc hba (.cells #[.int .i64 pw,.int .i64 pd,.int .i64 pv,.int .i64 ps,.int .i64 pt,.slice pa pl.length pc] 59)
 have HZ1:=hid (HZ0.out.later (newAlloc _ (.cells #[.int .i64 pw,.int .i64 pd,.int .i64 pv,.int .i64 ps,.int .i64 pt,.slice pa pl.length pc] 59)))
 have HP1:Hid (BoxP ((w.alloc (.cells #[.int .i64 0,.int .i64 0,.int .i64 0,.int .i64 0,.int .i64 0,.slice none 0 0] 59)).alloc (.cells #[.int .i64 pw,.int .i64 pd,.int .i64 pv,.int .i64 ps,.int .i64 pt,.slice pa pl.length pc] 59)) (w.heap.size+1) ⟨pw,pd,pv,ps,pt,pl,pa,pc⟩):=hid (BoxP.new _ ⟨pw,pd,pv,ps,pt,pl,pa,pc⟩ _ (by simp))
 generalize (w.alloc (.cells #[.int .i64 0,.int .i64 0,.int .i64 0,.int .i64 0,.int .i64 0,.slice none 0 0] 59)).alloc (.cells #[.int .i64 pw,.int .i64 pd,.int .i64 pv,.int .i64 ps,.int .i64 pt,.slice pa pl.length pc] 59)=W at hbb HZ1 HP1 ⊢
 have HB0:=hid hbb
 clear hba hbb HZ0 q0 q1 q2 q3 q4 q5
 rw[hPP.out] at HP1
 clear hPP
 by_cases hcp:cap=1
 ·have hl0:l= []:=List.length_eq_zero_iff.1 (by have:=HN.out;omega)
  subst hcp
  obtain rfl:N=1:=by omega
  obtain rfl:M=0:=by omega
  subst hl0
  clear hM e1
  go_wp2
  go_loopw [5,12] (fun y i wr=>i= .int .i64 0/\wr=W) (fun _ _ _=>0)
  case atStart=>exact⟨rfl,rfl⟩
  case round=>
   obtain⟨rfl,rfl⟩:=hrel
   have HP:=HP1
   have HZ:=HZ1
   have HB:=HB0
   obtain⟨X,hX⟩: ∃X,X=p:=⟨_,rfl⟩
   have EX:Hid (newC p []=X):=hid hX.symm
   rw[<-hX] at HP
   clear hX
   obtain⟨m0,m1,m2,m3,m4,m5⟩:=HP.out.c
   obtain⟨z0,z1,z2,z3,z4,z5⟩:=HZ.out.c
   have zf:=HZ.out.f
   unfold PromC.u at m5 z5
   dsimp only[List.length_nil] at z0 z1 z2 z3 z4 z5
   have HBF:=hid (below_putP HB.out (Nat.le_refl _) X)
   unfold putP PromC.u at HBF
   go_wp2
   refine bodyPost_ret (by simp [results,Try.results65,go_sem,z0,z1,z2,z3,z4,z5]<;>rfl) rfl ⟨by rw[EX.out];rfl,HBF.out⟩
 go_wp2
 go_loopw [5,12] (fun y i wr=> ∃(k:Nat) (X:PromC),k<=M/\i= .int .i64 k/\Hid (newC p l=newC X (l.drop k))/\Hid (BoxP wr (w.heap.size+1) X)/\Hid (BoxP wr w.heap.size ⟨0,0,0,0,0,[],none,0⟩)/\Hid (Below w.heap.size w wr)) (fun _ i _=>M - (intOf i).toNat)
 case atStart=>exact⟨0,p,by omega,rfl,hid rfl,HP1,HZ1,HB0⟩
 case round=>
  obtain⟨k,X,hk,rfl,HX,HP,HZ,HB⟩:=hrel
  by_cases hlt:k<M
  case neg=>
   obtain rfl:k=M:=by omega
   have EX:Hid (newC p l=X):=hid (by rw[HX.out,List.drop_eq_nil_of_le (by rw[HM.out];exact Nat.le_refl _)];rfl)
   obtain⟨m0,m1,m2,m3,m4,m5⟩:=HP.out.c
   obtain⟨z0,z1,z2,z3,z4,z5⟩:=HZ.out.c
   have zf:=HZ.out.f
   unfold PromC.u at m5 z5
   dsimp only[List.length_nil] at z0 z1 z2 z3 z4 z5
   have HBF:=hid (below_putP HB.out (Nat.le_refl _) X)
   unfold putP PromC.u at HBF
   go_wp2
   refine bodyPost_ret (by simp [results,Try.results65,go_sem,z0,z1,z2,z3,z4,z5]<;>rfl) rfl ⟨by rw[EX.out];rfl,HBF.out⟩
  have hkl:k<l.length:=by rw[HM.out];exact hlt
  have hkp:k+1<(p::l).length :=by simp;omega
  obtain⟨b',o',e',hc⟩:=HA.out (k+1) hkp
  cases e'
  have hst:=HSt.out X l k hkl
  obtain⟨q0,q1,q2,q3,q4,q5⟩:=hc _ HB.out
  simp only[List.getElem_cons_succ] at q0 q1 q2 q3 q4 q5
  obtain⟨y,hy⟩: ∃y,l[k]=y:=⟨_,rfl⟩
  rw[hy] at hst q0 q1 q2 q3 q4 q5
  clear hc hy HSt HA
  have eo0: ∀z:Nat,z+(k+1)*6=z+6+k*6:=fun z=>by omega
  rw[eo0] at q0 q1 q2 q3 q4 q5
  clear eo0
  have hk0:(0:Int)<=(k:Int):=by omega
  have hk1:(k:Int)<(M:Int):=by omega
  have HP2:=hid (HP.out.later (newAlloc wr (promObj y)))
  have HZ2:=hid (HZ.out.later (newAlloc wr (promObj y)))
  have HB2:=hid (stepAlloc HB.out (promObj y))
  have HY2:=hid (BoxP.new wr y _ rfl)
  obtain⟨m0,m1,m2,m3,m4,m5⟩:=HP2.out.c
  obtain⟨r0,r1,r2,r3,r4,r5⟩:=HY2.out.c
  have mf:=HP2.out.f
  have HPY:=hid (HP2.out.put y)
  have HZY:=hid (HZ2.out.gr (g:=w.heap.size+1) (grown_putP _ _ y) (by omega))
  have HBY:=hid (below_putP HB2.out (show w.heap.size<=w.heap.size+1 by omega) y)
  unfold promObj at m0 m1 m2 m3 m4 m5 r0 r1 r2 r3 r4 r5 mf HP2 HZ2 HB2 HY2 HPY HZY HBY
  unfold putP at HPY HZY HBY
  unfold PromC.u at m0 m1 m2 m3 m4 m5 r0 r1 r2 r3 r4 r5 mf HP2 HZ2 HB2 HPY HZY HBY q5
  have HST:=hid hst
  clear hst hkl hkp
  by_cases c:X.done<y.done
  ·have d:decide (X.done<y.done)=true:=decide_eq_true c
   have HST2:Hid (newC p l=newC y (l.drop (k+1))):=hid (by rw[HX.out,HST.out,if_pos c])
   clear c
   go_wp2
   go_roundw
   case rel=>exact⟨k+1,y,by omega,by go_num,HST2,HPY,HZY,HBY⟩
   case measure=>simp [intOf];omega
  ·have d:decide (X.done<y.done)=false:=decide_eq_false c
   have HST2:Hid (newC p l=newC X (l.drop (k+1))):=hid (by rw[HX.out,HST.out,if_neg c])
   clear c
   go_wp2
   go_roundw
   case rel=>exact⟨k+1,X,by omega,by go_num,HST2,HP2,HZ2,HB2⟩
   case measure=>simp [intOf];omega
end Pl
end Go.Proofs.Ytbpmfjjbfiiiaaa
