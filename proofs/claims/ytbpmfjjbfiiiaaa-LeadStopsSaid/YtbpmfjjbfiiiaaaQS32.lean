/- Texts laid together by program. -/
import Derived.Test.YtbpmfjjbfiiiaaaQS20
/- The document's SameVotes; one vote of a row. -/
set_option linter.unusedVariables false
set_option maxRecDepth 8000
set_option linter.unusedSimpArgs false
namespace Go.Proofs.Ytbpmfjjbfiiiaaa
open Lib (hid)
open Go.RowKit
namespace Ac
open Cm

set_option maxHeartbeats 4000000 in
theorem SameVotes_any (u v:Value) (l m:List VoteC) (w:World) (h:RdV w u l) (h2:RdV w v m):
  Calls Try.prog 26 #[u,v] w (SaysB (sameVs (valsV l) (valsV m)) w):=by
 have hm:=h.len
 have hm2:=h2.len
 obtain⟨a,cap,rfl⟩:=h.form
 obtain⟨a2,cap2,rfl⟩:=h2.form
 by_cases hn:l.length=m.length
 ·have HA:=hid (fun i hi=>rdv_at h.row i hi)
  have HA2:=hid (fun i hi=>rdv_at h2.row i hi)
  have HR:=hid (fun i (hi:i<l.length)=>h.reqs l[i] (List.getElem_mem hi))
  have HR2:=hid (fun i (hi:i<m.length)=>h2.reqs m[i] (List.getElem_mem hi))
  have HD:Hid (∀i (ha:i<l.length) (hb:i<m.length),sameVs ((valsV l).drop i) ((valsV m).drop i)=(eqVt l[i].val m[i].val && sameVs ((valsV l).drop (i+1)) ((valsV m).drop (i+1)))):=hid fun i ha hb=>by
   rw[sameVs_step _ _ i (by rw[valsV_length];exact ha) (by rw[valsV_length];exact hb),valsV_get l i ha,valsV_get m i hb]
  have HE:Hid (∀i,l.length<=i->m.length<=i->sameVs ((valsV l).drop i) ((valsV m).drop i)=true):=hid fun i ha hb=>sameVs_end _ _ i (by rw[valsV_length];exact ha) (by rw[valsV_length];exact hb)
  clear h h2
  obtain⟨L,hL⟩: ∃L,l.length=L:=⟨_,rfl⟩
  have hL2:m.length=L:=by omega
  have HL:=hid hL
  have HL2:=hid hL2
  rw[hL] at hm ⊢
  rw[hL2] at hm2 ⊢
  clear hL hL2 hn
  go_enter Try.func26,Try.ntmps26
  go_wp2
  go_loopw [5] (fun i wr=> ∃j:Nat,j<=L/\i= .int .i64 j/\Hid (Below w.heap.size w wr)/\Hid (sameVs (valsV l) (valsV m)=sameVs ((valsV l).drop j) ((valsV m).drop j))) (fun i _=>L - (intOf i).toNat)
  case atStart=>exact⟨0,by omega,rfl,hid (Below.refl _ _),hid rfl⟩
  case round=>
   obtain⟨j,hj,rfl,HB,ha⟩:=hrel
   by_cases hlt:j<L
   ·have h1:j<l.length:=by rw[HL.out];exact hlt
    have h2:j<m.length:=by rw[HL2.out];exact hlt
    obtain⟨b,o,rfl,hc⟩:=HA.out j h1
    obtain⟨b',o',rfl,hc2⟩:=HA2.out j h2
    obtain⟨q0,q1,q2,q3,q4,q5,q6,q7⟩:=hc _ HB.out
    obtain⟨p0,p1,p2,p3,p4,p5,p6,p7⟩:=hc2 _ HB.out
    have HRX:=hid ((HR.out j h1).later HB.out)
    have HRY:=hid ((HR2.out j h2).later HB.out)
    have hd:=HD.out j h1 h2
    clear HA HA2 HD HR HR2 hc hc2
    generalize l[j]=x at q0 q1 q2 q3 q4 q5 q6 q7 hd HRX
    generalize m[j]=y at p0 p1 p2 p3 p4 p5 p6 p7 hd HRY
    obtain⟨x1,x2,⟨x3,x4,x5,x6,x7,x8⟩,xa,xc⟩:=x
    obtain⟨y1,y2,⟨y3,y4,y5,y6,y7,y8⟩,ya,yc⟩:=y
    unfold VoteC.u at q7 p7 HRX HRY
    dsimp only at q0 q1 q2 q3 q4 q5 q6 q7 p0 p1 p2 p3 p4 p5 p6 p7 HRX HRY
    clear h1 h2
    rw[show eqVt (VoteC.val ⟨x1,x2,⟨x3,x4,x5,x6,x7,x8⟩,xa,xc⟩) (VoteC.val ⟨y1,y2,⟨y3,y4,y5,y6,y7,y8⟩,ya,yc⟩)=(decide (x1=y1) && decide (x2=y2) && sameB ⟨x3,x4,x5,x6,x7,x8⟩ ⟨y3,y4,y5,y6,y7,y8⟩) from rfl] at hd
    by_cases e:x1=y1
    case neg=>
     have d0:(x1 != y1)=true:=by simpa using e
     have H:Hid (sameVs ((valsV l).drop j) ((valsV m).drop j)=false):=hid (by rw[hd];simp [e])
     clear hd e
     go_upto_region 6 with fail
     go_quiet (fail)
     go_wp2
     go_ret
     exact⟨by rw[ha.out,H.out];rfl,below_drewB HB.out nq⟩
    have d0:(x1 != y1)=false:=by simp [e]
    rw[decide_eq_true e] at hd
    clear e
    by_cases e:x2=y2
    case neg=>
     have d1:(x2 != y2)=true:=by simpa using e
     have H:Hid (sameVs ((valsV l).drop j) ((valsV m).drop j)=false):=hid (by rw[hd];simp [e])
     clear hd e
     go_upto_region 6 with fail
     go_quiet (fail)
     go_wp2
     go_ret
     exact⟨by rw[ha.out,H.out];rfl,below_drewB HB.out nq⟩
    have d1:(x2 != y2)=false:=by simp [e]
    rw[decide_eq_true e] at hd
    clear e
    have hd:sameVs ((valsV l).drop j) ((valsV m).drop j)=(sameB ⟨x3,x4,x5,x6,x7,x8⟩ ⟨y3,y4,y5,y6,y7,y8⟩ && sameVs ((valsV l).drop (j+1)) ((valsV m).drop (j+1))):=hd
    have CS:=hid (fun W h1 h2=>RefSameB_any ⟨x3,x4,x5,x6,x7,x8⟩ ⟨y3,y4,y5,y6,y7,y8⟩ (.slice xa x8.length xc) (.slice ya y8.length yc) W h1 h2)
    unfold batVal at CS
    dsimp only at CS
    generalize sameB ⟨x3,x4,x5,x6,x7,x8⟩ ⟨y3,y4,y5,y6,y7,y8⟩=SB at hd CS
    have HQ:=hid hd
    clear hd
    have D1:=hid (fun d os=>Calls.regrown_of (w:=wr) (d:=d) (os:=os) (CS.out _ (HRX.out.later (below_regrown wr d os)) (HRY.out.later (below_regrown wr d os))))
    have c0:=cell_regrown q0
    have c1:=cell_regrown q1
    have c2:=cell_regrown q2
    have c3:=cell_regrown q3
    have c4:=cell_regrown q4
    have c5:=cell_regrown q5
    have c6:=cell_regrown q6
    have c7:=cell_regrown q7
    have e0:=cell_regrown p0
    have e1:=cell_regrown p1
    have e2:=cell_regrown p2
    have e3:=cell_regrown p3
    have e4:=cell_regrown p4
    have e5:=cell_regrown p5
    have e6:=cell_regrown p6
    have e7:=cell_regrown p7
    clear q0 q1 q2 q3 q4 q5 q6 q7 p0 p1 p2 p3 p4 p5 p6 p7 CS HRX HRY
    go_upto_region 6 with fail
    refine wp_region_quiet_below (by kernel_rfl) (by kernel_rfl) ?_
    repeat (go_big_quiet_step (exact D1.out _ _))
    refine wpQuiet_nil ?_
    intro _ hw'
    obtain⟨⟨dq,osq⟩,hw2⟩:=hw'
    subst hw2
    have HBN:=hid (step HB.out (below_regrown wr dq osq))
    clear D1 c0 c1 c2 c3 c4 c5 c6 c7 e0 e1 e2 e3 e4 e5 e6 e7
    cases SB
    ·go_wp2
     go_ret
     exact⟨by rw[ha.out,HQ.out];rfl,HBN.out⟩
    ·go_wp2
     go_roundw
     case rel=>exact⟨j+1,by omega,by go_num,HBN,hid (by rw[ha.out,HQ.out];rfl)⟩
     case measure=>simp [intOf];omega
   ·obtain rfl:j=L:=by omega
    have H:=HE.out j (by rw[HL.out];exact Nat.le_refl _) (by rw[HL2.out];exact Nat.le_refl _)
    have HF:=hid H
    clear H HA HA2 HD HR HR2 HE
    go_wp2
    go_ret
    exact⟨by rw[ha.out,HF.out];rfl,HB.out⟩
 ·have H:=hid (sameVs_len (valsV l) (valsV m) (by rw[valsV_length,valsV_length];exact hn))
  have d0:((l.length:Int) != (m.length:Int))=true:=by simp;omega
  clear h h2
  go_enter Try.func26,Try.ntmps26
  go_wp2
  go_ret
  exact⟨by rw[H.out];rfl,Below.refl _ _⟩
theorem RdX.sub1 {α:Type} {sz:Nat} {f:α->List Value} {w:World} {b o n cap:Nat} {l:List α} (h:RdX sz f w (.slice (some ⟨b,o,none⟩) n cap) l) (i:Nat) (hi:i<l.length) (c:Nat) (hc:1<=c) (hm:c<=maxLen):RdX sz f w (.slice (some ⟨b,o+i*sz,none⟩) 1 c) [l[i]]:=by
 refine⟨some ⟨b,o+i*sz,none⟩,c,rfl,hc,hm,fun q=>(by cases q),fun x hx hp=>?_⟩
 cases hx
 refine⟨rfl,fun j hj k u hu=>?_⟩
 obtain rfl:j=0:=by simpa using hj
 obtain⟨b',o',e,hcl⟩:=RdX.at h i hi
 cases e
 have:=hcl w (Below.refl _ _) k u hu
 rw[show o+i*sz+(0*sz+k)=o+(i*sz+k) by omega]
 exact this
theorem RdV.sub1 {w:World} {b o n cap:Nat} {L:List VoteC} (h:RdV w (.slice (some ⟨b,o,none⟩) n cap) L) (i:Nat) (hi:i<L.length) (c:Nat) (hc:1<=c) (hm:c<=maxLen):RdV w (.slice (some ⟨b,o+i*8,none⟩) 1 c) [L[i]]:=
 ⟨RdX.sub1 h.row i hi c hc hm,fun x hx=>by rw[List.mem_singleton.1 hx];exact h.reqs _ (List.getElem_mem hi)⟩
theorem RdX.cap {α:Type} {sz:Nat} {f:α->List Value} {w:World} {a:Option Addr} {n cap:Nat} {l:List α} (h:RdX sz f w (.slice a n cap) l):l.length<=cap/\cap<=maxLen:=by
 obtain⟨a',cap',e,h1,h2,_⟩:=h.ex
 cases e
 exact⟨h1,h2⟩
end Ac
end Go.Proofs.Ytbpmfjjbfiiiaaa
