/- Texts laid together by program. -/
import Derived.Test.YtlnbmblbeaodcaaGreatQS19
import Derived.Lib.QuietBelow
import Derived.Deep.RegionHeld3
import Derived.BigQuiet
import Derived.Deep.DrawnRows
import Derived.Shelf.Abstract
/- Memos in memory; contracts: padlockref6's SameMemos. -/
set_option linter.unusedVariables false
set_option maxRecDepth 8000
set_option linter.unusedSimpArgs false
namespace Go.Proofs.YtlnbmblbeaodcaaGreat
open Lib (hid)
open Go.RowKit
namespace Cm

theorem infoM:(Tryz.prog.info? 76).map (fun i=>(i.zero,i.size,i.bytes))=some (some (.agg #[.int .i64 0,.int .i64 0,.int .i64 0,.int .i64 0,.int .i64 0,.slice none 0 0]),6,64):=by kernel_rfl
structure MemC where
 m:AnsV
 ha:Option Addr
 hc:Nat
def MemC.hv (x:MemC):Value:=.slice x.ha x.m.rep.held.length x.hc
def valsM (L:List MemC):List AnsV:=L.map MemC.m
theorem valsM_length (L:List MemC):(valsM L).length =L.length:=by simp [valsM]
theorem valsM_get (L:List MemC) (i:Nat) (h:i<L.length) (h':i<(valsM L).length):(valsM L)[i]=L[i].m :=by simp [valsM]
theorem valsM_append (A B:List MemC):valsM (A++B)=valsM A++valsM B:=by simp [valsM]
def cellsM (x:MemC):List Value:= [.int .i64 x.m.client,.int .i64 x.m.seq,.int .i64 x.m.rep.code,.int .i64 x.m.rep.session,.int .i64 x.m.rep.ahead,x.hv]
theorem cellsM_length (x:MemC):(cellsM x).length =6:=rfl
theorem cellsM_one (x:MemC): ∀u∈cellsM x,u.oneCell'=true:=by
 intro u hu
 unfold cellsM MemC.hv at hu
 simp only[List.mem_cons,List.not_mem_nil,or_false] at hu
 rcases hu with rfl | rfl | rfl | rfl | rfl | rfl<;>rfl
def memVal (x:MemC):Value:=.agg #[.int .i64 x.m.client,.int .i64 x.m.seq,.int .i64 x.m.rep.code,.int .i64 x.m.rep.session,.int .i64 x.m.rep.ahead,x.hv]
structure RdM (w:World) (v:Value) (L:List MemC):Prop where
 row:RdX 6 cellsM w v L
 held: ∀x∈L,RdH w x.hv x.m.rep.held
theorem RdM.later {w w':World} {v:Value} {L:List MemC} (h:RdM w v L) (hb:Below w.heap.size w w'):RdM w' v L:=⟨h.row.later hb,fun x hx=>(h.held x hx).later hb⟩
theorem RdM.nil (w:World):RdM w (.slice none 0 0) []:=⟨RdX.nil w,fun x hx=>by cases hx⟩
theorem RdM.form {w:World} {v:Value} {L:List MemC} (h:RdM w v L): ∃a cap,v= .slice a L.length cap:=h.row.form
theorem RdM.len {w:World} {v:Value} {L:List MemC} (h:RdM w v L):L.length<=9223372036854775807:=h.row.len
theorem rdm_at {w:World} {a:Option Addr} {n cap:Nat} {L:List MemC} (h:RdX 6 cellsM w (.slice a n cap) L) (i:Nat) (hi:i<L.length):
  ∃b o,a=some ⟨b,o,none⟩/\ ∀w':World,Below w.heap.size w w'->w'.cell? ⟨b,o+i*6,none⟩=some (.int .i64 L[i].m.client)/\w'.cell? ⟨b,o+i*6+1,none⟩=some (.int .i64 L[i].m.seq)/\w'.cell? ⟨b,o+i*6+2,none⟩=some (.int .i64 L[i].m.rep.code)/\w'.cell? ⟨b,o+i*6+3,none⟩=some (.int .i64 L[i].m.rep.session)/\w'.cell? ⟨b,o+i*6+4,none⟩=some (.int .i64 L[i].m.rep.ahead)/\w'.cell? ⟨b,o+i*6+5,none⟩=some L[i].hv :=by
 obtain⟨b,o,e,c⟩:=h.at i hi
 exact⟨b,o,e,fun w' hb=>⟨c w' hb 0 _ rfl,c w' hb 1 _ rfl,c w' hb 2 _ rfl,c w' hb 3 _ rfl,c w' hb 4 _ rfl,c w' hb 5 _ rfl⟩⟩
def sameM:List AnsV->List AnsV->Bool
 | [],[]=>true
 | a::l,b::m=>(decide (a.client=b.client) && (decide (a.seq=b.seq) && sameP a.rep b.rep)) && sameM l m
 | _,_=>false
theorem sameM_iff: ∀l m:List AnsV,sameM l m=true ↔ l=m
 | [],[]=>by simp [sameM]
 | [],_::_=>by simp [sameM]
 | _::_,[]=>by simp [sameM]
 | ⟨a,b,c⟩::l,⟨a',b',c'⟩::m=>by
  unfold sameM
  simp [sameM_iff l m,sameP_iff]
theorem sameM_len: ∀(l m:List AnsV),l.length≠m.length->sameM l m=false
 | [],[],h=>absurd rfl h
 | [],_::_,_=>rfl
 | _::_,[],_=>rfl
 | g::l,h::m,q=>by
  have:=sameM_len l m (by simpa using q)
  unfold sameM
  rw[this,Bool.and_false]
theorem sameM_drop (l m:List AnsV) (j:Nat) (h:j<l.length) (hm:j<m.length):
  sameM (l.drop j) (m.drop j)=((decide (l[j].client =m[j].client) && (decide (l[j].seq =m[j].seq) && sameP l[j].rep m[j].rep)) && sameM (l.drop (j+1)) (m.drop (j+1))):=by
 rw[List.drop_eq_getElem_cons h,List.drop_eq_getElem_cons hm]
 rfl
set_option maxHeartbeats 4000000 in
theorem SameMemos_any (u v:Value) (l m:List MemC) (w:World) (h:RdM w u l) (h2:RdM w v m):
  Calls Tryz.prog 63 #[u,v] w (SaysB (sameM (valsM l) (valsM m)) w):=by
 have hm:=h.len
 have hm2:=h2.len
 obtain⟨a,cap,rfl⟩:=h.form
 obtain⟨a2,cap2,rfl⟩:=h2.form
 by_cases hn:l.length=m.length
 ·have HA:=hid (fun i hi=>rdm_at h.row i hi)
  have HA2:=hid (fun i hi=>rdm_at h2.row i hi)
  have HS:Hid (∀i (hi:i<l.length) (hi2:i<m.length) (w':World),Below w.heap.size w w'->Calls Tryz.prog 19 #[repVal l[i].m.rep l[i].hv,repVal m[i].m.rep m[i].hv] w' (SaysB (sameP l[i].m.rep m[i].m.rep) w')):=hid fun i hi hi2 w' hb=>SameReply_any _ _ _ _ w' ((h.held _ (List.getElem_mem hi)).later hb) ((h2.held _ (List.getElem_mem hi2)).later hb)
  have HD:Hid (∀j (h:j<l.length) (hm:j<m.length),sameM ((valsM l).drop j) ((valsM m).drop j)=((decide (l[j].m.client =m[j].m.client) && (decide (l[j].m.seq =m[j].m.seq) && sameP l[j].m.rep m[j].m.rep)) && sameM ((valsM l).drop (j+1)) ((valsM m).drop (j+1)))):=hid fun j hj hj2=>by
   have:=sameM_drop (valsM l) (valsM m) j (by rw[valsM_length];exact hj) (by rw[valsM_length];exact hj2)
   rw[valsM_get l j hj,valsM_get m j hj2] at this
   exact this
  clear h h2
  obtain⟨L,hL⟩: ∃L,l.length=L:=⟨_,rfl⟩
  have hL2:m.length=L:=by omega
  have HL:=hid hL
  have HL2:=hid hL2
  rw[hL] at hm ⊢
  rw[hL2] at hm2 ⊢
  clear hL hL2 hn
  go_enter Tryz.func63,Tryz.ntmps63
  go_wp2
  go_loopw [5] (fun i wr=> ∃j:Nat,j<=L/\i= .int .i64 j/\Hid (Below w.heap.size w wr)/\Hid (sameM (valsM l) (valsM m)=sameM ((valsM l).drop j) ((valsM m).drop j))) (fun i _=>L - (intOf i).toNat)
  case atStart=>exact⟨0,by omega,rfl,hid (Below.refl _ _),hid rfl⟩
  case round=>
   obtain⟨j,hj,rfl,HB,ha⟩:=hrel
   by_cases hlt:j<L
   ·have h1:j<l.length:=by rw[HL.out];exact hlt
    have h2:j<m.length:=by rw[HL2.out];exact hlt
    obtain⟨b,o,rfl,hc⟩:=HA.out j h1
    obtain⟨b',o',rfl,hc2⟩:=HA2.out j h2
    obtain⟨q0,q1,q2,q3,q4,q5⟩:=hc _ HB.out
    obtain⟨p0,p1,p2,p3,p4,p5⟩:=hc2 _ HB.out
    have hd:=HD.out j h1 h2
    have hs:=fun w' hb=>HS.out j h1 h2 w' hb
    clear HA HA2 HD HS hc hc2
    generalize l[j]=x at q0 q1 q2 q3 q4 q5 hd hs
    generalize m[j]=y at p0 p1 p2 p3 p4 p5 hd hs
    obtain⟨⟨xc,xs,xk,xn,xd,xl⟩,xa,xp⟩:=x
    obtain⟨⟨yc,ys,yk,yn,yd,yl⟩,ya,yp⟩:=y
    unfold MemC.hv at q5 p5 hs
    unfold repVal at hs
    dsimp only at q0 q1 q2 q3 q4 q5 p0 p1 p2 p3 p4 p5 hd hs
    clear h1 h2
    have k0:=cell_regrown q0
    have k1:=cell_regrown q1
    have k2:=cell_regrown q2
    have k3:=cell_regrown q3
    have k4:=cell_regrown q4
    have k5:=cell_regrown q5
    have g0:=cell_regrown p0
    have g1:=cell_regrown p1
    have g2:=cell_regrown p2
    have g3:=cell_regrown p3
    have g4:=cell_regrown p4
    have g5:=cell_regrown p5
    have D1:=hid (fun d os=>Calls.regrown_of (w:=wr) (d:=d) (os:=os) (hs _ (step HB.out (below_regrown wr d os))))
    have f1:(0:Int)<=(j:Int):=by omega
    have f2:(j:Int)<(L:Int):=by omega
    generalize sameP ⟨xk,xn,xd,xl⟩ ⟨yk,yn,yd,yl⟩=sp at hd D1
    generalize xl.length=XN at*
    generalize yl.length=YN at*
    clear q0 q1 q2 q3 q4 q5 p0 p1 p2 p3 p4 p5 hs
    by_cases e0:xc=yc
    case neg=>
     have d0:(xc != yc)=true:=by simpa using e0
     rw[decide_eq_false e0] at hd
     have H:=hid hd
     clear hd e0
     go_upto_region 6 with fail
     refine wp_region_quiet_below (by kernel_rfl) (by kernel_rfl) ?_
     repeat (go_big_quiet_step (first | exact D1.out _ _))
     refine wpQuiet_nil ?_
     intro _ hw'
     obtain⟨⟨dq,osq⟩,hw''⟩:=hw'
     subst hw''
     go_wp2
     go_ret
     exact⟨by rw[ha.out,H.out];rfl,step HB.out (below_regrown wr dq osq)⟩
    have d0:(xc != yc)=false:=by simp [e0]
    rw[decide_eq_true e0] at hd
    clear e0
    by_cases e1:xs=ys
    case neg=>
     have d1:(xs != ys)=true:=by simpa using e1
     rw[decide_eq_false e1] at hd
     have H:=hid hd
     clear hd e1
     go_upto_region 6 with fail
     refine wp_region_quiet_below (by kernel_rfl) (by kernel_rfl) ?_
     repeat (go_big_quiet_step (first | exact D1.out _ _))
     refine wpQuiet_nil ?_
     intro _ hw'
     obtain⟨⟨dq,osq⟩,hw''⟩:=hw'
     subst hw''
     go_wp2
     go_ret
     exact⟨by rw[ha.out,H.out];rfl,step HB.out (below_regrown wr dq osq)⟩
    have d1:(xs != ys)=false:=by simp [e1]
    rw[decide_eq_true e1] at hd
    clear e1
    cases sp with
    | false=>
     have H:=hid hd
     clear hd
     go_upto_region 6 with fail
     refine wp_region_quiet_below (by kernel_rfl) (by kernel_rfl) ?_
     repeat (go_big_quiet_step (first | exact D1.out _ _))
     refine wpQuiet_nil ?_
     intro _ hw'
     obtain⟨⟨dq,osq⟩,hw''⟩:=hw'
     subst hw''
     go_wp2
     go_ret
     exact⟨by rw[ha.out,H.out];rfl,step HB.out (below_regrown wr dq osq)⟩
    | true=>
     have H:=hid hd
     clear hd
     go_upto_region 6 with fail
     refine wp_region_quiet_below (by kernel_rfl) (by kernel_rfl) ?_
     repeat (go_big_quiet_step (first | exact D1.out _ _))
     refine wpQuiet_nil ?_
     intro _ hw'
     obtain⟨⟨dq,osq⟩,hw''⟩:=hw'
     subst hw''
     have HBF:=hid (step HB.out (below_regrown wr dq osq))
     go_wp2
     go_roundw
     case rel=>exact⟨j+1,by omega,by go_num,HBF,hid (by rw[ha.out,H.out];rfl)⟩
     case measure=>simp [intOf];omega
   ·obtain rfl:j=L:=by omega
    go_wp2
    go_ret
    have ha:=ha.out
    have t1:(valsM l).drop j= []:=List.drop_eq_nil_of_le (by rw[valsM_length,HL.out];exact Nat.le_refl _)
    have t2:(valsM m).drop j= []:=List.drop_eq_nil_of_le (by rw[valsM_length,HL2.out];exact Nat.le_refl _)
    rw[t1,t2] at ha
    exact⟨by rw[ha];rfl,HB.out⟩
 ·have d1:((l.length:Int) != (m.length:Int))=true:=by simp;omega
  have e:sameM (valsM l) (valsM m)=false:=sameM_len _ _ (by rw[valsM_length,valsM_length];exact hn)
  rw[e]
  clear h h2 hn e
  generalize l.length=L at*
  generalize m.length=M at*
  go_enter Tryz.func63,Tryz.ntmps63
  go_wp2
  go_ret
  exact⟨rfl,Below.refl _ _⟩
end Cm
end Go.Proofs.YtlnbmblbeaodcaaGreat

/- Contracts: padlockref6's Last, Fresh, RightMemos. -/
set_option linter.unusedVariables false
set_option maxRecDepth 8000
set_option linter.unusedSimpArgs false
namespace Go.Proofs.YtlnbmblbeaodcaaGreat
open Lib (hid)
open Go.RowKit
namespace Cm

theorem free6m {w w':World} {x y z u v s:Value} {t:TypeId} (h:Below (w.alloc (.cells #[x,y,z,u,v,s] t)).heap.size (w.alloc (.cells #[x,y,z,u,v,s] t)) w'):
  ∀k,w'.frozen? ⟨w.heap.size,k,none⟩=false:=by
 intro k
 have hl:w.heap.size<(w.alloc (.cells #[x,y,z,u,v,s] t)).heap.size :=by simp
 rw[h.frozen (p:=⟨w.heap.size,k,none⟩) hl]
 simp [go_sem]
theorem set6m {a w:World} {b:Nat} (h:Below b a w) (g:Nat) (hg:b<=g) (x y z u v s:Value):Below b a ((((((w.setCell ⟨g,0,none⟩ x).setCell ⟨g,1,none⟩ y).setCell ⟨g,2,none⟩ z).setCell ⟨g,3,none⟩ u).setCell ⟨g,4,none⟩ v).setCell ⟨g,5,none⟩ s):=
 (((((h.setCell hg _).setCell hg _).setCell hg _).setCell hg _).setCell hg _).setCell hg _
def GetsM (r:AnsV × Bool) (w:World) (e:Ending) (w':World):Prop:=
 ∃x:MemC,e= .returned (.tuple #[memVal x,.bool r.2])/\x.m=r.1/\RdH w' x.hv x.m.rep.held/\Below w.heap.size w w'
set_option maxHeartbeats 2000000 in
theorem RefLast_any (v:Value) (L:List MemC) (c:Int) (w:World) (h:RdM w v L):Calls Tryz.prog 58 #[v,.int .i64 c] w (GetsM (lastM (valsM L) c) w):=by
 have hm:=h.len
 obtain⟨a,cap,rfl⟩:=h.form
 have HA:=hid (fun i hi=>rdm_at h.row i hi)
 have HH:Hid (∀i (hi:i<L.length) (w':World),Below w.heap.size w w'->RdH w' L[i].hv L[i].m.rep.held):=hid fun i hi w' hb=>(h.held _ (List.getElem_mem hi)).later hb
 have hb1:=newAlloc w (.cells #[.int .i64 0,.int .i64 0,.int .i64 0,.int .i64 0,.int .i64 0,.slice none 0 0] 76)
 obtain⟨c0,c1,c2,c3,c4,c5⟩:=box6 (Below.refl _ (w.alloc (.cells #[.int .i64 0,.int .i64 0,.int .i64 0,.int .i64 0,.int .i64 0,.slice none 0 0] 76)))
 have cf:=free6m (Below.refl _ (w.alloc (.cells #[.int .i64 0,.int .i64 0,.int .i64 0,.int .i64 0,.int .i64 0,.slice none 0 0] 76)))
 obtain⟨W1,hW1⟩: ∃W1,W1=w.alloc (.cells #[.int .i64 0,.int .i64 0,.int .i64 0,.int .i64 0,.int .i64 0,.slice none 0 0] 76):=⟨_,rfl⟩
 rw[<-hW1] at hb1 c0 c1 c2 c3 c4 c5 cf
 have HB:=hid hb1
 have HI:Hid (∀k (hk:k<L.length),L[k].m.client =c->(∀j (hj:j<k),(L[j]'(by omega)).m.client ≠c)->lastM (valsM L) c=(L[k].m,true)):=hid fun k hk hc hb=>by
  have e:idxI (isCl c) (valsM L)=k:=idxI_hit _ _ k (by rw[valsM_length];exact hk) (by rw[valsM_get L k hk];unfold isCl;exact decide_eq_true hc) (fun j hj=>by rw[valsM_get L j (by omega)];unfold isCl;exact decide_eq_false (hb j hj))
  obtain⟨hk',_,he⟩:=last_hit _ _ _ e
  rw[he,valsM_get L k hk]
 have HMS:Hid ((∀j (hj:j<L.length),L[j].m.client ≠c)->lastM (valsM L) c=(zeroM,false)):=hid fun hb=>last_miss _ _ (idxI_miss _ _ fun j hj=>by
  rw[valsM_length] at hj
  rw[valsM_get L j hj];unfold isCl;exact decide_eq_false (hb j hj))
 clear h hb1
 obtain⟨N,hN⟩: ∃N,L.length=N:=⟨_,rfl⟩
 have HLL:=hid hN
 rw[hN] at hm ⊢
 clear hN
 go_enter Tryz.func58,Tryz.ntmps58
 go_upto_region 1 with fail
 rw[<-hW1]
 clear hW1
 go_wp2
 go_loop [6] (fun i=> ∃k:Nat,k<=N/\i= .int .i64 k/\Hid (∀j (hj:j<k) (hl:j<L.length),L[j].m.client ≠c)) (fun i=>N - (intOf i).toNat)
 case atStart=>exact⟨0,by omega,rfl,hid (fun j hj=>absurd hj (Nat.not_lt_zero _))⟩
 case round=>
  obtain⟨k,hk,rfl,HJ⟩:=hrel
  by_cases hlt:k<N
  ·have hkl:k<L.length:=by rw[HLL.out];exact hlt
   obtain⟨b,o,rfl,hc⟩:=HA.out k hkl
   obtain⟨q0,q1,q2,q3,q4,q5⟩:=hc W1 HB.out
   have hi:=fun q=>HI.out k hkl q (fun j hj=>HJ.out j hj (by omega))
   have hh:=HH.out k hkl
   have HN:Hid (L[k].m.client ≠c-> ∀j (hj:j<k+1) (hl:j<L.length),L[j].m.client ≠c):=hid (fun q j hj hl=>by
    by_cases e:j=k
    ·subst e;exact q
    ·exact HJ.out j (by omega) hl)
   clear HA HI HMS HH hc
   generalize L[k]=x at q0 q1 q2 q3 q4 q5 hi hh HN
   obtain⟨⟨xc,xs,xk,xn,xd,xl⟩,xa,xp⟩:=x
   unfold MemC.hv at q5 hh
   dsimp only at q0 q1 q2 q3 q4 q5 hi hh HN
   have HHH:=hid hh
   obtain⟨XN,hXN⟩: ∃XN,xl.length=XN:=⟨_,rfl⟩
   have HXN:=hid hXN
   rw[hXN] at q5
   clear hXN hh
   by_cases e1:xc=c
   ·have d1:(xc==c)=true:=by simpa using e1
    have H:=hid (hi e1)
    clear hi e1 HN
    go_wp2
    refine bodyPost_ret (by simp [results,Tryz.results58,go_sem,c0,c1,c2,c3,c4,c5,cf]<;>rfl) rfl ?_
    have hbf:=set6m HB.out w.heap.size (Nat.le_refl _) (.int .i64 xc) (.int .i64 xs) (.int .i64 xk) (.int .i64 xn) (.int .i64 xd) (.slice xa XN xp)
    refine⟨⟨⟨xc,xs,xk,xn,xd,xl⟩,xa,xp⟩,?_,by rw[H.out],HHH.out _ hbf,hbf⟩
    unfold memVal MemC.hv
    dsimp only
    rw[HXN.out,H.out]
   ·have d1:(xc==c)=false:=by simpa using e1
    have H:=hid (HN.out e1)
    clear hi e1 HN HHH
    go_wp2
    go_round
    case rel=>exact⟨k+1,by omega,by go_num,H⟩
    case measure=>simp [intOf];omega
  ·obtain rfl:k=N:=by omega
   have H:=hid (HMS.out (fun j hj=>HJ.out j (by rw[<-HLL.out];exact hj) hj))
   clear HI HMS HH
   go_wp2
   refine bodyPost_ret (by simp [results,Tryz.results58,go_sem,c0,c1,c2,c3,c4,c5,cf]<;>rfl) rfl ?_
   have hbf:=set6m HB.out w.heap.size (Nat.le_refl _) (.int .i64 0) (.int .i64 0) (.int .i64 0) (.int .i64 0) (.int .i64 0) (.slice none 0 0)
   rw[H.out]
   exact⟨⟨zeroM,none,0⟩,rfl,rfl,RdH.nil _,hbf⟩
theorem GetsM.s {r:AnsV × Bool} {w:World} {e:Ending} {w':World} (h:GetsM r w e w'):
  ∃a c,e= .returned (.tuple #[.agg #[.int .i64 r.1.client,.int .i64 r.1.seq,.int .i64 r.1.rep.code,.int .i64 r.1.rep.session,.int .i64 r.1.rep.ahead,.slice a r.1.rep.held.length c],.bool r.2])/\RdH w' (.slice a r.1.rep.held.length c) r.1.rep.held/\Below w.heap.size w w':=by
 obtain⟨⟨m,a,c⟩,he,hx,hr,hb⟩:=h
 obtain⟨y,b⟩:=r
 dsimp only at hx
 subst hx
 exact⟨a,c,he,hr,hb⟩
set_option maxHeartbeats 2000000 in
theorem RefFresh_any (v:Value) (L:List MemC) (c s:Int) (w:World) (h:RdM w v L):Calls Tryz.prog 57 #[v,.int .i64 c,.int .i64 s] w (SaysI (freshM (valsM L) c s) w):=by
 have KL:=(RefLast_any v L c w h).mono fun e w' h=>GetsM.s h
 unfold freshM
 generalize lastM (valsM L) c=r at KL ⊢
 obtain⟨⟨xc,xs,xk,xn,xd,xl⟩,xb⟩:=r
 dsimp only at KL ⊢
 obtain⟨a,cap,rfl⟩:=h.form
 clear h
 generalize L.length=N at*
 generalize xl.length=XN at KL
 have KL:=hid KL
 cases xb with
 | false=>
  rw[if_pos rfl]
  go_enter Tryz.func57,Tryz.ntmps57
  go_wp2_with (go_at_call 58;refine KL.out.mono ?_;rintro e w2 ⟨a2,c2,rfl,hr2,hb2⟩)
  go_ret
  exact⟨rfl,stepAlloc hb2 _⟩
 | true=>
  rw[if_neg (by simp)]
  by_cases h1:xs<s
  ·rw[if_pos h1]
   have d1:decide (xs<s)=true:=decide_eq_true h1
   clear h1
   go_enter Tryz.func57,Tryz.ntmps57
   go_wp2_with (go_at_call 58;refine KL.out.mono ?_;rintro e w2 ⟨a2,c2,rfl,hr2,hb2⟩)
   go_ret
   exact⟨rfl,stepAlloc hb2 _⟩
  rw[if_neg h1]
  have d1:decide (xs<s)=false:=decide_eq_false h1
  clear h1
  by_cases h2:xs=s
  ·rw[if_pos h2]
   have d2:(xs==s)=true:=by simpa using h2
   clear h2
   go_enter Tryz.func57,Tryz.ntmps57
   go_wp2_with (go_at_call 58;refine KL.out.mono ?_;rintro e w2 ⟨a2,c2,rfl,hr2,hb2⟩)
   go_ret
   exact⟨rfl,stepAlloc hb2 _⟩
  ·rw[if_neg h2]
   have d2:(xs==s)=false:=by simpa using h2
   clear h2
   go_enter Tryz.func57,Tryz.ntmps57
   go_wp2_with (go_at_call 58;refine KL.out.mono ?_;rintro e w2 ⟨a2,c2,rfl,hr2,hb2⟩)
   go_ret
   exact⟨rfl,stepAlloc hb2 _⟩
end Cm
end Go.Proofs.YtlnbmblbeaodcaaGreat

/- Contracts: padlockref6's Keep, of right memos. -/
set_option linter.unusedVariables false
set_option maxRecDepth 8000
set_option linter.unusedSimpArgs false
namespace Go.Proofs.YtlnbmblbeaodcaaGreat
open Lib (hid)
open Go.RowKit
namespace Cm

theorem keepM_no {l:List AnsV} {a:AnsV} (h:mayA a=false\/freshM l a.client a.seq≠1):keepM l a=l:=by
 unfold keepM
 rw[if_neg]
 rcases h with h | h
 ·simp [h]
 ·simp [h]
theorem keepM_yes {l:List AnsV} {a:AnsV} (h1:mayA a=true) (h2:freshM l a.client a.seq=1):keepM l a=insM a l:=by
 unfold keepM
 rw[if_pos (by simp [h1,h2])]
theorem goM_drop (a:AnsV) (put:Bool) (l:List AnsV) (k:Nat) (h:k<l.length):goM a put (l.drop k)=
  if l[k].client =a.client then a::goM a true (l.drop (k+1)) else if (!put && decide (a.client<l[k].client))=true then a::l[k]::goM a true (l.drop (k+1)) else l[k]::goM a put (l.drop (k+1)):=by
 rw[List.drop_eq_getElem_cons h,goM]
theorem RdM.made {base:Nat} {w w':World} {v:Value} {M:List MemC} (ho:w'.ownsRow base 76 6 v M.length (flatX cellsM M)) (hh: ∀x∈M,RdH w x.hv x.m.rep.held) (hb:Below w.heap.size w w'):RdM w' v M:=
 ⟨RdX.own cellsM_length ho,fun x hx=>(hh x hx).later hb⟩
end Cm
end Go.Proofs.YtlnbmblbeaodcaaGreat

/- Contracts: slices.Clone over what is held; package memo's copyOf, copies. -/
set_option linter.unusedVariables false
set_option maxRecDepth 8000
set_option linter.unusedSimpArgs false
namespace Go.Proofs.YtlnbmblbeaodcaaGreat
open Lib (hid)
open Go.RowKit Go.Shelf
namespace Cm

theorem RdH.x {w:World} {x:Addr} {n cap:Nat} {l:List GrantV} (h:RdH w (.slice (some x) n cap) l):RdX 2 cellsG w (.slice (some x) n cap) l:=by
 obtain⟨a',cap',hv,h1,h2,h3,h4⟩:=h.ex
 cases hv
 refine⟨some x,cap,rfl,h1,h2,(fun q=>by cases q),fun y hy hp=>?_⟩
 obtain⟨hs,hc⟩:=h4 y hy hp
 refine⟨hs,fun i hi j u hu=>?_⟩
 obtain⟨c1,c2⟩:=hc i hi
 match j,hu with
 | 0,hu=>cases hu;exact c1
 | 1,hu=>cases hu;exact c2
structure OwnM (base:Nat) (w:World) (v:Value) (M:List MemC):Prop where
 row:w.ownsRow base 76 6 v M.length (flatX cellsM M)
 held: ∀x∈M,w.ownsRow base 141 2 x.hv x.m.rep.held.length (flatX cellsG x.m.rep.held)
theorem OwnM.nil (base:Nat) (w:World):OwnM base w (.slice none 0 0) []:=⟨World.ownsRow_nil _ _ _ _,fun x hx=>by cases hx⟩
theorem OwnM.rd {base:Nat} {w:World} {v:Value} {M:List MemC} (h:OwnM base w v M):RdM w v M:=⟨RdX.own cellsM_length h.row,fun x hx=>RdH.of (RdX.own cellsG_length (h.held x hx))⟩
theorem OwnM.later {base:Nat} {w w':World} {v:Value} {M:List MemC} (h:OwnM base w v M) (hb:Below w.heap.size w w'):OwnM base w' v M:=⟨Rw.own_below h.row hb,fun x hx=>Rw.own_below (h.held x hx) hb⟩
theorem OwnM.lower {base base':Nat} {w:World} {v:Value} {M:List MemC} (h:OwnM base w v M) (hb:base'<=base):OwnM base' w v M:=⟨own_lowerX h.row hb,fun x hx=>own_lowerX (h.held x hx) hb⟩
theorem OwnM.kept {base:Nat} {w w':World} {v:Value} {M:List MemC} (h:OwnM base w v M) (hg:w.grownBy w' v.ownBlock): ∀x∈M,w'.ownsRow base 141 2 x.hv x.m.rep.held.length (flatX cellsG x.m.rep.held):=
 fun x hx=>Rw.own_other (h.held x hx) hg (own_types h.row (h.held x hx) (by decide))
theorem OwnM.push {base base':Nat} {wr w3 w6:World} {m v':Value} {M:List MemC} {x:MemC} (h:OwnM base wr m M) (hb:Below wr.heap.size wr w3)
  (hl:w3.ownsRow base' 141 2 x.hv x.m.rep.held.length (flatX cellsG x.m.rep.held)) (hbs:base<=base') (hg:w3.grownBy w6 m.ownBlock)
  (ho:w6.ownsRow base 76 6 v' (M++ [x]).length (flatX cellsM (M++ [x]))):OwnM base w6 v' (M++ [x]):=by
 have hm:=h.later hb
 refine⟨ho,fun y hy=>?_⟩
 rcases List.mem_append.1 hy with q | q
 ·exact hm.kept hg y q
 ·rw[List.mem_singleton] at q
  subst q
  exact own_lowerX (Rw.own_other hl hg (own_types hm.row hl (by decide))) hbs
end Cm
end Go.Proofs.YtlnbmblbeaodcaaGreat
