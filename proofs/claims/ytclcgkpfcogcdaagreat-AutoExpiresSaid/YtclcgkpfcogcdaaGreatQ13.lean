/- Texts laid together by program. -/
import Derived.Test.YtclcgkpfcogcdaaGreatQ8
import Derived.Lib.QuietBelow
import Derived.Deep.RegionHeld3
import Derived.BigQuiet
import Derived.Deep.DrawnRows
import Derived.Shelf.Abstract
/- Contracts: the document's MayAnswer, SameAnswer. -/
set_option linter.unusedVariables false
set_option maxRecDepth 8000
set_option linter.unusedSimpArgs false
namespace Go.Proofs.YtclcgkpfcogcdaaGreat
open Lib (hid)
open Go.RowKit
namespace Cm

def ansVal (r:AnsV) (v:Value):Value:=.agg #[.int .i64 r.client,.int .i64 r.seq,.int .i64 r.rep.code,.int .i64 r.rep.session,.int .i64 r.rep.ahead,v]
theorem box6 {w w':World} {x y z u v s:Value} {t:TypeId} (h:Below (w.alloc (.cells #[x,y,z,u,v,s] t)).heap.size (w.alloc (.cells #[x,y,z,u,v,s] t)) w'):
  w'.cell? ⟨w.heap.size,0,none⟩=some x/\w'.cell? ⟨w.heap.size,1,none⟩=some y/\w'.cell? ⟨w.heap.size,2,none⟩=some z/\w'.cell? ⟨w.heap.size,3,none⟩=some u/\w'.cell? ⟨w.heap.size,4,none⟩=some v/\w'.cell? ⟨w.heap.size,5,none⟩=some s:=by
 have hl:w.heap.size<(w.alloc (.cells #[x,y,z,u,v,s] t)).heap.size :=by simp
 refine⟨?_,?_,?_,?_,?_,?_⟩
 ·rw[h.cell (p:=⟨w.heap.size,0,none⟩) hl];simp [go_sem]
 ·rw[h.cell (p:=⟨w.heap.size,1,none⟩) hl];simp [go_sem]
 ·rw[h.cell (p:=⟨w.heap.size,2,none⟩) hl];simp [go_sem]
 ·rw[h.cell (p:=⟨w.heap.size,3,none⟩) hl];simp [go_sem]
 ·rw[h.cell (p:=⟨w.heap.size,4,none⟩) hl];simp [go_sem]
 ·rw[h.cell (p:=⟨w.heap.size,5,none⟩) hl];simp [go_sem]
theorem RefMayAnswer_any (r:AnsV) (v:Value) (w:World) (h:RdH w v r.rep.held):Calls Tryz.prog 105 #[ansVal r v] w (SaysB (mayA r) w):=by
 obtain⟨c,q,m⟩:=r
 have C1:=hid (fun w=>high_any q 1 w)
 have C2:Hid (∀w',Below w.heap.size w w'->Calls Tryz.prog 161 #[repVal m v] w' (SaysB (mayP m) w')):=fun w' hb=>MayReply_any m v w' (h.later hb)
 clear h
 unfold ansVal mayA
 unfold repVal at C2
 obtain⟨k,s,d,l⟩:=m
 dsimp only at C2 ⊢
 by_cases h0:0<=c
 ·have d0:decide (0<=c)=true:=decide_eq_true h0
  by_cases h1:c<8
  ·have d1:decide (c<8)=true:=decide_eq_true h1
   cases hh:highF q 1
   all_goals
    have H:=hid hh
    clear hh
    go_enter Tryz.func105,Tryz.ntmps105
    go_wp2_with (first
     | (go_at_call 124;refine(C1.out _).mono ?_;rw[H.out];rintro e w' ⟨rfl,rfl⟩)
     | (go_at_call 161;refine(C2.out _ (newAlloc _ _)).mono ?_;rintro e w' ⟨rfl,hb⟩))
    go_ret
    first
     | exact⟨by simp [h0,h1],newAlloc _ _⟩
     | exact⟨by simp [h0,h1],step (newAlloc _ _) hb⟩
  ·have d1:decide (c<8)=false:=decide_eq_false h1
   go_enter Tryz.func105,Tryz.ntmps105
   go_wp2
   go_ret
   exact⟨by simp [h0,h1],newAlloc _ _⟩
 ·have d0:decide (0<=c)=false:=decide_eq_false h0
  go_enter Tryz.func105,Tryz.ntmps105
  go_wp2
  go_ret
  exact⟨by simp [h0],newAlloc _ _⟩
end Cm
end Go.Proofs.YtclcgkpfcogcdaaGreat

/- Memos in memory; contracts: padlockref6's SameMemos. -/
set_option linter.unusedVariables false
set_option maxRecDepth 8000
set_option linter.unusedSimpArgs false
namespace Go.Proofs.YtclcgkpfcogcdaaGreat
open Lib (hid)
open Go.RowKit
namespace Cm

theorem infoM:(Tryz.prog.info? 51).map (fun i=>(i.zero,i.size,i.bytes))=some (some (.agg #[.int .i64 0,.int .i64 0,.int .i64 0,.int .i64 0,.int .i64 0,.slice none 0 0]),6,64):=by kernel_rfl
structure MemC where
 m:AnsV
 ha:Option Addr
 hc:Nat
def MemC.hv (x:MemC):Value:=.slice x.ha x.m.rep.held.length x.hc
def valsM (L:List MemC):List AnsV:=L.map MemC.m
theorem valsM_length (L:List MemC):(valsM L).length =L.length:=by simp [valsM]
theorem valsM_get (L:List MemC) (i:Nat) (h:i<L.length) (h':i<(valsM L).length):(valsM L)[i]=L[i].m :=by simp [valsM]
theorem valsM_take (L:List MemC) (k:Nat):valsM (L.take k)=(valsM L).take k:=by simp [valsM,List.map_take]
theorem valsM_drop (L:List MemC) (k:Nat):valsM (L.drop k)=(valsM L).drop k:=by simp [valsM,List.map_drop]
theorem valsM_append (A B:List MemC):valsM (A++B)=valsM A++valsM B:=by simp [valsM]
def cellsM (x:MemC):List Value:= [.int .i64 x.m.client,.int .i64 x.m.seq,.int .i64 x.m.rep.code,.int .i64 x.m.rep.session,.int .i64 x.m.rep.ahead,x.hv]
theorem cellsM_length (x:MemC):(cellsM x).length =6:=rfl
theorem cellsM_one (x:MemC): ∀u∈cellsM x,u.oneCell'=true:=by
 intro u hu
 unfold cellsM MemC.hv at hu
 simp only[List.mem_cons,List.not_mem_nil,or_false] at hu
 rcases hu with rfl | rfl | rfl | rfl | rfl | rfl<;>rfl
def memVal (x:MemC):Value:=.agg #[.int .i64 x.m.client,.int .i64 x.m.seq,.int .i64 x.m.rep.code,.int .i64 x.m.rep.session,.int .i64 x.m.rep.ahead,x.hv]
structure RdM (w:World) (v:Value) (L:List MemC):Prop where
 row:RdX 6 cellsM w v L
 held: ∀x∈L,RdH w x.hv x.m.rep.held
theorem RdM.later {w w':World} {v:Value} {L:List MemC} (h:RdM w v L) (hb:Below w.heap.size w w'):RdM w' v L:=⟨h.row.later hb,fun x hx=>(h.held x hx).later hb⟩
theorem RdM.nil (w:World):RdM w (.slice none 0 0) []:=⟨RdX.nil w,fun x hx=>by cases hx⟩
theorem RdM.form {w:World} {v:Value} {L:List MemC} (h:RdM w v L): ∃a cap,v= .slice a L.length cap:=h.row.form
theorem RdM.len {w:World} {v:Value} {L:List MemC} (h:RdM w v L):L.length<=9223372036854775807:=h.row.len
theorem rdm_at {w:World} {a:Option Addr} {n cap:Nat} {L:List MemC} (h:RdX 6 cellsM w (.slice a n cap) L) (i:Nat) (hi:i<L.length):
  ∃b o,a=some ⟨b,o,none⟩/\ ∀w':World,Below w.heap.size w w'->w'.cell? ⟨b,o+i*6,none⟩=some (.int .i64 L[i].m.client)/\w'.cell? ⟨b,o+i*6+1,none⟩=some (.int .i64 L[i].m.seq)/\w'.cell? ⟨b,o+i*6+2,none⟩=some (.int .i64 L[i].m.rep.code)/\w'.cell? ⟨b,o+i*6+3,none⟩=some (.int .i64 L[i].m.rep.session)/\w'.cell? ⟨b,o+i*6+4,none⟩=some (.int .i64 L[i].m.rep.ahead)/\w'.cell? ⟨b,o+i*6+5,none⟩=some L[i].hv :=by
 obtain⟨b,o,e,c⟩:=h.at i hi
 exact⟨b,o,e,fun w' hb=>⟨c w' hb 0 _ rfl,c w' hb 1 _ rfl,c w' hb 2 _ rfl,c w' hb 3 _ rfl,c w' hb 4 _ rfl,c w' hb 5 _ rfl⟩⟩
end Cm
end Go.Proofs.YtclcgkpfcogcdaaGreat

/- Contracts: padlockref6's Last, Fresh, RightMemos. -/
set_option linter.unusedVariables false
set_option maxRecDepth 8000
set_option linter.unusedSimpArgs false
namespace Go.Proofs.YtclcgkpfcogcdaaGreat
open Lib (hid)
open Go.RowKit
namespace Cm

theorem free6m {w w':World} {x y z u v s:Value} {t:TypeId} (h:Below (w.alloc (.cells #[x,y,z,u,v,s] t)).heap.size (w.alloc (.cells #[x,y,z,u,v,s] t)) w'):
  ∀k,w'.frozen? ⟨w.heap.size,k,none⟩=false:=by
 intro k
 have hl:w.heap.size<(w.alloc (.cells #[x,y,z,u,v,s] t)).heap.size :=by simp
 rw[h.frozen (p:=⟨w.heap.size,k,none⟩) hl]
 simp [go_sem]
theorem set6m {a w:World} {b:Nat} (h:Below b a w) (g:Nat) (hg:b<=g) (x y z u v s:Value):Below b a ((((((w.setCell ⟨g,0,none⟩ x).setCell ⟨g,1,none⟩ y).setCell ⟨g,2,none⟩ z).setCell ⟨g,3,none⟩ u).setCell ⟨g,4,none⟩ v).setCell ⟨g,5,none⟩ s):=
 (((((h.setCell hg _).setCell hg _).setCell hg _).setCell hg _).setCell hg _).setCell hg _
def GetsM (r:AnsV × Bool) (w:World) (e:Ending) (w':World):Prop:=
 ∃x:MemC,e= .returned (.tuple #[memVal x,.bool r.2])/\x.m=r.1/\RdH w' x.hv x.m.rep.held/\Below w.heap.size w w'
set_option maxHeartbeats 2000000 in
theorem RefLast_any (v:Value) (L:List MemC) (c:Int) (w:World) (h:RdM w v L):Calls Tryz.prog 24 #[v,.int .i64 c] w (GetsM (lastM (valsM L) c) w):=by
 have hm:=h.len
 obtain⟨a,cap,rfl⟩:=h.form
 have HA:=hid (fun i hi=>rdm_at h.row i hi)
 have HH:Hid (∀i (hi:i<L.length) (w':World),Below w.heap.size w w'->RdH w' L[i].hv L[i].m.rep.held):=hid fun i hi w' hb=>(h.held _ (List.getElem_mem hi)).later hb
 have hb1:=newAlloc w (.cells #[.int .i64 0,.int .i64 0,.int .i64 0,.int .i64 0,.int .i64 0,.slice none 0 0] 51)
 obtain⟨c0,c1,c2,c3,c4,c5⟩:=box6 (Below.refl _ (w.alloc (.cells #[.int .i64 0,.int .i64 0,.int .i64 0,.int .i64 0,.int .i64 0,.slice none 0 0] 51)))
 have cf:=free6m (Below.refl _ (w.alloc (.cells #[.int .i64 0,.int .i64 0,.int .i64 0,.int .i64 0,.int .i64 0,.slice none 0 0] 51)))
 obtain⟨W1,hW1⟩: ∃W1,W1=w.alloc (.cells #[.int .i64 0,.int .i64 0,.int .i64 0,.int .i64 0,.int .i64 0,.slice none 0 0] 51):=⟨_,rfl⟩
 rw[<-hW1] at hb1 c0 c1 c2 c3 c4 c5 cf
 have HB:=hid hb1
 have HI:Hid (∀k (hk:k<L.length),L[k].m.client =c->(∀j (hj:j<k),(L[j]'(by omega)).m.client ≠c)->lastM (valsM L) c=(L[k].m,true)):=hid fun k hk hc hb=>by
  have e:idxI (isCl c) (valsM L)=k:=idxI_hit _ _ k (by rw[valsM_length];exact hk) (by rw[valsM_get L k hk];unfold isCl;exact decide_eq_true hc) (fun j hj=>by rw[valsM_get L j (by omega)];unfold isCl;exact decide_eq_false (hb j hj))
  obtain⟨hk',_,he⟩:=last_hit _ _ _ e
  rw[he,valsM_get L k hk]
 have HMS:Hid ((∀j (hj:j<L.length),L[j].m.client ≠c)->lastM (valsM L) c=(zeroM,false)):=hid fun hb=>last_miss _ _ (idxI_miss _ _ fun j hj=>by
  rw[valsM_length] at hj
  rw[valsM_get L j hj];unfold isCl;exact decide_eq_false (hb j hj))
 clear h hb1
 obtain⟨N,hN⟩: ∃N,L.length=N:=⟨_,rfl⟩
 have HLL:=hid hN
 rw[hN] at hm ⊢
 clear hN
 go_enter Tryz.func24,Tryz.ntmps24
 go_upto_region 1 with fail
 rw[<-hW1]
 clear hW1
 go_wp2
 go_loop [6] (fun i=> ∃k:Nat,k<=N/\i= .int .i64 k/\Hid (∀j (hj:j<k) (hl:j<L.length),L[j].m.client ≠c)) (fun i=>N - (intOf i).toNat)
 case atStart=>exact⟨0,by omega,rfl,hid (fun j hj=>absurd hj (Nat.not_lt_zero _))⟩
 case round=>
  obtain⟨k,hk,rfl,HJ⟩:=hrel
  by_cases hlt:k<N
  ·have hkl:k<L.length:=by rw[HLL.out];exact hlt
   obtain⟨b,o,rfl,hc⟩:=HA.out k hkl
   obtain⟨q0,q1,q2,q3,q4,q5⟩:=hc W1 HB.out
   have hi:=fun q=>HI.out k hkl q (fun j hj=>HJ.out j hj (by omega))
   have hh:=HH.out k hkl
   have HN:Hid (L[k].m.client ≠c-> ∀j (hj:j<k+1) (hl:j<L.length),L[j].m.client ≠c):=hid (fun q j hj hl=>by
    by_cases e:j=k
    ·subst e;exact q
    ·exact HJ.out j (by omega) hl)
   clear HA HI HMS HH hc
   generalize L[k]=x at q0 q1 q2 q3 q4 q5 hi hh HN
   obtain⟨⟨xc,xs,xk,xn,xd,xl⟩,xa,xp⟩:=x
   unfold MemC.hv at q5 hh
   dsimp only at q0 q1 q2 q3 q4 q5 hi hh HN
   have HHH:=hid hh
   obtain⟨XN,hXN⟩: ∃XN,xl.length=XN:=⟨_,rfl⟩
   have HXN:=hid hXN
   rw[hXN] at q5
   clear hXN hh
   by_cases e1:xc=c
   ·have d1:(xc==c)=true:=by simpa using e1
    have H:=hid (hi e1)
    clear hi e1 HN
    go_wp2
    refine bodyPost_ret (by simp [results,Tryz.results24,go_sem,c0,c1,c2,c3,c4,c5,cf]<;>rfl) rfl ?_
    have hbf:=set6m HB.out w.heap.size (Nat.le_refl _) (.int .i64 xc) (.int .i64 xs) (.int .i64 xk) (.int .i64 xn) (.int .i64 xd) (.slice xa XN xp)
    refine⟨⟨⟨xc,xs,xk,xn,xd,xl⟩,xa,xp⟩,?_,by rw[H.out],HHH.out _ hbf,hbf⟩
    unfold memVal MemC.hv
    dsimp only
    rw[HXN.out,H.out]
   ·have d1:(xc==c)=false:=by simpa using e1
    have H:=hid (HN.out e1)
    clear hi e1 HN HHH
    go_wp2
    go_round
    case rel=>exact⟨k+1,by omega,by go_num,H⟩
    case measure=>simp [intOf];omega
  ·obtain rfl:k=N:=by omega
   have H:=hid (HMS.out (fun j hj=>HJ.out j (by rw[<-HLL.out];exact hj) hj))
   clear HI HMS HH
   go_wp2
   refine bodyPost_ret (by simp [results,Tryz.results24,go_sem,c0,c1,c2,c3,c4,c5,cf]<;>rfl) rfl ?_
   have hbf:=set6m HB.out w.heap.size (Nat.le_refl _) (.int .i64 0) (.int .i64 0) (.int .i64 0) (.int .i64 0) (.int .i64 0) (.slice none 0 0)
   rw[H.out]
   exact⟨⟨zeroM,none,0⟩,rfl,rfl,RdH.nil _,hbf⟩
theorem GetsM.s {r:AnsV × Bool} {w:World} {e:Ending} {w':World} (h:GetsM r w e w'):
  ∃a c,e= .returned (.tuple #[.agg #[.int .i64 r.1.client,.int .i64 r.1.seq,.int .i64 r.1.rep.code,.int .i64 r.1.rep.session,.int .i64 r.1.rep.ahead,.slice a r.1.rep.held.length c],.bool r.2])/\RdH w' (.slice a r.1.rep.held.length c) r.1.rep.held/\Below w.heap.size w w':=by
 obtain⟨⟨m,a,c⟩,he,hx,hr,hb⟩:=h
 obtain⟨y,b⟩:=r
 dsimp only at hx
 subst hx
 exact⟨a,c,he,hr,hb⟩
set_option maxHeartbeats 2000000 in
theorem RefFresh_any (v:Value) (L:List MemC) (c s:Int) (w:World) (h:RdM w v L):Calls Tryz.prog 63 #[v,.int .i64 c,.int .i64 s] w (SaysI (freshM (valsM L) c s) w):=by
 have KL:=(RefLast_any v L c w h).mono fun e w' h=>GetsM.s h
 unfold freshM
 generalize lastM (valsM L) c=r at KL ⊢
 obtain⟨⟨xc,xs,xk,xn,xd,xl⟩,xb⟩:=r
 dsimp only at KL ⊢
 obtain⟨a,cap,rfl⟩:=h.form
 clear h
 generalize L.length=N at*
 generalize xl.length=XN at KL
 have KL:=hid KL
 cases xb with
 | false=>
  rw[if_pos rfl]
  go_enter Tryz.func63,Tryz.ntmps63
  go_wp2_with (go_at_call 24;refine KL.out.mono ?_;rintro e w2 ⟨a2,c2,rfl,hr2,hb2⟩)
  go_ret
  exact⟨rfl,stepAlloc hb2 _⟩
 | true=>
  rw[if_neg (by simp)]
  by_cases h1:xs<s
  ·rw[if_pos h1]
   have d1:decide (xs<s)=true:=decide_eq_true h1
   clear h1
   go_enter Tryz.func63,Tryz.ntmps63
   go_wp2_with (go_at_call 24;refine KL.out.mono ?_;rintro e w2 ⟨a2,c2,rfl,hr2,hb2⟩)
   go_ret
   exact⟨rfl,stepAlloc hb2 _⟩
  rw[if_neg h1]
  have d1:decide (xs<s)=false:=decide_eq_false h1
  clear h1
  by_cases h2:xs=s
  ·rw[if_pos h2]
   have d2:(xs==s)=true:=by simpa using h2
   clear h2
   go_enter Tryz.func63,Tryz.ntmps63
   go_wp2_with (go_at_call 24;refine KL.out.mono ?_;rintro e w2 ⟨a2,c2,rfl,hr2,hb2⟩)
   go_ret
   exact⟨rfl,stepAlloc hb2 _⟩
  ·rw[if_neg h2]
   have d2:(xs==s)=false:=by simpa using h2
   clear h2
   go_enter Tryz.func63,Tryz.ntmps63
   go_wp2_with (go_at_call 24;refine KL.out.mono ?_;rintro e w2 ⟨a2,c2,rfl,hr2,hb2⟩)
   go_ret
   exact⟨rfl,stepAlloc hb2 _⟩
end Cm
end Go.Proofs.YtclcgkpfcogcdaaGreat

/- Contracts: padlockref6's Keep, of right memos. -/
set_option linter.unusedVariables false
set_option maxRecDepth 8000
set_option linter.unusedSimpArgs false
namespace Go.Proofs.YtclcgkpfcogcdaaGreat
open Lib (hid)
open Go.RowKit
namespace Cm

def GetsK (r:List AnsV) (w:World) (e:Ending) (w':World):Prop:=
 ∃a c M,e= .returned (.slice a (List.length M) c)/\valsM M=r/\RdM w' (.slice a M.length c) M/\Below w.heap.size w w'
theorem keepM_no {l:List AnsV} {a:AnsV} (h:mayA a=false\/freshM l a.client a.seq≠1):keepM l a=l:=by
 unfold keepM
 rw[if_neg]
 rcases h with h | h
 ·simp [h]
 ·simp [h]
theorem keepM_yes {l:List AnsV} {a:AnsV} (h1:mayA a=true) (h2:freshM l a.client a.seq=1):keepM l a=insM a l:=by
 unfold keepM
 rw[if_pos (by simp [h1,h2])]
theorem goM_drop (a:AnsV) (put:Bool) (l:List AnsV) (k:Nat) (h:k<l.length):goM a put (l.drop k)=
  if l[k].client =a.client then a::goM a true (l.drop (k+1)) else if (!put && decide (a.client<l[k].client))=true then a::l[k]::goM a true (l.drop (k+1)) else l[k]::goM a put (l.drop (k+1)):=by
 rw[List.drop_eq_getElem_cons h,goM]
theorem RdM.made {base:Nat} {w w':World} {v:Value} {M:List MemC} (ho:w'.ownsRow base 51 6 v M.length (flatX cellsM M)) (hh: ∀x∈M,RdH w x.hv x.m.rep.held) (hb:Below w.heap.size w w'):RdM w' v M:=
 ⟨RdX.own cellsM_length ho,fun x hx=>(hh x hx).later hb⟩
end Cm
end Go.Proofs.YtclcgkpfcogcdaaGreat

/- Contracts: slices.IndexFunc over memos, whatever the test; package memo's closures, indexOf, placeOf. -/
set_option linter.unusedVariables false
set_option maxRecDepth 8000
set_option linter.unusedSimpArgs false
namespace Go.Proofs.YtclcgkpfcogcdaaGreat
open Lib (hid)
open Go.RowKit Go.Shelf
namespace Cm

set_option maxHeartbeats 2000000 in
theorem IdxM_any (p:MemC->Bool) (g:Nat) (lb:Array Value) (eg: ∀args w,(callFunc g args).run Tryz.prog w= .ok (.enter g args) w) (v:Value) (l:List MemC) (w:World) (h:RdX 6 cellsM w v l)
  (hp: ∀(W:World) (x:MemC),Below w.heap.size w W->Calls Tryz.prog g (#[memVal x]++lb) W (SaysB (p x) W)):
  Calls Tryz.prog 162 #[v,.func (.func g) #[] lb] w (SaysI (idxI p l) w):=by
 have hm:=h.len
 obtain⟨a,cap,rfl⟩:=h.form
 have HA:=hid (fun i hi=>rdm_at h i hi)
 have HP:=hid hp
 have HH:=hid (idxI_hit p l)
 have HM:=hid (idxI_miss p l)
 clear h hp
 obtain⟨L,hL⟩: ∃L,l.length=L:=⟨_,rfl⟩
 have HLL:=hid hL
 rw[hL] at hm ⊢
 clear hL
 go_enter Tryz.func162,Tryz.ntmps162
 go_wp2
 go_loopg [5,8] L (fun gg _ s8 wr=> ∃kk:Nat,kk<=L/\L - kk<=gg/\s8= .int .i64 kk/\Hid (Below w.heap.size w wr)/\Hid (∀j (hj:j<kk) (hl:j<l.length),p l[j]=false))
 case atStart=>exact⟨0,Nat.zero_le _,by omega,rfl,hid (Below.refl _ w),hid (fun j hj=>absurd hj (Nat.not_lt_zero _))⟩
 case round=>
  obtain⟨kk,hkk,hg,rfl,HB,HJ⟩:=hrel
  by_cases hlt:kk<L
  ·have hkl:kk<l.length:=by rw[HLL.out];exact hlt
   obtain⟨b,o,rfl,hc⟩:=HA.out kk hkl
   obtain⟨q0,q1,q2,q3,q4,q5⟩:=hc _ HB.out
   have hcall:=HP.out wr l[kk] HB.out
   have HI:Hid (p l[kk]=true->idxI p l=kk):=hid (fun q=>HH.out kk hkl q (fun j hj=>HJ.out j hj (by omega)))
   have HN:Hid (p l[kk]=false-> ∀j (hj:j<kk+1) (hl:j<l.length),p l[j]=false):=hid (fun q j hj hl=>by
    by_cases e:j=kk
    ·subst e;exact q
    ·exact HJ.out j (by omega) hl)
   clear hc HH HM HA HP
   generalize l[kk]=x at q0 q1 q2 q3 q4 q5 hcall HI HN
   obtain⟨⟨xc,xs,xk,xn,xd,xl⟩,xa,xp⟩:=x
   unfold MemC.hv at q5
   unfold memVal MemC.hv at hcall
   dsimp only at q0 q1 q2 q3 q4 q5 hcall
   cases hq:p ⟨⟨xc,xs,xk,xn,xd,xl⟩,xa,xp⟩ with
   | true=>
    rw[hq] at hcall
    have HC:=hid hcall
    have HI:=hid (HI.out hq)
    clear hcall hq HN
    go_wp2_with (go_at_fn g;refine HC.out.mono ?_;rintro e w' ⟨rfl,hb'⟩)
    go_ret
    exact⟨by rw[HI.out];rfl,step HB.out hb'⟩
   | false=>
    rw[hq] at hcall
    have HC:=hid hcall
    have HN:=hid (HN.out hq)
    clear hcall hq HI
    go_wp2_with (go_at_fn g;refine HC.out.mono ?_;rintro e w' ⟨rfl,hb'⟩)
    go_roundg (L - (kk+1))
    case measure=>omega
    case rel=>exact⟨kk+1,by omega,by omega,by go_num,hid (step HB.out hb'),HN⟩
  ·obtain rfl:kk=L:=by omega
   have hmiss:=HM.out (fun j hj=>HJ.out j (by rw[<-HLL.out];exact hj) hj)
   have HMM:=hid hmiss
   clear hmiss HM HH HP
   go_wp2
   go_ret
   exact⟨by rw[HMM.out];rfl,HB.out⟩
theorem indexM1_any (x:MemC) (w:World) (b:Nat) (c:Int) (hb:w.cell? ⟨b,0,none⟩=some (.int .i64 c)):
  Calls Tryz.prog 163 #[memVal x,.pointer (some ⟨b,0,none⟩)] w (SaysB (isCl c x.m) w):=by
 obtain⟨⟨xc,xs,xk,xn,xd,xl⟩,xa,xp⟩:=x
 unfold memVal MemC.hv isCl
 dsimp only
 have HB:=hid (newAlloc w (.cells #[.int .i64 xc,.int .i64 xs,.int .i64 xk,.int .i64 xn,.int .i64 xd,.slice xa xl.length xp] 51))
 obtain⟨y0,y1,y2,y3,y4,y5⟩:=box6 (Below.refl _ (w.alloc (.cells #[.int .i64 xc,.int .i64 xs,.int .i64 xk,.int .i64 xn,.int .i64 xd,.slice xa xl.length xp] 51)))
 have z1:=(HB.out.cell (lt_of_cell hb)).trans hb
 clear hb
 generalize xl.length=N at*
 go_enter Tryz.func163,Tryz.ntmps163
 go_wp2
 go_ret
 exact⟨by simp<;>rfl,HB.out⟩
theorem placeM1_any (x:MemC) (w:World) (b:Nat) (c:Int) (hb:w.cell? ⟨b,0,none⟩=some (.int .i64 c)):
  Calls Tryz.prog 171 #[memVal x,.pointer (some ⟨b,0,none⟩)] w (SaysB (decide (c<x.m.client)) w):=by
 obtain⟨⟨xc,xs,xk,xn,xd,xl⟩,xa,xp⟩:=x
 unfold memVal MemC.hv
 dsimp only
 have HB:=hid (newAlloc w (.cells #[.int .i64 xc,.int .i64 xs,.int .i64 xk,.int .i64 xn,.int .i64 xd,.slice xa xl.length xp] 51))
 obtain⟨y0,y1,y2,y3,y4,y5⟩:=box6 (Below.refl _ (w.alloc (.cells #[.int .i64 xc,.int .i64 xs,.int .i64 xk,.int .i64 xn,.int .i64 xd,.slice xa xl.length xp] 51)))
 have z1:=(HB.out.cell (lt_of_cell hb)).trans hb
 clear hb
 generalize xl.length=N at*
 go_enter Tryz.func171,Tryz.ntmps171
 go_wp2
 go_ret
 exact⟨by simp<;>rfl,HB.out⟩
theorem enters_indexM: ∀args w,(callFunc 163 args).run Tryz.prog w= .ok (.enter 163 args) w:=enters_of Tryz.func163 (by kernel_rfl) rfl
theorem enters_placeM: ∀args w,(callFunc 171 args).run Tryz.prog w= .ok (.enter 171 args) w:=enters_of Tryz.func171 (by kernel_rfl) rfl
theorem idx_valsM (p:AnsV->Bool) (l:List MemC):idxI p (valsM l)=idxI (fun x:MemC=>p x.m) l:=by
 unfold idxI valsM
 rw[List.findIdx_map,List.length_map]
 rfl
theorem indexOfM_any (v:Value) (l:List MemC) (c:Int) (w:World) (h:RdX 6 cellsM w v l):Calls Tryz.prog 113 #[v,.int .i64 c] w (SaysI (idxI (isCl c) (valsM l)) w):=by
 rw[idx_valsM]
 have hmf: ∀(fn:Fn) (first cap:Array Value) (w:World),(Instr.makeFunc fn first cap).run Tryz.prog w= .ok (.func fn first cap) w:=fun _ _ _ _=>rfl
 have HI:=hid (IdxM_any (fun x=>isCl c x.m) 163 #[.pointer (some ⟨w.heap.size,0,none⟩)] enters_indexM v l (w.alloc (.cells #[.int .i64 c] 3)) (h.later (newAlloc _ _))
  (fun W x hb=>indexM1_any x W w.heap.size c (box1k_at w _ _ W hb)))
 have HB:=hid (newAlloc w (.cells #[.int .i64 c] 3))
 obtain⟨a,cap,rfl⟩:=h.form
 clear h
 generalize idxI (fun x:MemC=>isCl c x.m) l=r at HI ⊢
 generalize l.length=L at*
 go_enter Tryz.func113,Tryz.ntmps113
 go_wp2_with (go_at_call 162;refine HI.out.mono ?_;rintro e w' ⟨rfl,hb'⟩)
 go_ret
 exact⟨rfl,step HB.out hb'⟩
theorem placeM_le (c:Int) (l:List AnsV):placeM c l<=l.length:=List.findIdx_le_length
theorem placeOfM_any (v:Value) (l:List MemC) (c:Int) (w:World) (h:RdX 6 cellsM w v l):Calls Tryz.prog 123 #[v,.int .i64 c] w (SaysI (placeM c (valsM l):Int) w):=by
 have hmf: ∀(fn:Fn) (first cap:Array Value) (w:World),(Instr.makeFunc fn first cap).run Tryz.prog w= .ok (.func fn first cap) w:=fun _ _ _ _=>rfl
 have HI:=hid (IdxM_any (fun x=>decide (c<x.m.client)) 171 #[.pointer (some ⟨w.heap.size,0,none⟩)] enters_placeM v l (w.alloc (.cells #[.int .i64 c] 3)) (h.later (newAlloc _ _))
  (fun W x hb=>placeM1_any x W w.heap.size c (box1k_at w _ _ W hb)))
 have HB:=hid (newAlloc w (.cells #[.int .i64 c] 3))
 have hpl:l.findIdx (fun x:MemC=>decide (c<x.m.client))=placeM c (valsM l):=by
  unfold placeM valsM
  rw[List.findIdx_map]
  rfl
 have hm:=h.len
 have hle:placeM c (valsM l)<=l.length:=by have:=placeM_le c (valsM l);rw[valsM_length] at this;exact this
 obtain⟨a,cap,rfl⟩:=h.form
 clear h
 by_cases hq:placeM c (valsM l)<l.length
 ·have e:idxI (fun x:MemC=>decide (c<x.m.client)) l=(placeM c (valsM l):Int):=by unfold idxI;rw[hpl];exact if_pos hq
  rw[e] at HI
  clear e hq hpl
  generalize placeM c (valsM l)=r at HI hle ⊢
  generalize l.length=L at*
  go_enter Tryz.func123,Tryz.ntmps123
  go_wp2_with (go_at_call 162;refine HI.out.mono ?_;rintro e w' ⟨rfl,hb'⟩)
  go_ret
  exact⟨rfl,step HB.out hb'⟩
 ·have e:idxI (fun x:MemC=>decide (c<x.m.client)) l= -1:=by unfold idxI;rw[hpl];exact if_neg hq
  have e2:placeM c (valsM l)=l.length:=by omega
  rw[e] at HI
  rw[e2]
  clear e hq e2 hle hpl
  generalize l.length=L at*
  go_enter Tryz.func123,Tryz.ntmps123
  go_wp2_with (go_at_call 162;refine HI.out.mono ?_;rintro e w' ⟨rfl,hb'⟩)
  go_ret
  exact⟨rfl,step HB.out hb'⟩
end Cm
end Go.Proofs.YtclcgkpfcogcdaaGreat
