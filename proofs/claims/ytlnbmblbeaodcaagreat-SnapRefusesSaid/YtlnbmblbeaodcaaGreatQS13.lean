/- Texts laid together by program. -/
import Derived.Test.YtlnbmblbeaodcaaGreatQS12
/- Locks in memory; contracts: padlockref6's FindLock, SameLocks; padlockref4's SameInts once more (it only draws). -/
set_option linter.unusedVariables false
set_option maxRecDepth 8000
set_option linter.unusedSimpArgs false
namespace Go.Proofs.YtlnbmblbeaodcaaGreat
open Lib (hid)
open Go.RowKit
namespace Cm

structure LockC where
 name:List UInt8
 holder:Int
 token:Int
 line:List Int
 la:Option Addr
 lc:Nat
def LockC.val (x:LockC):LockV:=⟨x.name,x.holder,x.token,x.line⟩
def LockC.lv (x:LockC):Value:=.slice x.la x.line.length x.lc
def vals (L:List LockC):List LockV:=L.map LockC.val
theorem vals_length (L:List LockC):(vals L).length =L.length:=by simp [vals]
theorem vals_get (L:List LockC) (i:Nat) (h:i<L.length) (h':i<(vals L).length):(vals L)[i]=L[i].val :=by simp [vals]
theorem vals_take (L:List LockC) (k:Nat):vals (L.take k)=(vals L).take k:=by simp [vals,List.map_take]
theorem vals_drop (L:List LockC) (k:Nat):vals (L.drop k)=(vals L).drop k:=by simp [vals,List.map_drop]
theorem vals_set (L:List LockC) (k:Nat) (x:LockC):vals (L.set k x)=(vals L).set k x.val:=by simp [vals,List.map_set]
def cellsK (x:LockC):List Value:= [.string (bstr x.name),.int .i64 x.holder,.int .i64 x.token,x.lv]
theorem cellsK_length (x:LockC):(cellsK x).length =4:=rfl
theorem cellsK_one (x:LockC): ∀u∈cellsK x,u.oneCell'=true:=by
 intro u hu
 unfold cellsK LockC.lv at hu
 simp only[List.mem_cons,List.not_mem_nil,or_false] at hu
 rcases hu with rfl | rfl | rfl | rfl<;>rfl
def lockVal (x:LockC):Value:=.agg #[.string (bstr x.name),.int .i64 x.holder,.int .i64 x.token,x.lv]
structure RdK (w:World) (v:Value) (L:List LockC):Prop where
 row:RdX 4 cellsK w v L
 line: ∀x∈L,RdI w x.lv x.line
theorem RdK.later {w w':World} {v:Value} {L:List LockC} (h:RdK w v L) (hb:Below w.heap.size w w'):RdK w' v L:=⟨h.row.later hb,fun x hx=>(h.line x hx).later hb⟩
theorem RdK.nil (w:World):RdK w (.slice none 0 0) []:=⟨RdX.nil w,fun x hx=>by cases hx⟩
theorem RdK.form {w:World} {v:Value} {L:List LockC} (h:RdK w v L): ∃a cap,v= .slice a L.length cap:=h.row.form
theorem RdK.len {w:World} {v:Value} {L:List LockC} (h:RdK w v L):L.length<=9223372036854775807:=h.row.len
theorem rdk_at {w:World} {a:Option Addr} {n cap:Nat} {L:List LockC} (h:RdX 4 cellsK w (.slice a n cap) L) (i:Nat) (hi:i<L.length):
  ∃b o,a=some ⟨b,o,none⟩/\ ∀w':World,Below w.heap.size w w'->w'.cell? ⟨b,o+i*4,none⟩=some (.string (bstr L[i].name))/\w'.cell? ⟨b,o+i*4+1,none⟩=some (.int .i64 L[i].holder)/\w'.cell? ⟨b,o+i*4+2,none⟩=some (.int .i64 L[i].token)/\w'.cell? ⟨b,o+i*4+3,none⟩=some L[i].lv :=by
 obtain⟨b,o,e,c⟩:=h.at i hi
 exact⟨b,o,e,fun w' hb=>⟨c w' hb 0 _ rfl,c w' hb 1 _ rfl,c w' hb 2 _ rfl,c w' hb 3 _ rfl⟩⟩
def isNmC (n:List UInt8) (x:LockC):Bool:=isNm n x.val
theorem idx_vals (n:List UInt8) (L:List LockC):idxI (isNm n) (vals L)=idxI (isNmC n) L:=by
 unfold idxI vals
 have:(L.map LockC.val).findIdx (isNm n)=L.findIdx (isNmC n):=by
  rw[List.findIdx_map]
  rfl
 rw[this,List.length_map]
theorem FindLock_any (v:Value) (L:List LockC) (n:List UInt8) (w:World) (h:RdX 4 cellsK w v L):Calls Tryz.prog 170 #[v,.string (bstr n)] w (fun e w'=>e= .returned (.int .i64 (idxI (isNm n) (vals L)))/\w'=w):=by
 rw[idx_vals]
 have hm:=h.len
 obtain⟨a,cap,rfl⟩:=h.form
 have HA:=hid (fun i hi=>rdk_at h i hi)
 have HH:=hid (idxI_hit (isNmC n) L)
 have HM:=hid (idxI_miss (isNmC n) L)
 clear h
 obtain⟨N,hN⟩: ∃N,L.length=N:=⟨_,rfl⟩
 have HLL:=hid hN
 rw[hN] at hm ⊢
 clear hN
 go_enter Tryz.func170,Tryz.ntmps170
 go_wp2
 go_loop [5] (fun i=> ∃k:Nat,k<=N/\i= .int .i64 k/\Hid (∀j (hj:j<k) (hl:j<L.length),isNmC n L[j]=false)) (fun i=>N - (intOf i).toNat)
 case atStart=>exact⟨0,by omega,rfl,hid (fun j hj=>absurd hj (Nat.not_lt_zero _))⟩
 case round=>
  obtain⟨k,hk,rfl,HJ⟩:=hrel
  by_cases hlt:k<N
  ·have hkl:k<L.length:=by rw[HLL.out];exact hlt
   obtain⟨b,o,rfl,hc⟩:=HA.out k hkl
   obtain⟨q0, -⟩:=hc w (Below.refl _ _)
   have HI:Hid (isNmC n L[k]=true->idxI (isNmC n) L=k):=hid (fun q=>HH.out k hkl q (fun j hj=>HJ.out j hj (by omega)))
   have HN:Hid (isNmC n L[k]=false-> ∀j (hj:j<k+1) (hl:j<L.length),isNmC n L[j]=false):=hid (fun q j hj hl=>by
    by_cases e:j=k
    ·subst e;exact q
    ·exact HJ.out j (by omega) hl)
   clear HA HH HM hc
   generalize L[k]=g at q0 HI HN
   have hE:=str_eq g.name n
   by_cases hq:g.name=n
   ·rw[decide_eq_true hq] at hE
    have H:=hid (HI.out (by unfold isNmC isNm LockC.val;exact decide_eq_true hq))
    clear hq HI HN
    go_wp2
    go_ret
    exact⟨by rw[H.out];rfl,rfl⟩
   ·rw[decide_eq_false hq] at hE
    have H:=hid (HN.out (by unfold isNmC isNm LockC.val;exact decide_eq_false hq))
    clear hq HI HN
    go_wp2
    go_round
    case rel=>exact⟨k+1,by omega,by go_num,H⟩
    case measure=>simp [intOf];omega
  ·obtain rfl:k=N:=by omega
   have H:=hid (HM.out (fun j hj=>HJ.out j (by rw[<-HLL.out];exact hj) hj))
   clear HM HH
   go_wp2
   go_ret
   exact⟨by rw[H.out];rfl,rfl⟩
def SaysQ (r:Bool) (w:World) (e:Ending) (w':World):Prop:=e= .returned (.bool r)/\ ∃n,w'=w.drewN n
set_option maxHeartbeats 1000000 in
theorem SameInts_q (u v:Value) (l m:List Int) (w:World) (h:RdI w u l) (h2:RdI w v m):
  Calls Tryz.prog 37 #[u,v] w (SaysQ (sameI l m) w):=by
 have hm:=h.len
 have hm2:=h2.len
 obtain⟨a,cap,rfl⟩:=h.form
 obtain⟨a2,cap2,rfl⟩:=h2.form
 by_cases hn:l.length=m.length
 ·have HA:=hid (fun i hi=>rdi_at h i hi)
  have HA2:=hid (fun i hi=>rdi_at h2 i hi)
  have HD:=hid (sameI_drop l m)
  clear h h2
  obtain⟨L,hL⟩: ∃L,l.length=L:=⟨_,rfl⟩
  have hL2:m.length=L:=by omega
  rw[hL] at hm ⊢
  rw[hL2] at hm2 ⊢
  go_enter Tryz.func37,Tryz.ntmps37
  go_wp2
  go_loopw [5] (fun i wr=> ∃j N:Nat,j<=L/\i= .int .i64 j/\wr=w.drewN N/\Hid (sameI l m=sameI (l.drop j) (m.drop j))) (fun i _=>L - (intOf i).toNat)
  case atStart=>exact⟨0,0,by omega,rfl,rfl,hid rfl⟩
  case round=>
   obtain⟨j,N,hj,rfl,rfl,ha⟩:=hrel
   by_cases hlt:j<L
   ·obtain⟨b,o,rfl,hc⟩:=HA.out j (by omega)
    obtain⟨b',o',rfl,hc2⟩:=HA2.out j (by omega)
    have q1:=hc w (Below.refl _ _)
    have q2:=hc2 w (Below.refl _ _)
    have hd:=HD.out j (by omega) (by omega)
    clear HA HA2 HD hc hc2
    generalize l[j]=x at q1 hd
    generalize m[j]=y at q2 hd
    by_cases e1:x=y
    ·have d1:(x != y)=false:=by simp [e1]
     rw[decide_eq_true e1,Bool.true_and] at hd
     have H:=hid hd
     clear hd e1
     go_upto_region 6 with fail
     go_quiet (fail)
     go_wp2
     go_roundw
     case rel=>exact⟨j+1,_,by omega,by go_num,rfl,hid (by rw[ha.out,H.out])⟩
     case measure=>simp [intOf];omega
    ·have d1:(x != y)=true:=by simpa using e1
     rw[decide_eq_false e1,Bool.false_and] at hd
     have H:=hid hd
     clear hd e1
     go_upto_region 6 with fail
     go_quiet (fail)
     go_wp2
     go_ret
     exact⟨by rw[ha.out,H.out];rfl,_,World.drewN_drewN _ _ _⟩
   ·obtain rfl:j=L:=by omega
    go_wp2
    go_ret
    have ha:=ha.out
    rw[<-hL,List.drop_length,hL,<-hL2,List.drop_length] at ha
    exact⟨by rw[ha];rfl,N,rfl⟩
 ·have d1:((l.length:Int) != (m.length:Int))=true:=by simp;omega
  have e:sameI l m=false:=sameI_len l m hn
  rw[e]
  clear h h2 hn e
  generalize l.length=L at*
  generalize m.length=M at*
  go_enter Tryz.func37,Tryz.ntmps37
  go_wp2
  go_ret
  exact⟨rfl,0,rfl⟩
theorem sameI_dec (l m:List Int):sameI l m=decide (l=m):=by
 by_cases h:l=m
 ·rw[decide_eq_true h];exact(sameI_iff _ _).2 h
 ·rw[decide_eq_false h]
  cases q:sameI l m with
  | true=>exact absurd ((sameI_iff _ _).1 q) h
  | false=>rfl
set_option maxHeartbeats 4000000 in
theorem SameLocks_any (u v:Value) (l m:List LockC) (w:World) (h:RdK w u l) (h2:RdK w v m):
  Calls Tryz.prog 62 #[u,v] w (SaysB (sameK (vals l) (vals m)) w):=by
 have hm:=h.len
 have hm2:=h2.len
 obtain⟨a,cap,rfl⟩:=h.form
 obtain⟨a2,cap2,rfl⟩:=h2.form
 by_cases hn:l.length=m.length
 ·have HA:=hid (fun i hi=>rdk_at h.row i hi)
  have HA2:=hid (fun i hi=>rdk_at h2.row i hi)
  have HS:Hid (∀i (hi:i<l.length) (hi2:i<m.length) (w':World),Below w.heap.size w w'->Calls Tryz.prog 37 #[l[i].lv,m[i].lv] w' (SaysQ (sameI l[i].line m[i].line) w')):=hid fun i hi hi2 w' hb=>SameInts_q _ _ _ _ w' ((h.line _ (List.getElem_mem hi)).later hb) ((h2.line _ (List.getElem_mem hi2)).later hb)
  have HD:Hid (∀j (h:j<l.length) (hm:j<m.length),sameK ((vals l).drop j) ((vals m).drop j)=((decide (l[j].name =m[j].name) && (decide (l[j].holder =m[j].holder) && (decide (l[j].token =m[j].token) && decide (l[j].line =m[j].line)))) && sameK ((vals l).drop (j+1)) ((vals m).drop (j+1)))):=hid fun j hj hj2=>by
   have:=sameK_drop (vals l) (vals m) j (by rw[vals_length];exact hj) (by rw[vals_length];exact hj2)
   rw[vals_get l j hj,vals_get m j hj2] at this
   exact this
  clear h h2
  obtain⟨L,hL⟩: ∃L,l.length=L:=⟨_,rfl⟩
  have hL2:m.length=L:=by omega
  have HL:=hid hL
  have HL2:=hid hL2
  rw[hL] at hm ⊢
  rw[hL2] at hm2 ⊢
  clear hL hL2 hn
  go_enter Tryz.func62,Tryz.ntmps62
  go_wp2
  go_loopw [5] (fun i wr=> ∃j:Nat,j<=L/\i= .int .i64 j/\Hid (Below w.heap.size w wr)/\Hid (sameK (vals l) (vals m)=sameK ((vals l).drop j) ((vals m).drop j))) (fun i _=>L - (intOf i).toNat)
  case atStart=>exact⟨0,by omega,rfl,hid (Below.refl _ _),hid rfl⟩
  case round=>
   obtain⟨j,hj,rfl,HB,ha⟩:=hrel
   by_cases hlt:j<L
   ·have h1:j<l.length:=by rw[HL.out];exact hlt
    have h2:j<m.length:=by rw[HL2.out];exact hlt
    obtain⟨b,o,rfl,hc⟩:=HA.out j h1
    obtain⟨b',o',rfl,hc2⟩:=HA2.out j h2
    obtain⟨q0,q1,q2,q3⟩:=hc _ HB.out
    obtain⟨p0,p1,p2,p3⟩:=hc2 _ HB.out
    have hd:=HD.out j h1 h2
    have hs:=fun n=>HS.out j h1 h2 (wr.drewN n) (below_drewN6 HB.out n)
    clear HA HA2 HD HS hc hc2
    generalize l[j]=x at q0 q1 q2 q3 hd hs
    generalize m[j]=y at p0 p1 p2 p3 hd hs
    obtain⟨xn,xh,xt,xl,xa,xc⟩:=x
    obtain⟨yn,yh,yt,yl,ya,yc⟩:=y
    unfold LockC.lv at q3 p3 hs
    dsimp only at q0 q1 q2 q3 p0 p1 p2 p3 hd hs
    clear h1 h2
    have hE:=str_eq xn yn
    by_cases e0:xn=yn
    case neg=>
     rw[decide_eq_false e0] at hE hd
     have H:=hid hd
     clear hd e0 hs
     go_upto_region 6 with fail
     go_quiet (fail)
     go_wp2
     go_ret
     exact⟨by rw[ha.out,H.out];rfl,below_drewN6 HB.out nq⟩
    rw[decide_eq_true e0] at hE hd
    clear e0
    by_cases e1:xh=yh
    case neg=>
     have d1:(xh != yh)=true:=by simpa using e1
     rw[decide_eq_false e1] at hd
     have H:=hid hd
     clear hd e1 hs
     go_upto_region 6 with fail
     go_quiet (fail)
     go_wp2
     go_ret
     exact⟨by rw[ha.out,H.out];rfl,below_drewN6 HB.out nq⟩
    have d1:(xh != yh)=false:=by simp [e1]
    rw[decide_eq_true e1] at hd
    clear e1
    by_cases e2:xt=yt
    case neg=>
     have d2:(xt != yt)=true:=by simpa using e2
     rw[decide_eq_false e2] at hd
     have H:=hid hd
     clear hd e2 hs
     go_upto_region 6 with fail
     go_quiet (fail)
     go_wp2
     go_ret
     exact⟨by rw[ha.out,H.out];rfl,below_drewN6 HB.out nq⟩
    have d2:(xt != yt)=false:=by simp [e2]
    rw[decide_eq_true e2] at hd
    clear e2
    rw[<-sameI_dec] at hd
    unfold SaysQ at hs
    cases e3:sameI xl yl with
    | false=>
     rw[e3] at hd hs
     have H:=hid hd
     have HS:=hid hs
     clear hd hs e3
     go_upto_region 6 with fail
     go_quiet (first | (go_at_call 37;exact(HS.out _).mono fun e w2 ⟨he,n,hn⟩=>⟨he,_,hn.trans (World.drewN_drewN _ _ _)⟩))
     go_wp2
     go_ret
     exact⟨by rw[ha.out,H.out];rfl,below_drewN6 HB.out nq⟩
    | true=>
     rw[e3] at hd hs
     have H:=hid hd
     have HS:=hid hs
     clear hd hs e3
     go_upto_region 6 with fail
     go_quiet (first | (go_at_call 37;exact(HS.out _).mono fun e w2 ⟨he,n,hn⟩=>⟨he,_,hn.trans (World.drewN_drewN _ _ _)⟩))
     go_wp2
     go_roundw
     case rel=>exact⟨j+1,by omega,by go_num,hid (below_drewN6 HB.out nq),hid (by rw[ha.out,H.out];rfl)⟩
     case measure=>simp [intOf];omega
   ·obtain rfl:j=L:=by omega
    go_wp2
    go_ret
    have ha:=ha.out
    have t1:(vals l).drop j= []:=List.drop_eq_nil_of_le (by rw[vals_length,HL.out];exact Nat.le_refl _)
    have t2:(vals m).drop j= []:=List.drop_eq_nil_of_le (by rw[vals_length,HL2.out];exact Nat.le_refl _)
    rw[t1,t2] at ha
    exact⟨by rw[ha];rfl,HB.out⟩
 ·have d1:((l.length:Int) != (m.length:Int))=true:=by simp;omega
  have e:sameK (vals l) (vals m)=false:=sameK_len _ _ (by rw[vals_length,vals_length];exact hn)
  rw[e]
  clear h h2 hn e
  generalize l.length=L at*
  generalize m.length=M at*
  go_enter Tryz.func62,Tryz.ntmps62
  go_wp2
  go_ret
  exact⟨rfl,Below.refl _ _⟩
end Cm
end Go.Proofs.YtlnbmblbeaodcaaGreat

/- Rows that grow, rows of unlike elements; locks that are held, as rows; the place of the first that meets a test. -/
set_option linter.unusedVariables false
set_option maxRecDepth 8000
set_option linter.unusedSimpArgs false
namespace Go.Proofs.YtlnbmblbeaodcaaGreat
open Lib (hid)
open Go.RowKit
namespace Cm

section
variable {α : Type} {sz : Nat} {f : α → List Value}
theorem wpList_append_one_gr (hf: ∀x,(f x).length =sz) (hsz:0<sz) {P:Program} {ops:Array Oper} {rest:List Oper} {o:Oper} {a:Act} {Q:Exit->Act->World->Prop} {W:World} (hgd:o.guard=none) (s x:Operand) (t:TypeId)
  (ho:o.op= .call { callee:=.builtin .append,args:=#[s,x],argTypes:=#[t,t] })
  (e:TypeId) (i:TypeInfo) (z:Value) (bytes:Nat) (ht:P.underlying t=some (.slice e)) (hi:P.info? e=some i) (hz:i.zero=some z) (hsize:i.size=sz) (hby:i.bytes=bytes) (hzs:z.cells.size=sz)
  (cs:Array Value) (y:α) (hcs:cs.toList=f y) (h1: ∀u∈f y,u.oneCell'=true) (M:List α) (base:Nat) (m:Value) (hs:a.eval s=m) (hx:a.eval x= .slice (some ⟨W.heap.size,0,none⟩) 1 1)
  (hown:W.ownsRow base e sz m M.length (flatX f M)) (h63:M.length+1<=maxLen) (hlen:(M.length+1)*bytes<=140737488355328) (hbase:base<=W.heap.size)
  (h: ∀v' w',w'.ownsRow base e sz v' (M++ [y]).length (flatX f (M++ [y]))->(W.alloc (.cells cs e)).grownBy w' m.ownBlock->(v'.ownBlock=m.ownBlock\/v'.ownBlock=some (W.alloc (.cells cs e)).heap.size)->wpList P ops Q rest (a.put o.dst v') w'):
  wpList P ops Q (o::rest) a (W.alloc (.cells cs e)):=by
 have hz1:(W.alloc (.cells cs e)).heap.size =W.heap.size+1:=by simp
 refine wpList_append_own_at (W.alloc (.cells cs e)) hgd s x t ho base e i z sz bytes ht hi hz hsize hby hzs hsz m M.length (flatX f M) hs (Rw.own_alloc hown _) ⟨W.heap.size,0,none⟩ 1 1 (f y) hx (by rw[hf];omega) ?_ h1 h63 hlen (by rw[hz1];omega) ?_
 ·rw[<-hcs]
  exact World.news_of_block (w:=W.alloc (.cells cs e)) (B:=W.heap.size) (cs:=cs) (t:=e) (fr:=(0,0)) (by show(W.heap.push _)[W.heap.size]?= _;simp)
 ·intro v' w' ho' hg _ hat
  refine h v' w' ?_ hg hat
  rw[List.length_append,flatX_snoc]
  exact ho'
end

theorem own_types {w:World} {b1 b2 s1 s2 n1 n2:Nat} {e1 e2:TypeId} {u v:Value} {xs ys:List Value} (h:w.ownsRow b1 e1 s1 u n1 xs) (h2:w.ownsRow b2 e2 s2 v n2 ys) (hne:e1≠e2):Rw.Apart u v:=by
 intro g hu hv
 rcases h.2 with ⟨rfl,_⟩ | ⟨g1,cap,cur,rfl,_,q1,_⟩
 ·cases hu
 rcases h2.2 with ⟨rfl,_⟩ | ⟨g2,cap2,cur2,rfl,_,q2,_⟩
 ·cases hv
 have r1:g1=g:=by simpa [Value.ownBlock] using hu
 have r2:g2=g:=by simpa [Value.ownBlock] using hv
 subst r1
 subst r2
 rw[q1] at q2
 injection q2 with q2
 injection q2 with _ q2
 exact hne q2
theorem box1k_at (w:World) (v:Value) (t:TypeId) (w':World) (hb:Below (w.alloc (.cells #[v] t)).heap.size (w.alloc (.cells #[v] t)) w'):w'.cell? ⟨w.heap.size,0,none⟩=some v:=by
 have h:(w.alloc (.cells #[v] t)).cell? ⟨w.heap.size,0,none⟩=some v:=by simp
 exact(hb.cell (lt_of_cell h)).trans h
theorem idx_casesG {α:Type} (p:α->Bool) (l:List α):idxI p l= -1\/ ∃k,∃h:k<l.length,idxI p l=(k:Int)/\p l[k]=true:=by
 unfold idxI
 split
 ·rename_i h
  exact .inr ⟨_,h,rfl,List.findIdx_getElem⟩
 ·exact .inl rfl
theorem infoG8:(Tryz.prog.info? 141).map (fun i=>(i.zero,i.size,i.bytes))=some (some (.agg #[.string ⟨#[]⟩,.int .i64 0]),2,24):=by kernel_rfl
def cellsG (g:GrantV):List Value:= [.string (bstr g.name),.int .i64 g.token]
theorem cellsG_length (g:GrantV):(cellsG g).length =2:=rfl
theorem cellsG_one (g:GrantV): ∀u∈cellsG g,u.oneCell'=true:=by
 intro u hu
 unfold cellsG at hu
 simp only[List.mem_cons,List.not_mem_nil,or_false] at hu
 rcases hu with rfl | rfl<;>rfl
theorem RdH.of {w:World} {v:Value} {l:List GrantV} (h:RdX 2 cellsG w v l):RdH w v l:=by
 obtain⟨a,cap,hv,h1,h2,h3,h4⟩:=h.ex
 refine⟨a,cap,hv,h1,h2,fun q=>(h3 q).1,fun x hx hp=>?_⟩
 obtain⟨hs,hc⟩:=h4 x hx hp
 exact⟨hs,fun i hi=>⟨hc i hi 0 _ rfl,hc i hi 1 _ rfl⟩⟩
end Cm
end Go.Proofs.YtlnbmblbeaodcaaGreat

/- Contracts: padlockref6's Copy: locks in new memory, lines of their own. -/
set_option linter.unusedVariables false
set_option maxRecDepth 8000
set_option linter.unusedSimpArgs false
namespace Go.Proofs.YtlnbmblbeaodcaaGreat
open Lib (hid)
open Go.RowKit
namespace Cm

theorem infoK:(Tryz.prog.info? 71).map (fun i=>(i.zero,i.size,i.bytes))=some (some (.agg #[.string ⟨#[]⟩,.int .i64 0,.int .i64 0,.slice none 0 0]),4,56):=by kernel_rfl
structure OwnD (base:Nat) (w:World) (v:Value) (M:List LockC):Prop where
 row:w.ownsRow base 71 4 v M.length (flatX cellsK M)
 line: ∀x∈M,w.ownsRow base 3 1 x.lv x.line.length (flatX cellsI x.line)
 sep:M.Pairwise fun x y=>Rw.Apart x.lv y.lv
theorem OwnD.nil (base:Nat) (w:World):OwnD base w (.slice none 0 0) []:=⟨World.ownsRow_nil _ _ _ _,(fun x hx=>by cases hx),List.Pairwise.nil⟩
theorem OwnD.rd {base:Nat} {w:World} {v:Value} {M:List LockC} (h:OwnD base w v M):RdK w v M:=⟨RdX.own cellsK_length h.row,fun x hx=>RdX.own cellsI_length (h.line x hx)⟩
theorem OwnD.later {base:Nat} {w w':World} {v:Value} {M:List LockC} (h:OwnD base w v M) (hb:Below w.heap.size w w'):OwnD base w' v M:=⟨Rw.own_below h.row hb,fun x hx=>Rw.own_below (h.line x hx) hb,h.sep⟩
theorem OwnD.lower {base base':Nat} {w:World} {v:Value} {M:List LockC} (h:OwnD base w v M) (hb:base'<=base):OwnD base' w v M:=⟨own_lowerX h.row hb,fun x hx=>own_lowerX (h.line x hx) hb,h.sep⟩
theorem OwnD.push {base base':Nat} {wr w3 w6:World} {m v':Value} {M:List LockC} {x:LockC} (h:OwnD base wr m M) (hb:Below wr.heap.size wr w3)
  (hl:w3.ownsRow base' 3 1 x.lv x.line.length (flatX cellsI x.line)) (h1:wr.heap.size<=base') (hbs:base<=base') (hg:w3.grownBy w6 m.ownBlock)
  (ho:w6.ownsRow base 71 4 v' (M++ [x]).length (flatX cellsK (M++ [x]))):OwnD base w6 v' (M++ [x]):=by
 have hm:=(h.later hb).row
 refine⟨ho,fun y hy=>?_,List.pairwise_append.2 ⟨h.sep,List.pairwise_singleton _ _,fun a ha b hb'=>?_⟩⟩
 ·rcases List.mem_append.1 hy with q | q
  ·have hy':=(h.later hb).line y q
   exact Rw.own_other hy' hg (own_types hm hy' (by decide))
  ·rw[List.mem_singleton] at q
   subst q
   exact own_lowerX (Rw.own_other hl hg (own_types hm hl (by decide))) hbs
 ·rw[List.mem_singleton] at hb'
  subst hb'
  intro g q1 q2
  have a1:=(Rw.own_lt (h.line a ha) g q1).2
  have a2:=(Rw.own_lt hl g q2).1
  omega
def MadeC (l:List LockV) (w:World) (e:Ending) (w':World):Prop:=
 ∃v M,e= .returned v/\vals M=l/\OwnD w.heap.size w' v M/\Below w.heap.size w w'
set_option maxHeartbeats 4000000 in
theorem CopyK_any (v:Value) (L:List LockC) (w:World) (h:RdK w v L) (h5:L.length<=1000) (h6: ∀x∈L,x.line.length<=1000):Calls Tryz.prog 36 #[v] w (MadeC (vals L) w):=by
 have hm:=h.len
 obtain⟨a,cap,rfl⟩:=h.form
 have HA:=hid (fun i hi=>rdk_at h.row i hi)
 have HL:Hid (∀i (hi:i<L.length) (w':World),Below w.heap.size w w'->RdI w' L[i].lv L[i].line /\L[i].line.length <=1000):=hid fun i hi w' hb=>⟨(h.line _ (List.getElem_mem hi)).later hb,h6 _ (List.getElem_mem hi)⟩
 have HV:Hid (∀i (hi:i<L.length),vals (L.take (i+1))=vals (L.take i)++ [L[i].val]):=hid fun i hi=>by
  rw[List.take_succ_eq_append_getElem hi]
  unfold vals
  rw[List.map_append]
  rfl
 clear h h6
 obtain⟨N,hN⟩: ∃N,L.length=N:=⟨_,rfl⟩
 have HLL:=hid hN
 rw[hN] at hm h5 ⊢
 clear hN
 obtain⟨i0,hi,hz0,hz1,hz2⟩:=info_parts infoN
 obtain⟨i1,hi',hz0',hz1',hz2'⟩:=info_parts infoK
 go_enter Tryz.func36,Tryz.ntmps36
 go_wp2
 go_loopw [3,4] (fun m i wr=> ∃(k:Nat) (M:List LockC),k<=N/\i= .int .i64 k/\M.length=k/\Hid (vals M=vals (L.take k))/\Hid (OwnD w.heap.size wr m M)/\Hid (Below w.heap.size w wr)) (fun _ i _=>N - (intOf i).toNat)
 case atStart=>exact⟨0,[],by omega,rfl,rfl,hid rfl,hid (OwnD.nil _ _),hid (Below.refl _ _)⟩
 case round=>
  obtain⟨k,M,hk,rfl,hMk,HM,HO,HB⟩:=hrel
  by_cases hlt:k<N
  ·have hkl:k<L.length:=by rw[HLL.out];exact hlt
   obtain⟨b,o,rfl,hc⟩:=HA.out k hkl
   obtain⟨q0,q1,q2,q3⟩:=hc _ HB.out
   have hl:=HL.out k hkl
   have hv:=HV.out k hkl
   clear hc HA HL HV
   generalize L[k]=x at q0 q1 q2 q3 hl hv
   obtain⟨xn,xh,xt,xl,xa,xc⟩:=x
   unfold LockC.lv at q3 hl
   unfold LockC.val at hv
   dsimp only at q0 q1 q2 q3 hl hv
   obtain⟨W1,hW1⟩: ∃W1,W1=wr.alloc (.cells #[.string (bstr xn),.int .i64 xh,.int .i64 xt,.slice xa xl.length xc] 71):=⟨_,rfl⟩
   have HB1:Hid (Below wr.heap.size wr W1):=hid (by rw[hW1];exact newAlloc _ _)
   have hsz:W1.heap.size=wr.heap.size+1:=by rw[hW1];simp
   have HR:=hid ((hl _ (step (step HB.out HB1.out) (newAlloc W1 (.cells #[] 3)))).1)
   have hll:=(hl _ HB.out).2
   have HVV:=hid hv
   obtain⟨z0,z1,z2,z3⟩:=box4 (Below.refl _ (wr.alloc (.cells #[.string (bstr xn),.int .i64 xh,.int .i64 xt,.slice xa xl.length xc] 71)))
   rw[<-hW1] at z0 z1 z2 z3
   have zf: ∀j,W1.frozen? ⟨wr.heap.size,j,none⟩=false:=fun j=>by rw[hW1];simp [go_sem]
   clear hl hv
   go_upto_region 6 with fail
   rw[<-hW1]
   have z3':(W1.alloc (.cells #[] 3)).cell? ⟨wr.heap.size,3,none⟩=some (.slice xa xl.length xc):=((newAlloc W1 (.cells #[] 3)).cell (p:=⟨wr.heap.size,3,none⟩) (by rw[hsz];exact Nat.lt_succ_self _)).trans z3
   have hbl:wr.heap.size<W1.heap.size:=by omega
   clear hW1 hsz
   go_upto_region 7 with (at_builtin;refine wpList_append_rdx cellsI_length (by omega) cellsI_one rfl (.tmp 16) (.tmp 18) 69 rfl W1.heap.size 3 i0 _ 8 Tryz.underlying69 hi hz0 hz1 hz2 rfl _ 0 [] rfl (own_new W1 _ 1 _ _ rfl (Nat.le_refl _)) _ xl rfl (HR.out) (by unfold maxLen;omega) (by omega) (newAlloc W1 (.cells #[] 3)).size ?_;intro v1 w2 hown2 hgrow2;have HB2:Hid (Below W1.heap.size W1 w2):=hid ((newAlloc W1 (.cells #[] 3)).grown hgrow2 (newAlloc W1 (.cells #[] 3)).size (fun k hk=>by cases hk;exact Nat.le_refl _));have HO2:Hid (w2.ownsRow W1.heap.size 3 1 v1 xl.length (flatX cellsI xl)):=hid (by simpa using hown2);obtain⟨ya,yc,rfl⟩:=Rw.own_form HO2.out;have y3:=(HB2.out.cell (p:=⟨wr.heap.size,3,none⟩) hbl).trans z3;have yf:=(HB2.out.frozen (p:=⟨wr.heap.size,3,none⟩) hbl).trans (zf 3);clear hown2 hgrow2)
   obtain⟨W3,hW3⟩: ∃W3,W3=w2.setCell ⟨wr.heap.size,3,none⟩ (.slice ya xl.length yc):=⟨_,rfl⟩
   have y0:=(HB2.out.cell (p:=⟨wr.heap.size,0,none⟩) hbl).trans z0
   have y1:=(HB2.out.cell (p:=⟨wr.heap.size,1,none⟩) hbl).trans z1
   have y2:=(HB2.out.cell (p:=⟨wr.heap.size,2,none⟩) hbl).trans z2
   have t0:W3.cell? ⟨wr.heap.size,0,none⟩=some (.string (bstr xn)):=by rw[hW3];simp [go_sem,y0]
   have t1:W3.cell? ⟨wr.heap.size,1,none⟩=some (.int .i64 xh):=by rw[hW3];simp [go_sem,y1]
   have t2:W3.cell? ⟨wr.heap.size,2,none⟩=some (.int .i64 xt):=by rw[hW3];simp [go_sem,y2]
   have t3:W3.cell? ⟨wr.heap.size,3,none⟩=some (.slice ya xl.length yc):=by rw[hW3];simp [go_sem,y3,yf]
   have HB3:Hid (Below wr.heap.size wr W3):=hid (by rw[hW3];exact(step HB1.out HB2.out).setCell (Nat.le_refl _) _)
   have HO3:Hid (W3.ownsRow W1.heap.size 3 1 (.slice ya xl.length yc) xl.length (flatX cellsI xl)):=hid (by rw[hW3];exact ownsRow_setCell_below HO2.out hbl _)
   have HM3:Hid (W3.ownsRow w.heap.size 71 4 u3 M.length (flatX cellsK M)):=hid (HO.out.later HB3.out).row
   rw[<-hW3]
   clear hW3 y0 y1 y2 y3 yf z0 z1 z2 z3 z3' zf HO2 HB2 HR HB1
   have hb3:=HB3.out.size
   have hbw:=HB.out.size
   have HBL:=hid (Nat.le_of_lt hbl)
   clear hbl
   go_wp2_with (at_builtin;refine wpList_append_one_gr cellsK_length (by omega) rfl (.tmp 21) (.tmp 23) 23 rfl 71 i1 _ 56 Tryz.underlying23 hi' hz0' hz1' hz2' rfl #[.string (bstr xn),.int .i64 xh,.int .i64 xt,.slice ya xl.length yc] (⟨xn,xh,xt,xl,ya,yc⟩:LockC) rfl (cellsK_one _) M w.heap.size u3 rfl rfl HM3.out (by unfold maxLen;omega) (by omega) (by omega) ?_;intro v6 w6 ho6 hg6 _;have HO6:Hid (OwnD w.heap.size w6 v6 (M++ [⟨xn,xh,xt,xl,ya,yc⟩])):=hid (HO.out.push (x:=⟨xn,xh,xt,xl,ya,yc⟩) (stepAlloc HB3.out _) (Rw.own_alloc HO3.out _) HBL.out (Nat.le_trans hbw HBL.out) hg6 ho6);have HB6:Hid (Below w.heap.size w w6):=hid ((step HB.out (stepAlloc HB3.out _)).grown hg6 (by simp;omega) (fun g hg=>(Rw.own_lt HM3.out g hg).1));clear ho6 hg6)
   go_roundw
   case rel=>exact⟨k+1,M++ [⟨xn,xh,xt,xl,ya,yc⟩],by omega,by go_num,by simp;omega,hid (by rw[HVV.out,<-HM.out];unfold vals;rw[List.map_append];rfl),HO6,HB6⟩
   case measure=>simp [intOf];omega
  ·obtain rfl:k=N:=by omega
   go_wp2
   go_ret
   have hM:=HM.out
   rw[<-HLL.out,List.take_length] at hM
   exact⟨_,M,rfl,hM,HO.out,HB.out⟩
end Cm
end Go.Proofs.YtlnbmblbeaodcaaGreat
