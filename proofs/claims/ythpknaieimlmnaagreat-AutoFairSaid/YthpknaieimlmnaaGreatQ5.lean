/- Texts laid together by program. -/
import Derived.Test.YthpknaieimlmnaaGreatQ4
import Derived.Deep.RegionHeld3
import Derived.Deep.DrawnRows
import Derived.Shelf.Abstract
/- Contracts: padlockref6's RenewSession. -/
set_option linter.unusedVariables false
set_option maxRecDepth 8000
set_option linter.unusedSimpArgs false
namespace Go.Proofs.YthpknaieimlmnaaGreat
open Lib (hid)
open Go.RowKit
namespace Cm

theorem ownS_at {w:World} {base g n cap:Nat} {M:List SesV} (h:w.ownsRow base 56 3 (.slice (some ⟨g,0,none⟩) n cap) n (flatX cellsS M)) (hn:M.length=n) (k:Nat) (hk:k<M.length):
  w.cell? ⟨g,k*3,none⟩=some (.int .i64 M[k].client)/\w.cell? ⟨g,k*3+1,none⟩=some (.int .i64 M[k].num)/\w.cell? ⟨g,k*3+2,none⟩=some (.int .i64 M[k].ren)/\ ∀j,w.frozen? ⟨g,j,none⟩=false:=by
 have a0:=h.cellAt (k*3+0) (by omega)
 have a1:=h.cellAt (k*3+1) (by omega)
 have a2:=h.cellAt (k*3+2) (by omega)
 rw[flatX_get cellsS_length M k hk 0 (by omega)] at a0
 rw[flatX_get cellsS_length M k hk 1 (by omega)] at a1
 rw[flatX_get cellsS_length M k hk 2 (by omega)] at a2
 exact⟨a0,a1,a2,fun j=>h.frozenAt j⟩
theorem ownS_ren {w:World} {base g n cap:Nat} {M:List SesV} (h:w.ownsRow base 56 3 (.slice (some ⟨g,0,none⟩) n cap) n (flatX cellsS M)) (k:Nat) (hk:k<M.length) (r:Int):
  (w.setCell ⟨g,k*3+2,none⟩ (.int .i64 r)).ownsRow base 56 3 (.slice (some ⟨g,0,none⟩) n cap) n (flatX cellsS (M.set k ⟨M[k].client,M[k].num,r⟩)):=by
 have h1:=(h.stored (k*3+2) (.int .i64 r)).1
 rw[flatX_set cellsS_length 2 (.int .i64 r) (by omega) ⟨M[k].client,M[k].num,r⟩ M k hk rfl] at h1
 exact h1
def renN (l:List SesV) (c t:Int) (k:Nat):List SesV:=(l.take k).map (renewE c t)++l.drop k
theorem renN_zero (l:List SesV) (c t:Int):renN l c t 0=l:=by simp [renN]
theorem renN_all (l:List SesV) (c t:Int):renN l c t l.length=l.map (renewE c t):=by simp [renN]
theorem renN_length (l:List SesV) (c t:Int) (k:Nat) (h:k<=l.length):(renN l c t k).length =l.length:=by
 unfold renN
 rw[List.length_append,List.length_map,List.length_take,List.length_drop]
 omega
theorem renN_get (l:List SesV) (c t:Int) (k:Nat) (h:k<l.length) (h':k<(renN l c t k).length):(renN l c t k)[k]=l[k]:=by
 unfold renN at h' ⊢
 rw[List.getElem_append_right (by rw[List.length_map,List.length_take];omega)]
 simp only[List.length_map,List.length_take,List.getElem_drop]
 congr 1
 omega
theorem renN_succ (l:List SesV) (c t:Int) (k:Nat) (h:k<l.length):renN l c t (k+1)=(renN l c t k).set k (renewE c t l[k]):=by
 unfold renN
 have hk:((l.take k).map (renewE c t)).length =k:=by rw[List.length_map,List.length_take];omega
 rw[List.take_succ_eq_append_getElem h,List.map_append,List.set_append_right _ _ (by omega),hk,Nat.sub_self,List.append_assoc]
 congr 1
 have e:=List.drop_eq_getElem_cons h
 rw[e]
 rfl
theorem renN_same (l:List SesV) (c t:Int) (k:Nat) (h:k<l.length):(renN l c t k).set k l[k]=renN l c t k:=by
 have h':k<(renN l c t k).length :=by rw[renN_length l c t k (by omega)];exact h
 have:=renN_get l c t k h h'
 rw[<-this]
 exact List.set_getElem_self h'
set_option maxHeartbeats 4000000 in
theorem Renew_any (v:Value) (l:List SesV) (c t:Int) (w:World) (h:RdS w v l) (h5:l.length<=1000):Calls Tryz.prog 128 #[v,.int .i64 c,.int .i64 t] w (GetsS (renewS l c t) w):=by
 have hm:=h.len
 have CF:=hid (Find_any v l c w h)
 have HR0:=hid h
 obtain⟨a,cap,rfl⟩:=h.form
 clear h
 cases n1:highF t 0
 case false=>
  have e:renewS l c t=([],1):=by unfold renewS;simp [n1]
  rw[e]
  go_enter Tryz.func128,Tryz.ntmps128
  go_wp2_with fail
  refine(high6_any _ _ _).mono ?_
  rw[n1]
  rintro e w1 ⟨rfl,rfl⟩
  go_wp2
  go_ret2
  exact GetsS.empty rfl (Below.refl _ _)
 obtain⟨L,hL⟩: ∃L,l.length=L:=⟨_,rfl⟩
 have HLL:=hid hL
 rw[hL] at hm CF h5 HR0 ⊢
 clear hL
 obtain⟨i0,hi,hz0,hz1,hz2⟩:=info_parts infoS
 have CF2:=CF.out
 unfold Found at CF2
 cases hf:(findS l c).2
 case false=>
  have e:renewS l c t=([],6):=by unfold renewS;rw[if_neg (by simp [n1]),if_pos hf]
  rw[e]
  rw[hf] at CF2
  have CF2:=hid CF2
  clear hf CF
  generalize (findS l c).1=fs at CF2
  obtain⟨fc,fn,fr⟩:=fs
  unfold sesVal at CF2
  dsimp only at CF2
  go_enter Tryz.func128,Tryz.ntmps128
  go_wp2_with fail
  refine(high6_any _ _ _).mono ?_
  rw[n1]
  rintro e w1 ⟨rfl,rfl⟩
  go_wp2_with (go_at_call 32;refine CF2.out.mono ?_;rintro e w1 ⟨rfl,hb1⟩)
  go_ret2
  exact GetsS.empty rfl (stepAlloc hb1 _)
 have e:renewS l c t=(l.map (renewE c t),0):=by unfold renewS;rw[if_neg (by simp [n1]),if_neg (by simp [hf])]
 rw[e]
 have hne:0<l.length:=by
  cases l with
  | nil=>simp [findS] at hf
  | cons x l=>simp
 obtain⟨b,o,rfl, -⟩:=rds_at HR0.out 0 hne
 have hneL:0<L:=by rw[<-HLL.out];exact hne
 rw[hf] at CF2
 have CF2:=hid CF2
 clear hf CF e
 generalize (findS l c).1=fs at CF2
 obtain⟨fc,fn,fr⟩:=fs
 unfold sesVal at CF2
 dsimp only at CF2
 have HNW:=hid (fun(w':World) (hb:Below w.heap.size w w')=>(RdX.news cellsS_length (by omega) (HR0.out.later hb)))
 have HG1:Hid (∀u∈flatX cellsS l,u.oneCell'=true):=hid fun u hu=>by
  unfold flatX at hu
  obtain⟨s,_,hs⟩:=List.mem_flatMap.1 hu
  exact cellsS_one s u hs
 have HGL:=hid (show(flatX cellsS l).length =L*3 by rw[flatX_length cellsS_length,HLL.out])
 go_enter Tryz.func128,Tryz.ntmps128
 go_wp2_with fail
 refine(high6_any _ _ _).mono ?_
 rw[n1]
 rintro e w1 ⟨rfl,rfl⟩
 clear n1
 go_wp2_with (first
  | (go_at_call 32;refine CF2.out.mono ?_;rintro e w1 ⟨rfl,hb1⟩;have HW:=hid (stepAlloc hb1 (.cells #[.int .i64 fc,.int .i64 fn,.int .i64 fr] 56));clear hb1)
  | (at_builtin;refine wpList_append_own_at ((w1.alloc (.cells #[.int .i64 fc,.int .i64 fn,.int .i64 fr] 56)).alloc (.cells #[] 56)) rfl (.tmp 23) (.tmp 24) 24 rfl (w1.heap.size+1) 56 i0 _ 3 24 Tryz.underlying24 hi hz0 hz1 hz2 rfl (by omega) (.slice (some ⟨w1.heap.size+1,0,none⟩) 0 0) 0 [] rfl (own_new _ _ _ _ _ (by simp) (Nat.le_refl _)) ⟨b,o,none⟩ L cap (flatX cellsS l) rfl HGL.out (HNW.out _ (stepAlloc HW.out _)) HG1.out (by unfold maxLen;omega) (by omega) (by simp) ?_;intro v8 w8 hown8 hgrow8 _ _;obtain⟨g,cp,rfl,hg,ho8⟩:=row_shape HLL.out hneL hown8;have HB8:=hid ((stepAlloc HW.out (.cells #[] 56)).grown hgrow8 (by have:=HW.out.size;simp at this;simp;omega) (fun k hk=>by simp [Value.ownBlock] at hk;have:=HW.out.size;simp at this;omega));have HO8:=hid (own_lowerX ho8 (show w.heap.size<=w1.heap.size+1 by have:=HW.out.size;simp at this;omega));clear hown8 hgrow8 ho8))
 have hgw:w.heap.size<=g:=by have:=HW.out.size;simp at this;omega
 clear hg HW HNW HG1 HGL CF2
 go_loopw [11] (fun i wr=> ∃k:Nat,k<=L/\i= .int .i64 k/\Hid (wr.ownsRow w.heap.size 56 3 (.slice (some ⟨g,0,none⟩) L cp) L (flatX cellsS (renN l c t k)))/\Hid (Below w.heap.size w wr)) (fun i _=>L - (intOf i).toNat)
 case atStart=>exact⟨0,by omega,rfl,by rw[renN_zero];exact HO8,HB8⟩
 case round=>
  obtain⟨k,hk,rfl,HO,HB⟩:=hrel
  by_cases hlt:k<L
  ·have hkl:k<l.length:=by rw[HLL.out];exact hlt
   have hrl:(renN l c t k).length =L:=by rw[renN_length l c t k (by omega),HLL.out]
   obtain⟨q0,q1,q2,qf⟩:=ownS_at HO.out hrl k (by omega)
   have hgk:=renN_get l c t k hkl (by omega)
   have HOR:=hid (fun r=>ownS_ren HO.out k (by omega) r)
   rw[hgk] at q0 q1 q2 HOR
   have hsu:=renN_succ l c t k hkl
   have hsm:=renN_same l c t k hkl
   clear hgk hrl
   generalize l[k]=s at q0 q1 q2 HOR hsu hsm
   obtain⟨gc,gn,gr⟩:=s
   dsimp only at q0 q1 q2 HOR
   have f1:(0:Int)<=(k:Int):=by omega
   have f2:(k:Int)<(L:Int):=by omega
   by_cases e1:gc=c
   ·have d1:(gc==c)=true:=by simpa using e1
    have hsu2:renN l c t (k+1)=(renN l c t k).set k ⟨gc,gn,if gr<t then t else gr⟩:=by rw[hsu];simp [renewE,e1]
    have H:=hid hsu2
    clear hsu hsu2 hsm e1
    by_cases e2:gr<t
    ·rw[if_pos e2] at H
     have d2:decide (gr<t)=true:=decide_eq_true e2
     have HS:=hid (HOR.out t)
     clear HOR
     go_wp2
     go_roundw
     case rel=>exact⟨k+1,by omega,by go_num,by rw[H.out];exact HS,hid (HB.out.setCell hgw _)⟩
     case measure=>simp [intOf];omega
    ·rw[if_neg e2] at H
     have d2:decide (gr<t)=false:=decide_eq_false e2
     have HS:=hid (HOR.out gr)
     clear HOR
     go_wp2
     go_roundw
     case rel=>exact⟨k+1,by omega,by go_num,by rw[H.out];exact HS,hid (HB.out.setCell hgw _)⟩
     case measure=>simp [intOf];omega
   ·have d1:(gc==c)=false:=by simpa using e1
    have hsu2:renN l c t (k+1)=renN l c t k:=by
     rw[hsu]
     have e:renewE c t ⟨gc,gn,gr⟩=⟨gc,gn,gr⟩:=by simp [renewE,e1]
     rw[e]
     exact hsm
    have H:=hid hsu2
    clear hsu hsu2 hsm e1 HOR
    go_wp2
    go_roundw
    case rel=>exact⟨k+1,by omega,by go_num,by rw[H.out];exact HO,HB⟩
    case measure=>simp [intOf];omega
  ·obtain rfl:k=L:=by omega
   have ho:=HO.out
   rw[<-HLL.out,renN_all,HLL.out] at ho
   have HO:=hid ho
   clear ho
   go_wp2
   go_ret2
   refine⟨_,rfl,?_,HB.out⟩
   show World.ownsRow _ _ _ _ _ (List.length (l.map (renewE c t))) _
   rw[List.length_map,HLL.out]
   exact HO.out
end Cm
end Go.Proofs.YthpknaieimlmnaaGreat

/- Contracts: slices.IndexFunc, slices.ContainsFunc over sessions, whatever the test. -/
set_option linter.unusedVariables false
set_option maxRecDepth 8000
set_option linter.unusedSimpArgs false
namespace Go.Proofs.YthpknaieimlmnaaGreat
open Lib (hid)
open Go.RowKit Go.Shelf
namespace Cm

def idxI {α:Type} (p:α->Bool) (l:List α):Int:=if l.findIdx p<l.length then (l.findIdx p:Int) else -1
theorem idxI_hit {α:Type} (p:α->Bool) (l:List α) (k:Nat) (h:k<l.length) (hp:p l[k]=true) (hb: ∀j (hj:j<k),p (l[j]'(by omega))=false):idxI p l=k:=by
 have e:l.findIdx p=k:=(List.findIdx_eq h).2 ⟨hp,hb⟩
 unfold idxI
 rw[e,if_pos h]
theorem idxI_miss {α:Type} (p:α->Bool) (l:List α) (hb: ∀j (hj:j<l.length),p l[j]=false):idxI p l= -1:=by
 have: ¬l.findIdx p<l.length:=fun q=>by
  have h1:=List.findIdx_getElem (w:=q)
  rw[hb _ q] at h1
  cases h1
 unfold idxI
 rw[if_neg this]
theorem idxI_ge {α:Type} (p:α->Bool) (l:List α): -1<=idxI p l:=by unfold idxI;split<;>omega
theorem idxI_lt {α:Type} (p:α->Bool) (l:List α):idxI p l<l.length:=by unfold idxI;split<;>omega
theorem idxI_any {α:Type} (p:α->Bool) (l:List α):decide (0<=idxI p l)=l.any p:=by
 unfold idxI
 by_cases h:l.findIdx p<l.length
 ·rw[if_pos h,decide_eq_true (by omega),Eq.comm,List.any_eq_true]
  exact⟨l[l.findIdx p],List.getElem_mem _,List.findIdx_getElem (w:=h)⟩
 ·rw[if_neg h,decide_eq_false (by omega),Eq.comm,List.any_eq_false]
  intro x hx q
  exact h (List.findIdx_lt_length_of_exists ⟨x,hx,q⟩)
def SaysI (r:Int) (w:World) (e:Ending) (w':World):Prop:=e= .returned (.int .i64 r)/\Below w.heap.size w w'
set_option maxHeartbeats 2000000 in
theorem IdxS_any (p:SesV->Bool) (g:Nat) (lb:Array Value) (eg: ∀args w,(callFunc g args).run Tryz.prog w= .ok (.enter g args) w) (v:Value) (l:List SesV) (w:World) (h:RdS w v l)
  (hp: ∀(W:World) (x:SesV),Below w.heap.size w W->Calls Tryz.prog g (#[sesVal x]++lb) W (SaysB (p x) W)):
  Calls Tryz.prog 184 #[v,.func (.func g) #[] lb] w (SaysI (idxI p l) w):=by
 have hm:=h.len
 obtain⟨a,cap,rfl⟩:=h.form
 have HA:=hid (fun i hi=>rds_at h i hi)
 have HP:=hid hp
 have HH:=hid (idxI_hit p l)
 have HM:=hid (idxI_miss p l)
 clear h hp
 obtain⟨L,hL⟩: ∃L,l.length=L:=⟨_,rfl⟩
 have HLL:=hid hL
 rw[hL] at hm ⊢
 clear hL
 go_enter Tryz.func184,Tryz.ntmps184
 go_wp2
 go_loopg [5,8] L (fun gg _ s8 wr=> ∃kk:Nat,kk<=L/\L - kk<=gg/\s8= .int .i64 kk/\Hid (Below w.heap.size w wr)/\Hid (∀j (hj:j<kk) (hl:j<l.length),p l[j]=false))
 case atStart=>exact⟨0,Nat.zero_le _,by omega,rfl,hid (Below.refl _ w),hid (fun j hj=>absurd hj (Nat.not_lt_zero _))⟩
 case round=>
  obtain⟨kk,hkk,hg,rfl,HB,HJ⟩:=hrel
  by_cases hlt:kk<L
  ·have hkl:kk<l.length:=by rw[HLL.out];exact hlt
   obtain⟨b,o,rfl,hc⟩:=HA.out kk hkl
   obtain⟨q0,q1,q2⟩:=hc _ HB.out
   have hcall:=HP.out wr l[kk] HB.out
   have HI:Hid (p l[kk]=true->idxI p l=kk):=hid (fun q=>HH.out kk hkl q (fun j hj=>HJ.out j hj (by omega)))
   have HN:Hid (p l[kk]=false-> ∀j (hj:j<kk+1) (hl:j<l.length),p l[j]=false):=hid (fun q j hj hl=>by
    by_cases e:j=kk
    ·subst e;exact q
    ·exact HJ.out j (by omega) hl)
   clear hc HH HM HA HP
   generalize l[kk]=x at q0 q1 q2 hcall HI HN
   obtain⟨gc,gn,gr⟩:=x
   dsimp only at q0 q1 q2
   unfold sesVal at hcall
   dsimp only at hcall
   cases hq:p ⟨gc,gn,gr⟩ with
   | true=>
    rw[hq] at hcall
    have HC:=hid hcall
    have HI:=hid (HI.out hq)
    clear hcall hq HN
    go_wp2_with (go_at_fn g;refine HC.out.mono ?_;rintro e w' ⟨rfl,hb'⟩)
    go_ret
    exact⟨by rw[HI.out];rfl,step HB.out hb'⟩
   | false=>
    rw[hq] at hcall
    have HC:=hid hcall
    have HN:=hid (HN.out hq)
    clear hcall hq HI
    go_wp2_with (go_at_fn g;refine HC.out.mono ?_;rintro e w' ⟨rfl,hb'⟩)
    go_roundg (L - (kk+1))
    case measure=>omega
    case rel=>exact⟨kk+1,by omega,by omega,by go_num,hid (step HB.out hb'),HN⟩
  ·obtain rfl:kk=L:=by omega
   have hmiss:=HM.out (fun j hj=>HJ.out j (by rw[<-HLL.out];exact hj) hj)
   have HMM:=hid hmiss
   clear hmiss HM HH HP
   go_wp2
   go_ret
   exact⟨by rw[HMM.out];rfl,HB.out⟩
theorem HasS_any (p:SesV->Bool) (g:Nat) (lb:Array Value) (eg: ∀args w,(callFunc g args).run Tryz.prog w= .ok (.enter g args) w) (v:Value) (l:List SesV) (w:World) (h:RdS w v l)
  (hp: ∀(W:World) (x:SesV),Below w.heap.size w W->Calls Tryz.prog g (#[sesVal x]++lb) W (SaysB (p x) W)):
  Calls Tryz.prog 139 #[v,.func (.func g) #[] lb] w (SaysB (l.any p) w):=by
 rw[<-idxI_any]
 have HC:=hid (IdxS_any p g lb eg v l w h hp)
 clear hp h
 generalize idxI p l=r at HC ⊢
 go_enter Tryz.func139,Tryz.ntmps139
 go_wp2_with (go_at_call 184;refine HC.out.mono ?_;rintro e w' ⟨rfl,hb'⟩)
 go_ret
 exact⟨by simp,hb'⟩
end Cm
end Go.Proofs.YthpknaieimlmnaaGreat

/- What package memo answers, as plain functions over lists of memos (a memo is an answer that was kept). No program is named here. -/
set_option linter.unusedVariables false
set_option maxRecDepth 8000
set_option linter.unusedSimpArgs false
namespace Go.Proofs.YthpknaieimlmnaaGreat
open Lib (hid)
open Go.RowKit
namespace Cm

def zeroM:AnsV:=⟨0,0,⟨0,0,0,[]⟩⟩
def isCl (c:Int) (m:AnsV):Bool:=decide (m.client=c)
def lastM:List AnsV->Int->AnsV × Bool
 | [],_=>(zeroM,false)
 | m::l,c=>if m.client=c then (m,true) else lastM l c
def freshM (l:List AnsV) (c s:Int):Int:=if (lastM l c).2=false then 1 else if (lastM l c).1.seq <s then 1 else if (lastM l c).1.seq =s then 0 else -1
def insM (a:AnsV):List AnsV->List AnsV
 | []=> [a]
 | m::l=>if m.client<a.client then m::insM a l else if m.client=a.client then a::l else a::m::l
def keepM (l:List AnsV) (a:AnsV):List AnsV:=if (mayA a && decide (freshM l a.client a.seq=1))=true then insM a l else l
structure Rm (l:List AnsV):Prop where
 may: ∀m∈l,mayA m=true
 up:l.Pairwise fun a b=>a.client<b.client
theorem Rm.nil:Rm []:=⟨(fun m h=>by cases h),List.Pairwise.nil⟩
def upM:List AnsV->Bool
 | []=>true
 | [_]=>true
 | m::n::l=>decide (m.client<n.client) && upM (n::l)
def rightM (l:List AnsV):Bool:=l.all mayA && upM l
theorem upM_iff: ∀l:List AnsV,upM l=true ↔ l.Pairwise fun a b=>a.client<b.client
 | []=>by simp [upM]
 | [_]=>by simp [upM]
 | m::n::l=>by
  rw[upM,Bool.and_eq_true,decide_eq_true_eq,upM_iff (n::l)]
  constructor
  ·rintro ⟨h1,h2⟩
   refine List.pairwise_cons.2 ⟨fun x hx=>?_,h2⟩
   rcases List.mem_cons.1 hx with rfl | q
   ·exact h1
   ·exact Int.lt_trans h1 ((List.pairwise_cons.1 h2).1 x q)
  ·intro h
   exact⟨(List.pairwise_cons.1 h).1 n List.mem_cons_self,(List.pairwise_cons.1 h).2⟩
theorem rightM_iff (l:List AnsV):rightM l=true ↔ Rm l:=by
 unfold rightM
 rw[Bool.and_eq_true,List.all_eq_true,upM_iff]
 exact⟨fun h=>⟨h.1,h.2⟩,fun h=>⟨h.may,h.up⟩⟩
theorem wrongM_may {l:List AnsV} {j:Nat} {hj:j<l.length} (h:mayA l[j]=false):rightM l=false:=by
 cases q:rightM l
 ·rfl
 ·rw[((rightM_iff l).1 q).may l[j] (List.getElem_mem hj)] at h
  cases h
theorem wrongM_up {l:List AnsV} {j:Nat} {hj:j+1<l.length} (h:l[j+1].client <=(l[j]'(by omega)).client):rightM l=false:=by
 cases q:rightM l
 ·rfl
 ·have:=List.pairwise_iff_getElem.1 ((rightM_iff l).1 q).up j (j+1) (by omega) hj (by omega)
  omega
theorem rightM_of (l:List AnsV) (h1: ∀j (hj:j<l.length),mayA l[j]=true) (h3: ∀j (hj:j+1<l.length),(l[j]'(by omega)).client <l[j+1].client):rightM l=true:=by
 refine(rightM_iff l).2 ⟨fun s hs=>?_,?_⟩
 ·obtain⟨i,hi,rfl⟩:=List.mem_iff_getElem.1 hs
  exact h1 i hi
 ·rw[List.pairwise_iff_getElem]
  intro i j hi hj hij
  obtain⟨d,rfl⟩: ∃d,j=i+1+d:=⟨j - i - 1,by omega⟩
  clear hij
  induction d with
  | zero=>exact h3 i hj
  | succ d ih=>exact Int.lt_trans (ih (by omega)) (h3 (i+1+d) (by omega))
/-! ### Last -/
theorem last_ins (a:AnsV) (c:Int): ∀l:List AnsV,lastM (insM a l) c=if a.client=c then (a,true) else lastM l c
 | []=>by simp [insM,lastM]
 | m::l=>by
  rw[insM]
  split
  ·rename_i h
   rw[lastM,last_ins a c l]
   by_cases e:m.client=c
   ·rw[if_pos e,if_neg (by omega),lastM,if_pos e]
   ·rw[if_neg e]
    by_cases e2:a.client=c
    ·rw[if_pos e2,if_pos e2]
    ·rw[if_neg e2,if_neg e2,lastM,if_neg e]
  ·split
   ·rename_i h1 h
    rw[lastM]
    by_cases e2:a.client=c
    ·rw[if_pos e2,if_pos e2]
    ·rw[if_neg e2,if_neg e2,lastM,if_neg (by omega)]
   ·rw[lastM]
theorem ins_mem (a:AnsV): ∀(l:List AnsV) (x:AnsV),x∈insM a l->x=a\/x∈l
 | [],x,h=>by simpa [insM] using h
 | m::l,x,h=>by
  rw[insM] at h
  split at h
  ·rcases List.mem_cons.1 h with q | q
   ·exact .inr (by rw[q];exact List.mem_cons_self)
   ·rcases ins_mem a l x q with q | q
    ·exact .inl q
    ·exact .inr (List.mem_cons_of_mem _ q)
  ·split at h
   ·rcases List.mem_cons.1 h with q | q
    ·exact .inl q
    ·exact .inr (List.mem_cons_of_mem _ q)
   ·rcases List.mem_cons.1 h with q | q
    ·exact .inl q
    ·exact .inr q
theorem ins_up (a:AnsV): ∀l:List AnsV,(l.Pairwise fun a b=>a.client<b.client)->(insM a l).Pairwise fun a b=>a.client<b.client
 | [],_=>by simp [insM]
 | m::l,h=>by
  obtain⟨h1,h2⟩:=List.pairwise_cons.1 h
  rw[insM]
  split
  ·rename_i hlt
   refine List.pairwise_cons.2 ⟨fun x hx=>?_,ins_up a l h2⟩
   rcases ins_mem a l x hx with rfl | q
   ·exact hlt
   ·exact h1 x q
  ·split
   ·rename_i e
    exact List.pairwise_cons.2 ⟨fun x hx=>by have:=h1 x hx;omega,h2⟩
   ·refine List.pairwise_cons.2 ⟨fun x hx=>?_,h⟩
    rcases List.mem_cons.1 hx with rfl | q
    ·omega
    ·have:=h1 x q;omega
theorem Rm.ins {l:List AnsV} (h:Rm l) (a:AnsV) (ha:mayA a=true):Rm (insM a l):=by
 refine⟨fun x hx=>?_,ins_up a l h.up⟩
 rcases ins_mem a l x hx with q | q
 ·subst q;exact ha
 ·exact h.may x q
theorem Rm.keep {l:List AnsV} (h:Rm l) (a:AnsV):Rm (keepM l a):=by
 unfold keepM
 split
 ·rename_i q
  rw[Bool.and_eq_true] at q
  exact h.ins a q.1
 ·exact h
/-! ### By places -/
theorem last_idx (l:List AnsV) (c:Int):lastM l c=if h:l.findIdx (isCl c)<l.length then (l[l.findIdx (isCl c)],true) else (zeroM,false):=by
 induction l with
 | nil=>simp [lastM]
 | cons x l ih=>
  unfold lastM
  by_cases q:x.client=c
  ·simp [List.findIdx_cons,isCl,q]
  ·rw[if_neg q,ih]
   have e:(x::l).findIdx (isCl c)=l.findIdx (isCl c)+1:=by simp [List.findIdx_cons,isCl,q]
   simp only[e,List.length_cons]
   by_cases h:l.findIdx (isCl c)<l.length
   ·simp [h]
   ·simp [h]
theorem last_hit (l:List AnsV) (c:Int) (k:Nat) (h:idxI (isCl c) l=k): ∃hk:k<l.length,l[k].client =c/\lastM l c=(l[k],true):=by
 rw[last_idx]
 unfold idxI at h
 split at h
 ·rename_i q
  have e:l.findIdx (isCl c)=k:=by omega
  subst e
  refine⟨q,?_,by rw[dif_pos q]⟩
  have:=List.findIdx_getElem (w:=q)
  simpa [isCl] using this
 ·omega
theorem last_miss (l:List AnsV) (c:Int) (h:idxI (isCl c) l= -1):lastM l c=(zeroM,false):=by
 rw[last_idx]
 unfold idxI at h
 split at h
 ·omega
 ·rename_i q
  rw[dif_neg q]
def placeM (c:Int) (l:List AnsV):Nat:=l.findIdx fun m=>decide (c<m.client)
theorem ins_set: ∀(l:List AnsV),(l.Pairwise fun a b=>a.client<b.client)-> ∀(a:AnsV) (k:Nat) (hk:k<l.length),l[k].client =a.client->insM a l=l.set k a
 | m::l,h,a,0,_,e=>by
  rw[insM,if_neg (by simpa using (show ¬m.client<a.client by have:m.client=a.client:=e;omega)),if_pos (show m.client=a.client from e)]
  rfl
 | m::l,h,a,k+1,hk,e=>by
  obtain⟨h1,h2⟩:=List.pairwise_cons.1 h
  have hk':k<l.length:=by simpa using hk
  have hlt:m.client<a.client:=by
   have e':l[k].client =a.client:=e
   rw[<-e']
   exact h1 _ (List.getElem_mem hk')
  rw[insM,if_pos hlt,ins_set l h2 a k hk' e]
  rfl
theorem ins_place (a:AnsV): ∀(l:List AnsV),(∀m∈l,m.client≠a.client)->insM a l=l.take (placeM a.client l)++a::l.drop (placeM a.client l)
 | [],_=>rfl
 | m::l,h=>by
  have ih:=ins_place a l fun x hx=>h x (List.mem_cons_of_mem _ hx)
  have hm:=h m List.mem_cons_self
  unfold placeM at ih ⊢
  rw[insM,List.findIdx_cons]
  by_cases q:m.client<a.client
  ·rw[if_pos q,decide_eq_false (by omega),ih]
   rfl
  ·rw[if_neg q,if_neg hm,decide_eq_true (by omega)]
   rfl
/-! ### The document's way -/
def goM (a:AnsV):Bool->List AnsV->List AnsV
 | put,[]=>if put then [] else [a]
 | put,m::l=>if m.client=a.client then a::goM a true l else if (!put && decide (a.client<m.client))=true then a::m::goM a true l else m::goM a put l
theorem goM_put (a:AnsV): ∀l:List AnsV,(∀m∈l,a.client<m.client)->goM a true l=l
 | [],_=>rfl
 | m::l,h=>by
  have:=h m List.mem_cons_self
  rw[goM,if_neg (by omega),if_neg (by simp),goM_put a l fun x hx=>h x (List.mem_cons_of_mem _ hx)]
theorem goM_ins (a:AnsV): ∀l:List AnsV,(l.Pairwise fun a b=>a.client<b.client)->goM a false l=insM a l
 | [],_=>rfl
 | m::l,h=>by
  obtain⟨h1,h2⟩:=List.pairwise_cons.1 h
  rw[goM,insM]
  by_cases q:m.client=a.client
  ·rw[if_pos q,if_neg (by omega),if_pos q,goM_put a l fun x hx=>by have:=h1 x hx;omega]
  ·rw[if_neg q]
   by_cases q2:a.client<m.client
   ·rw[if_pos (by simp [q2]),if_neg (by omega),if_neg q,goM_put a l fun x hx=>by have:=h1 x hx;omega]
   ·rw[if_neg (by simp [q2]),if_pos (by omega),goM_ins a l h2]
end Cm
end Go.Proofs.YthpknaieimlmnaaGreat

/- Contracts: package cmd's PutReq, GetReq. -/
set_option linter.unusedVariables false
set_option maxRecDepth 8000
set_option linter.unusedSimpArgs false
namespace Go.Proofs.YthpknaieimlmnaaGreat
open Lib (hid)
open Go.RowKit
namespace Cm



theorem free5 {w w':World} {x y z u v:Value} {t:TypeId} (h:Below (w.alloc (.cells #[x,y,z,u,v] t)).heap.size (w.alloc (.cells #[x,y,z,u,v] t)) w'):
  ∀k,w'.frozen? ⟨w.heap.size,k,none⟩=false:=by
 intro k
 have hl:w.heap.size<(w.alloc (.cells #[x,y,z,u,v] t)).heap.size :=by simp
 rw[h.frozen (p:=⟨w.heap.size,k,none⟩) hl]
 simp [go_sem]
theorem set5 {w w1:World} (h:Below w.heap.size w w1) (x y z u v:Value):Below w.heap.size w (((((w1.setCell ⟨w.heap.size,0,none⟩ x).setCell ⟨w.heap.size,1,none⟩ y).setCell ⟨w.heap.size,2,none⟩ z).setCell ⟨w.heap.size,3,none⟩ u).setCell ⟨w.heap.size,4,none⟩ v):=
 ((((h.setCell (Nat.le_refl _) _).setCell (Nat.le_refl _) _).setCell (Nat.le_refl _) _).setCell (Nat.le_refl _) _).setCell (Nat.le_refl _) _
end Cm
end Go.Proofs.YthpknaieimlmnaaGreat
