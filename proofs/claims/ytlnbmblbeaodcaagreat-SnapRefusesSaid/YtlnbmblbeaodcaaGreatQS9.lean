/- Texts laid together by program. -/
import Derived.Test.YtlnbmblbeaodcaaGreatQS8
import Derived.Deep.RegionHeld3
import Derived.Deep.DrawnRows
import Derived.Shelf.Abstract
/- Contracts: padlockref6's CloseSession, Due. -/
set_option linter.unusedVariables false
set_option maxRecDepth 8000
set_option linter.unusedSimpArgs false
namespace Go.Proofs.YtlnbmblbeaodcaaGreat
open Lib (hid)
open Go.RowKit
namespace Cm

theorem infoN:(Tryz.prog.info? 3).map (fun i=>(i.zero,i.size,i.bytes))=some (some (.int .i64 0),1,8):=by kernel_rfl
theorem cellsI_one (x:Int): ∀u∈cellsI x,u.oneCell'=true:=by
 intro u hu
 unfold cellsI at hu
 rw[List.mem_singleton] at hu
 subst hu
 rfl
theorem filter_take_succ {α:Type} (l:List α) (p:α->Bool) (j:Nat) (h:j<l.length):(l.take (j+1)).filter p=(l.take j).filter p++if p l[j] then [l[j]] else []:=by
 rw[List.take_succ_eq_append_getElem h,List.filter_append]
 congr 1
 by_cases q:p l[j]=true
 ·simp [q]
 ·simp [q]
def keepsS (c:Int) (s:SesV):Bool:= !decide (s.client=c)
set_option maxHeartbeats 4000000 in
theorem Close_any (v:Value) (l:List SesV) (c:Int) (w:World) (h:RdS w v l) (h5:l.length<=1000):Calls Tryz.prog 132 #[v,.int .i64 c] w (GetsS (closeS l c) w):=by
 have hm:=h.len
 have CF:=hid (Find_any v l c w h)
 obtain⟨a,cap,rfl⟩:=h.form
 have HA:=hid (fun i hi=>rds_at h i hi)
 have HF:=hid (filter_take_succ l (keepsS c))
 clear h
 obtain⟨L,hL⟩: ∃L,l.length=L:=⟨_,rfl⟩
 have HLL:=hid hL
 rw[hL] at hm CF h5 ⊢
 clear hL
 obtain⟨i0,hi,hz0,hz1,hz2⟩:=info_parts infoS
 have CF2:=CF.out
 unfold Found at CF2
 cases hf:(findS l c).2
 case false=>
  have e:closeS l c=([],6):=by unfold closeS;rw[if_pos hf]
  rw[e]
  rw[hf] at CF2
  have CF2:=hid CF2
  clear hf CF
  generalize (findS l c).1=fs at CF2
  obtain⟨fc,fn,fr⟩:=fs
  unfold sesVal at CF2
  dsimp only at CF2
  go_enter Tryz.func132,Tryz.ntmps132
  go_wp2_with (go_at_call 49;refine CF2.out.mono ?_;rintro e w1 ⟨rfl,hb1⟩)
  go_ret2
  exact GetsS.empty rfl (stepAlloc hb1 _)
 have e:closeS l c=(l.filter (keepsS c),0):=by unfold closeS;rw[if_neg (by simp [hf])];rfl
 rw[e]
 rw[hf] at CF2
 have CF2:=hid CF2
 clear hf CF e
 generalize (findS l c).1=fs at CF2
 obtain⟨fc,fn,fr⟩:=fs
 unfold sesVal at CF2
 dsimp only at CF2
 go_enter Tryz.func132,Tryz.ntmps132
 go_wp2_with (go_at_call 49;refine CF2.out.mono ?_;rintro e w1 ⟨rfl,hb1⟩)
 have HW:=hid (stepAlloc hb1 (.cells #[.int .i64 fc,.int .i64 fn,.int .i64 fr] 73))
 clear hb1 CF2
 go_loopw [8,9] (fun m i wr=> ∃(k:Nat) (M:List SesV),k<=L/\i= .int .i64 k/\Hid ((l.take k).filter (keepsS c)=M)/\M.length<=k/\Hid (wr.ownsRow w.heap.size 73 3 m M.length (flatX cellsS M))/\Hid (Below w.heap.size w wr)) (fun _ i _=>L - (intOf i).toNat)
 case atStart=>exact⟨0,[],by omega,rfl,hid rfl,by simp,hid (World.ownsRow_nil _ _ _ _),HW⟩
 case round=>
  obtain⟨k,M,hk,rfl,HM,hMk,HO,HB⟩:=hrel
  by_cases hlt:k<L
  ·have hkl:k<l.length:=by rw[HLL.out];exact hlt
   obtain⟨b,o,rfl,hc⟩:=HA.out k hkl
   obtain⟨q0,q1,q2⟩:=hc _ HB.out
   have hp:=HF.out k hkl
   rw[HM.out] at hp
   clear hc
   generalize l[k]=g at q0 q1 q2 hp
   obtain⟨gc,gn,gr⟩:=g
   dsimp only at q0 q1 q2
   by_cases e1:gc=c
   ·have d1:(gc != c)=false:=by simp [e1]
    have hp2:(l.take (k+1)).filter (keepsS c)=M:=by rw[hp];simp [keepsS,e1]
    have H:=hid hp2
    clear hp hp2 e1
    go_wp2
    go_roundw
    case rel=>exact⟨k+1,M,by omega,by go_num,H,by omega,HO,HB⟩
    case measure=>simp [intOf];omega
   ·have d1:(gc != c)=true:=by simpa using e1
    have hp2:(l.take (k+1)).filter (keepsS c)=M++ [⟨gc,gn,gr⟩]:=by rw[hp];simp [keepsS,e1]
    have H:=hid hp2
    clear hp hp2 e1
    go_wp2_with (first
     | (at_builtin;refine wpList_append_one cellsS_length (by omega) rfl (.tmp 31) (.tmp 36) 22 rfl 73 i0 _ 24 Tryz.underlying22 hi hz0 hz1 hz2 rfl #[.int .i64 gc,.int .i64 gn,.int .i64 gr] ⟨gc,gn,gr⟩ rfl (cellsS_one _) M w.heap.size w.heap.size w _ rfl rfl HO.out (by unfold maxLen;omega) (by omega) HB.out.size HB.out (Nat.le_refl _) ?_;intro v5 w5 ho5 hb5 _;have HO5:=hid ho5;have HB5:=hid hb5;clear ho5 hb5))
    go_roundw
    case rel=>exact⟨k+1,M++ [⟨gc,gn,gr⟩],by omega,by go_num,H,by simp;omega,HO5,HB5⟩
    case measure=>simp [intOf];omega
  ·obtain rfl:k=L:=by omega
   have hM:=HM.out
   rw[<-HLL.out,List.take_length] at hM
   have H:=hid hM
   clear hM
   go_wp2
   go_ret2
   rw[H.out]
   exact⟨_,rfl,HO.out,HB.out⟩
def GetsN (r:List Int) (w:World) (e:Ending) (w':World):Prop:=
 ∃v,e= .returned v/\w'.ownsRow w.heap.size 3 1 v r.length (flatX cellsI r)/\Below w.heap.size w w'
theorem map_filter_take (l:List SesV) (p:SesV->Bool) (j:Nat) (h:j<l.length):((l.take (j+1)).filter p).map (·.client)=((l.take j).filter p).map (·.client)++if p l[j] then [l[j].client] else []:=by
 rw[filter_take_succ l p j h,List.map_append]
 congr 1
 by_cases q:p l[j]=true<;>simp [q]
def lateS (t d:Int) (s:SesV):Bool:=decide (d<=t - s.ren)
set_option maxHeartbeats 4000000 in
theorem Due_any (v:Value) (l:List SesV) (t d:Int) (w:World) (h:RdS w v l) (h5:l.length<=1000) (hr: ∀s∈l,highF s.ren 0=true):Calls Tryz.prog 67 #[v,.int .i64 t,.int .i64 d] w (GetsN (dueS l t d) w):=by
 have hm:=h.len
 obtain⟨a,cap,rfl⟩:=h.form
 have HA:=hid (fun i hi=>rds_at h i hi)
 have HF:=hid (map_filter_take l (lateS t d))
 have HR:=hid hr
 clear h hr
 obtain⟨L,hL⟩: ∃L,l.length=L:=⟨_,rfl⟩
 have HLL:=hid hL
 rw[hL] at hm h5 ⊢
 clear hL
 obtain⟨i0,hi,hz0,hz1,hz2⟩:=info_parts infoN
 cases n1:highF t 0
 case false=>
  have e:dueS l t d= []:=by unfold dueS;simp [n1]
  rw[e]
  go_enter Tryz.func67,Tryz.ntmps67
  go_wp2_with fail
  refine(high6_any _ _ _).mono ?_
  rw[n1]
  rintro e w1 ⟨rfl,rfl⟩
  go_wp2
  go_ret
  exact⟨_,rfl,World.ownsRow_nil _ _ _ _,Below.refl _ _⟩
 cases n2:highF d 0
 case false=>
  have e:dueS l t d= []:=by unfold dueS;simp [n2]
  rw[e]
  go_enter Tryz.func67,Tryz.ntmps67
  go_wp2_with fail
  refine(high6_any _ _ _).mono ?_
  rw[n1]
  rintro e w1 ⟨rfl,rfl⟩
  go_wp2_with fail
  refine(high6_any _ _ _).mono ?_
  rw[n2]
  rintro e w1 ⟨rfl,rfl⟩
  go_wp2
  go_ret
  exact⟨_,rfl,World.ownsRow_nil _ _ _ _,Below.refl _ _⟩
 have e:dueS l t d=(l.filter (lateS t d)).map (·.client):=by unfold dueS;rw[if_neg (by simp [n1,n2])];rfl
 rw[e]
 have ht:0<=t/\t<=2305843009213693952:=by unfold highF at n1;simpa using n1
 go_enter Tryz.func67,Tryz.ntmps67
 go_wp2_with fail
 refine(high6_any _ _ _).mono ?_
 rw[n1]
 rintro e w1 ⟨rfl,rfl⟩
 go_wp2_with fail
 refine(high6_any _ _ _).mono ?_
 rw[n2]
 rintro e w1 ⟨rfl,rfl⟩
 clear n1 n2 e
 go_wp2
 go_loopw [7,8] (fun m i wr=> ∃(k:Nat) (M:List Int),k<=L/\i= .int .i64 k/\Hid (((l.take k).filter (lateS t d)).map (·.client)=M)/\M.length<=k/\Hid (wr.ownsRow w.heap.size 3 1 m M.length (flatX cellsI M))/\Hid (Below w.heap.size w wr)) (fun _ i _=>L - (intOf i).toNat)
 case atStart=>exact⟨0,[],by omega,rfl,hid rfl,by simp,hid (World.ownsRow_nil _ _ _ _),hid (Below.refl _ _)⟩
 case round=>
  obtain⟨k,M,hk,rfl,HM,hMk,HO,HB⟩:=hrel
  by_cases hlt:k<L
  ·have hkl:k<l.length:=by rw[HLL.out];exact hlt
   obtain⟨b,o,rfl,hc⟩:=HA.out k hkl
   obtain⟨q0,q1,q2⟩:=hc _ HB.out
   have hp:=HF.out k hkl
   rw[HM.out] at hp
   have hgr:=HR.out l[k] (List.getElem_mem _)
   clear hc
   generalize l[k]=g at q0 q1 q2 hp hgr
   obtain⟨gc,gn,gr⟩:=g
   dsimp only at q0 q1 q2 hgr hp
   have hg2:0<=gr/\gr<=2305843009213693952:=by unfold highF at hgr;simpa using hgr
   have hw1:IntKind.i64.wrap (t - gr)=t - gr:=by rw[IntKind.wrap_i64];omega
   clear hgr
   by_cases e1:d<=t - gr
   ·have d1:decide (d<=t - gr)=true:=decide_eq_true e1
    have hp2:((l.take (k+1)).filter (lateS t d)).map (·.client)=M++ [gc]:=by rw[hp];simp [lateS,e1]
    have H:=hid hp2
    clear hp hp2 e1
    go_wp2_with (first
     | (at_builtin;refine wpList_append_one cellsI_length (by omega) rfl (.tmp 32) (.tmp 38) 69 rfl 3 i0 _ 8 Tryz.underlying69 hi hz0 hz1 hz2 rfl #[.int .i64 gc] gc rfl (cellsI_one _) M w.heap.size w.heap.size w _ rfl rfl HO.out (by unfold maxLen;omega) (by omega) HB.out.size HB.out (Nat.le_refl _) ?_;intro v5 w5 ho5 hb5 _;have HO5:=hid ho5;have HB5:=hid hb5;clear ho5 hb5))
    go_roundw
    case rel=>exact⟨k+1,M++ [gc],by omega,by go_num,H,by simp;omega,HO5,HB5⟩
    case measure=>simp [intOf];omega
   ·have d1:decide (d<=t - gr)=false:=decide_eq_false e1
    have hp2:((l.take (k+1)).filter (lateS t d)).map (·.client)=M:=by rw[hp];simp [lateS,e1]
    have H:=hid hp2
    clear hp hp2 e1
    go_wp2
    go_roundw
    case rel=>exact⟨k+1,M,by omega,by go_num,H,by omega,HO,HB⟩
    case measure=>simp [intOf];omega
  ·obtain rfl:k=L:=by omega
   have hM:=HM.out
   rw[<-HLL.out,List.take_length] at hM
   have H:=hid hM
   clear hM
   go_wp2
   go_ret
   rw[H.out]
   exact⟨_,rfl,HO.out,HB.out⟩
end Cm
end Go.Proofs.YtlnbmblbeaodcaaGreat

/- Contracts: padlockref6's RenewSession. -/
set_option linter.unusedVariables false
set_option maxRecDepth 8000
set_option linter.unusedSimpArgs false
namespace Go.Proofs.YtlnbmblbeaodcaaGreat
open Lib (hid)
open Go.RowKit
namespace Cm

theorem ownS_at {w:World} {base g n cap:Nat} {M:List SesV} (h:w.ownsRow base 73 3 (.slice (some ⟨g,0,none⟩) n cap) n (flatX cellsS M)) (hn:M.length=n) (k:Nat) (hk:k<M.length):
  w.cell? ⟨g,k*3,none⟩=some (.int .i64 M[k].client)/\w.cell? ⟨g,k*3+1,none⟩=some (.int .i64 M[k].num)/\w.cell? ⟨g,k*3+2,none⟩=some (.int .i64 M[k].ren)/\ ∀j,w.frozen? ⟨g,j,none⟩=false:=by
 have a0:=h.cellAt (k*3+0) (by omega)
 have a1:=h.cellAt (k*3+1) (by omega)
 have a2:=h.cellAt (k*3+2) (by omega)
 rw[flatX_get cellsS_length M k hk 0 (by omega)] at a0
 rw[flatX_get cellsS_length M k hk 1 (by omega)] at a1
 rw[flatX_get cellsS_length M k hk 2 (by omega)] at a2
 exact⟨a0,a1,a2,fun j=>h.frozenAt j⟩
theorem ownS_ren {w:World} {base g n cap:Nat} {M:List SesV} (h:w.ownsRow base 73 3 (.slice (some ⟨g,0,none⟩) n cap) n (flatX cellsS M)) (k:Nat) (hk:k<M.length) (r:Int):
  (w.setCell ⟨g,k*3+2,none⟩ (.int .i64 r)).ownsRow base 73 3 (.slice (some ⟨g,0,none⟩) n cap) n (flatX cellsS (M.set k ⟨M[k].client,M[k].num,r⟩)):=by
 have h1:=(h.stored (k*3+2) (.int .i64 r)).1
 rw[flatX_set cellsS_length 2 (.int .i64 r) (by omega) ⟨M[k].client,M[k].num,r⟩ M k hk rfl] at h1
 exact h1
def renN (l:List SesV) (c t:Int) (k:Nat):List SesV:=(l.take k).map (renewE c t)++l.drop k
theorem renN_zero (l:List SesV) (c t:Int):renN l c t 0=l:=by simp [renN]
theorem renN_all (l:List SesV) (c t:Int):renN l c t l.length=l.map (renewE c t):=by simp [renN]
theorem renN_length (l:List SesV) (c t:Int) (k:Nat) (h:k<=l.length):(renN l c t k).length =l.length:=by
 unfold renN
 rw[List.length_append,List.length_map,List.length_take,List.length_drop]
 omega
theorem renN_get (l:List SesV) (c t:Int) (k:Nat) (h:k<l.length) (h':k<(renN l c t k).length):(renN l c t k)[k]=l[k]:=by
 unfold renN at h' ⊢
 rw[List.getElem_append_right (by rw[List.length_map,List.length_take];omega)]
 simp only[List.length_map,List.length_take,List.getElem_drop]
 congr 1
 omega
theorem renN_succ (l:List SesV) (c t:Int) (k:Nat) (h:k<l.length):renN l c t (k+1)=(renN l c t k).set k (renewE c t l[k]):=by
 unfold renN
 have hk:((l.take k).map (renewE c t)).length =k:=by rw[List.length_map,List.length_take];omega
 rw[List.take_succ_eq_append_getElem h,List.map_append,List.set_append_right _ _ (by omega),hk,Nat.sub_self,List.append_assoc]
 congr 1
 have e:=List.drop_eq_getElem_cons h
 rw[e]
 rfl
theorem renN_same (l:List SesV) (c t:Int) (k:Nat) (h:k<l.length):(renN l c t k).set k l[k]=renN l c t k:=by
 have h':k<(renN l c t k).length :=by rw[renN_length l c t k (by omega)];exact h
 have:=renN_get l c t k h h'
 rw[<-this]
 exact List.set_getElem_self h'
set_option maxHeartbeats 4000000 in
theorem Renew_any (v:Value) (l:List SesV) (c t:Int) (w:World) (h:RdS w v l) (h5:l.length<=1000):Calls Tryz.prog 124 #[v,.int .i64 c,.int .i64 t] w (GetsS (renewS l c t) w):=by
 have hm:=h.len
 have CF:=hid (Find_any v l c w h)
 have HR0:=hid h
 obtain⟨a,cap,rfl⟩:=h.form
 clear h
 cases n1:highF t 0
 case false=>
  have e:renewS l c t=([],1):=by unfold renewS;simp [n1]
  rw[e]
  go_enter Tryz.func124,Tryz.ntmps124
  go_wp2_with fail
  refine(high6_any _ _ _).mono ?_
  rw[n1]
  rintro e w1 ⟨rfl,rfl⟩
  go_wp2
  go_ret2
  exact GetsS.empty rfl (Below.refl _ _)
 obtain⟨L,hL⟩: ∃L,l.length=L:=⟨_,rfl⟩
 have HLL:=hid hL
 rw[hL] at hm CF h5 HR0 ⊢
 clear hL
 obtain⟨i0,hi,hz0,hz1,hz2⟩:=info_parts infoS
 have CF2:=CF.out
 unfold Found at CF2
 cases hf:(findS l c).2
 case false=>
  have e:renewS l c t=([],6):=by unfold renewS;rw[if_neg (by simp [n1]),if_pos hf]
  rw[e]
  rw[hf] at CF2
  have CF2:=hid CF2
  clear hf CF
  generalize (findS l c).1=fs at CF2
  obtain⟨fc,fn,fr⟩:=fs
  unfold sesVal at CF2
  dsimp only at CF2
  go_enter Tryz.func124,Tryz.ntmps124
  go_wp2_with fail
  refine(high6_any _ _ _).mono ?_
  rw[n1]
  rintro e w1 ⟨rfl,rfl⟩
  go_wp2_with (go_at_call 49;refine CF2.out.mono ?_;rintro e w1 ⟨rfl,hb1⟩)
  go_ret2
  exact GetsS.empty rfl (stepAlloc hb1 _)
 have e:renewS l c t=(l.map (renewE c t),0):=by unfold renewS;rw[if_neg (by simp [n1]),if_neg (by simp [hf])]
 rw[e]
 have hne:0<l.length:=by
  cases l with
  | nil=>simp [findS] at hf
  | cons x l=>simp
 obtain⟨b,o,rfl, -⟩:=rds_at HR0.out 0 hne
 have hneL:0<L:=by rw[<-HLL.out];exact hne
 rw[hf] at CF2
 have CF2:=hid CF2
 clear hf CF e
 generalize (findS l c).1=fs at CF2
 obtain⟨fc,fn,fr⟩:=fs
 unfold sesVal at CF2
 dsimp only at CF2
 have HNW:=hid (fun(w':World) (hb:Below w.heap.size w w')=>(RdX.news cellsS_length (by omega) (HR0.out.later hb)))
 have HG1:Hid (∀u∈flatX cellsS l,u.oneCell'=true):=hid fun u hu=>by
  unfold flatX at hu
  obtain⟨s,_,hs⟩:=List.mem_flatMap.1 hu
  exact cellsS_one s u hs
 have HGL:=hid (show(flatX cellsS l).length =L*3 by rw[flatX_length cellsS_length,HLL.out])
 go_enter Tryz.func124,Tryz.ntmps124
 go_wp2_with fail
 refine(high6_any _ _ _).mono ?_
 rw[n1]
 rintro e w1 ⟨rfl,rfl⟩
 clear n1
 go_wp2_with (first
  | (go_at_call 49;refine CF2.out.mono ?_;rintro e w1 ⟨rfl,hb1⟩;have HW:=hid (stepAlloc hb1 (.cells #[.int .i64 fc,.int .i64 fn,.int .i64 fr] 73));clear hb1)
  | (at_builtin;refine wpList_append_own_at ((w1.alloc (.cells #[.int .i64 fc,.int .i64 fn,.int .i64 fr] 73)).alloc (.cells #[] 73)) rfl (.tmp 23) (.tmp 24) 22 rfl (w1.heap.size+1) 73 i0 _ 3 24 Tryz.underlying22 hi hz0 hz1 hz2 rfl (by omega) (.slice (some ⟨w1.heap.size+1,0,none⟩) 0 0) 0 [] rfl (own_new _ _ _ _ _ (by simp) (Nat.le_refl _)) ⟨b,o,none⟩ L cap (flatX cellsS l) rfl HGL.out (HNW.out _ (stepAlloc HW.out _)) HG1.out (by unfold maxLen;omega) (by omega) (by simp) ?_;intro v8 w8 hown8 hgrow8 _ _;obtain⟨g,cp,rfl,hg,ho8⟩:=row_shape HLL.out hneL hown8;have HB8:=hid ((stepAlloc HW.out (.cells #[] 73)).grown hgrow8 (by have:=HW.out.size;simp at this;simp;omega) (fun k hk=>by simp [Value.ownBlock] at hk;have:=HW.out.size;simp at this;omega));have HO8:=hid (own_lowerX ho8 (show w.heap.size<=w1.heap.size+1 by have:=HW.out.size;simp at this;omega));clear hown8 hgrow8 ho8))
 have hgw:w.heap.size<=g:=by have:=HW.out.size;simp at this;omega
 clear hg HW HNW HG1 HGL CF2
 go_loopw [11] (fun i wr=> ∃k:Nat,k<=L/\i= .int .i64 k/\Hid (wr.ownsRow w.heap.size 73 3 (.slice (some ⟨g,0,none⟩) L cp) L (flatX cellsS (renN l c t k)))/\Hid (Below w.heap.size w wr)) (fun i _=>L - (intOf i).toNat)
 case atStart=>exact⟨0,by omega,rfl,by rw[renN_zero];exact HO8,HB8⟩
 case round=>
  obtain⟨k,hk,rfl,HO,HB⟩:=hrel
  by_cases hlt:k<L
  ·have hkl:k<l.length:=by rw[HLL.out];exact hlt
   have hrl:(renN l c t k).length =L:=by rw[renN_length l c t k (by omega),HLL.out]
   obtain⟨q0,q1,q2,qf⟩:=ownS_at HO.out hrl k (by omega)
   have hgk:=renN_get l c t k hkl (by omega)
   have HOR:=hid (fun r=>ownS_ren HO.out k (by omega) r)
   rw[hgk] at q0 q1 q2 HOR
   have hsu:=renN_succ l c t k hkl
   have hsm:=renN_same l c t k hkl
   clear hgk hrl
   generalize l[k]=s at q0 q1 q2 HOR hsu hsm
   obtain⟨gc,gn,gr⟩:=s
   dsimp only at q0 q1 q2 HOR
   have f1:(0:Int)<=(k:Int):=by omega
   have f2:(k:Int)<(L:Int):=by omega
   by_cases e1:gc=c
   ·have d1:(gc==c)=true:=by simpa using e1
    have hsu2:renN l c t (k+1)=(renN l c t k).set k ⟨gc,gn,if gr<t then t else gr⟩:=by rw[hsu];simp [renewE,e1]
    have H:=hid hsu2
    clear hsu hsu2 hsm e1
    by_cases e2:gr<t
    ·rw[if_pos e2] at H
     have d2:decide (gr<t)=true:=decide_eq_true e2
     have HS:=hid (HOR.out t)
     clear HOR
     go_wp2
     go_roundw
     case rel=>exact⟨k+1,by omega,by go_num,by rw[H.out];exact HS,hid (HB.out.setCell hgw _)⟩
     case measure=>simp [intOf];omega
    ·rw[if_neg e2] at H
     have d2:decide (gr<t)=false:=decide_eq_false e2
     have HS:=hid (HOR.out gr)
     clear HOR
     go_wp2
     go_roundw
     case rel=>exact⟨k+1,by omega,by go_num,by rw[H.out];exact HS,hid (HB.out.setCell hgw _)⟩
     case measure=>simp [intOf];omega
   ·have d1:(gc==c)=false:=by simpa using e1
    have hsu2:renN l c t (k+1)=renN l c t k:=by
     rw[hsu]
     have e:renewE c t ⟨gc,gn,gr⟩=⟨gc,gn,gr⟩:=by simp [renewE,e1]
     rw[e]
     exact hsm
    have H:=hid hsu2
    clear hsu hsu2 hsm e1 HOR
    go_wp2
    go_roundw
    case rel=>exact⟨k+1,by omega,by go_num,by rw[H.out];exact HO,HB⟩
    case measure=>simp [intOf];omega
  ·obtain rfl:k=L:=by omega
   have ho:=HO.out
   rw[<-HLL.out,renN_all,HLL.out] at ho
   have HO:=hid ho
   clear ho
   go_wp2
   go_ret2
   refine⟨_,rfl,?_,HB.out⟩
   show World.ownsRow _ _ _ _ _ (List.length (l.map (renewE c t))) _
   rw[List.length_map,HLL.out]
   exact HO.out
end Cm
end Go.Proofs.YtlnbmblbeaodcaaGreat

/- The place of the first that meets a test; a number told. No program is named here. -/
set_option linter.unusedVariables false
set_option maxRecDepth 8000
set_option linter.unusedSimpArgs false
namespace Go.Proofs.YtlnbmblbeaodcaaGreat
open Lib (hid)
open Go.RowKit
namespace Cm

def idxI {α:Type} (p:α->Bool) (l:List α):Int:=if l.findIdx p<l.length then (l.findIdx p:Int) else -1
theorem idxI_hit {α:Type} (p:α->Bool) (l:List α) (k:Nat) (h:k<l.length) (hp:p l[k]=true) (hb: ∀j (hj:j<k),p (l[j]'(by omega))=false):idxI p l=k:=by
 have e:l.findIdx p=k:=(List.findIdx_eq h).2 ⟨hp,hb⟩
 unfold idxI
 rw[e,if_pos h]
theorem idxI_miss {α:Type} (p:α->Bool) (l:List α) (hb: ∀j (hj:j<l.length),p l[j]=false):idxI p l= -1:=by
 have: ¬l.findIdx p<l.length:=fun q=>by
  have h1:=List.findIdx_getElem (w:=q)
  rw[hb _ q] at h1
  cases h1
 unfold idxI
 rw[if_neg this]
theorem idxI_any {α:Type} (p:α->Bool) (l:List α):decide (0<=idxI p l)=l.any p:=by
 unfold idxI
 by_cases h:l.findIdx p<l.length
 ·rw[if_pos h,decide_eq_true (by omega),Eq.comm,List.any_eq_true]
  exact⟨l[l.findIdx p],List.getElem_mem _,List.findIdx_getElem (w:=h)⟩
 ·rw[if_neg h,decide_eq_false (by omega),Eq.comm,List.any_eq_false]
  intro x hx q
  exact h (List.findIdx_lt_length_of_exists ⟨x,hx,q⟩)
def SaysI (r:Int) (w:World) (e:Ending) (w':World):Prop:=e= .returned (.int .i64 r)/\Below w.heap.size w w'
end Cm
end Go.Proofs.YtlnbmblbeaodcaaGreat

/- Contracts: slices.IndexFunc, slices.ContainsFunc over sessions, whatever the test. -/
set_option linter.unusedVariables false
set_option maxRecDepth 8000
set_option linter.unusedSimpArgs false
namespace Go.Proofs.YtlnbmblbeaodcaaGreat
open Lib (hid)
open Go.RowKit Go.Shelf
namespace Cm

set_option maxHeartbeats 2000000 in
theorem IdxS_any (p:SesV->Bool) (g:Nat) (lb:Array Value) (eg: ∀args w,(callFunc g args).run Tryz.prog w= .ok (.enter g args) w) (v:Value) (l:List SesV) (w:World) (h:RdS w v l)
  (hp: ∀(W:World) (x:SesV),Below w.heap.size w W->Calls Tryz.prog g (#[sesVal x]++lb) W (SaysB (p x) W)):
  Calls Tryz.prog 155 #[v,.func (.func g) #[] lb] w (SaysI (idxI p l) w):=by
 have hm:=h.len
 obtain⟨a,cap,rfl⟩:=h.form
 have HA:=hid (fun i hi=>rds_at h i hi)
 have HP:=hid hp
 have HH:=hid (idxI_hit p l)
 have HM:=hid (idxI_miss p l)
 clear h hp
 obtain⟨L,hL⟩: ∃L,l.length=L:=⟨_,rfl⟩
 have HLL:=hid hL
 rw[hL] at hm ⊢
 clear hL
 go_enter Tryz.func155,Tryz.ntmps155
 go_wp2
 go_loopg [5,8] L (fun gg _ s8 wr=> ∃kk:Nat,kk<=L/\L - kk<=gg/\s8= .int .i64 kk/\Hid (Below w.heap.size w wr)/\Hid (∀j (hj:j<kk) (hl:j<l.length),p l[j]=false))
 case atStart=>exact⟨0,Nat.zero_le _,by omega,rfl,hid (Below.refl _ w),hid (fun j hj=>absurd hj (Nat.not_lt_zero _))⟩
 case round=>
  obtain⟨kk,hkk,hg,rfl,HB,HJ⟩:=hrel
  by_cases hlt:kk<L
  ·have hkl:kk<l.length:=by rw[HLL.out];exact hlt
   obtain⟨b,o,rfl,hc⟩:=HA.out kk hkl
   obtain⟨q0,q1,q2⟩:=hc _ HB.out
   have hcall:=HP.out wr l[kk] HB.out
   have HI:Hid (p l[kk]=true->idxI p l=kk):=hid (fun q=>HH.out kk hkl q (fun j hj=>HJ.out j hj (by omega)))
   have HN:Hid (p l[kk]=false-> ∀j (hj:j<kk+1) (hl:j<l.length),p l[j]=false):=hid (fun q j hj hl=>by
    by_cases e:j=kk
    ·subst e;exact q
    ·exact HJ.out j (by omega) hl)
   clear hc HH HM HA HP
   generalize l[kk]=x at q0 q1 q2 hcall HI HN
   obtain⟨gc,gn,gr⟩:=x
   dsimp only at q0 q1 q2
   unfold sesVal at hcall
   dsimp only at hcall
   cases hq:p ⟨gc,gn,gr⟩ with
   | true=>
    rw[hq] at hcall
    have HC:=hid hcall
    have HI:=hid (HI.out hq)
    clear hcall hq HN
    go_wp2_with (go_at_fn g;refine HC.out.mono ?_;rintro e w' ⟨rfl,hb'⟩)
    go_ret
    exact⟨by rw[HI.out];rfl,step HB.out hb'⟩
   | false=>
    rw[hq] at hcall
    have HC:=hid hcall
    have HN:=hid (HN.out hq)
    clear hcall hq HI
    go_wp2_with (go_at_fn g;refine HC.out.mono ?_;rintro e w' ⟨rfl,hb'⟩)
    go_roundg (L - (kk+1))
    case measure=>omega
    case rel=>exact⟨kk+1,by omega,by omega,by go_num,hid (step HB.out hb'),HN⟩
  ·obtain rfl:kk=L:=by omega
   have hmiss:=HM.out (fun j hj=>HJ.out j (by rw[<-HLL.out];exact hj) hj)
   have HMM:=hid hmiss
   clear hmiss HM HH HP
   go_wp2
   go_ret
   exact⟨by rw[HMM.out];rfl,HB.out⟩
theorem HasS_any (p:SesV->Bool) (g:Nat) (lb:Array Value) (eg: ∀args w,(callFunc g args).run Tryz.prog w= .ok (.enter g args) w) (v:Value) (l:List SesV) (w:World) (h:RdS w v l)
  (hp: ∀(W:World) (x:SesV),Below w.heap.size w W->Calls Tryz.prog g (#[sesVal x]++lb) W (SaysB (p x) W)):
  Calls Tryz.prog 95 #[v,.func (.func g) #[] lb] w (SaysB (l.any p) w):=by
 rw[<-idxI_any]
 have HC:=hid (IdxS_any p g lb eg v l w h hp)
 clear hp h
 generalize idxI p l=r at HC ⊢
 go_enter Tryz.func95,Tryz.ntmps95
 go_wp2_with (go_at_call 155;refine HC.out.mono ?_;rintro e w' ⟨rfl,hb'⟩)
 go_ret
 exact⟨by simp,hb'⟩
end Cm
end Go.Proofs.YtlnbmblbeaodcaaGreat
