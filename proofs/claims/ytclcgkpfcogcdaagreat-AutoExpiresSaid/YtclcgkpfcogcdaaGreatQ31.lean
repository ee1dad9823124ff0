/- Texts laid together by program. -/
import Derived.Test.YtclcgkpfcogcdaaGreatQ23
import Derived.Deep.RegionHeld3
/- Contracts: package session's closures, isNumber, isRight, numOfAnother, indexOf, placeOf, Find. -/
set_option linter.unusedVariables false
set_option maxRecDepth 8000
set_option linter.unusedSimpArgs false
namespace Go.Proofs.YtclcgkpfcogcdaaGreat
open Lib (hid)
open Go.RowKit Go.Shelf
namespace Cm

theorem isNumberS_any (v:Int) (w:World):Calls Tryz.prog 133 #[.int .i64 v] w (Says (highF v 0) w):=by
  unfold highF
  by_cases h1:0<=v<;>by_cases h2:v<=2305843009213693952<;>
    (go_enter Tryz.func133,Tryz.ntmps133
     go_wp2
     go_ret
     exact⟨by simp [h1,h2]<;>omega,rfl⟩)
theorem oneS_split (gc gn gr:Int):oneS ⟨gc,gn,gr⟩=(decide (0<=gc) && (decide (gc<8) && (decide (1<=gn) && (decide (gn<=2305843009213693952) && highF gr 0)))):=by
 unfold oneS clientF
 rw[show highF gn 1=(decide (1<=gn) && decide (gn<=2305843009213693952)) from rfl]
 simp only[Bool.and_assoc]
set_option maxHeartbeats 1000000 in
theorem isRight_any (s:SesV) (w:World):Calls Tryz.prog 92 #[sesVal s] w (SaysB (oneS s) w):=by
 obtain⟨gc,gn,gr⟩:=s
 rw[oneS_split]
 unfold sesVal
 dsimp only
 have HN:=hid (fun w=>isNumberS_any gr w)
 have HB:=hid (newAlloc w (.cells #[.int .i64 gc,.int .i64 gn,.int .i64 gr] 46))
 obtain⟨y0,y1,y2⟩:=box3 (Below.refl _ (w.alloc (.cells #[.int .i64 gc,.int .i64 gn,.int .i64 gr] 46)))
 generalize highF gr 0=H at HN ⊢
 go_enter Tryz.func92,Tryz.ntmps92
 go_wp2_with (go_at_call 133;refine(HN.out _).mono ?_;rintro e w1 ⟨rfl,rfl⟩)
 all_goals (go_ret;exact⟨by simp_all<;>omega,HB.out⟩)
theorem numOf1_any (s:SesV) (w:World) (b b2:Nat) (c n:Int) (hb:w.cell? ⟨b,0,none⟩=some (.int .i64 n)) (hb2:w.cell? ⟨b2,0,none⟩=some (.int .i64 c)):
  Calls Tryz.prog 152 #[sesVal s,.pointer (some ⟨b,0,none⟩),.pointer (some ⟨b2,0,none⟩)] w (SaysB (decide (s.num=n) && !decide (s.client=c)) w):=by
 obtain⟨gc,gn,gr⟩:=s
 unfold sesVal
 dsimp only
 have HB:=hid (newAlloc w (.cells #[.int .i64 gc,.int .i64 gn,.int .i64 gr] 46))
 obtain⟨y0,y1,y2⟩:=box3 (Below.refl _ (w.alloc (.cells #[.int .i64 gc,.int .i64 gn,.int .i64 gr] 46)))
 have z1:=(HB.out.cell (lt_of_cell hb)).trans hb
 have z2:=(HB.out.cell (lt_of_cell hb2)).trans hb2
 clear hb hb2
 by_cases e1:gn=n
 ·subst e1
  have d1:(gn==gn)=true:=by simp
  by_cases e2:gc=c
  ·subst e2
   have d2:(gc != gc)=false:=by simp
   go_enter Tryz.func152,Tryz.ntmps152
   go_wp2
   go_ret
   exact⟨by simp,HB.out⟩
  ·have d2:(gc != c)=true:=by simpa using e2
   go_enter Tryz.func152,Tryz.ntmps152
   go_wp2
   go_ret
   exact⟨by simp [e2],HB.out⟩
 ·have d1:(gn==n)=false:=by simpa using e1
  go_enter Tryz.func152,Tryz.ntmps152
  go_wp2
  go_ret
  exact⟨by simp [e1],HB.out⟩
theorem index1_any (s:SesV) (w:World) (b:Nat) (c:Int) (hb:w.cell? ⟨b,0,none⟩=some (.int .i64 c)):
  Calls Tryz.prog 200 #[sesVal s,.pointer (some ⟨b,0,none⟩)] w (SaysB (decide (s.client=c)) w):=by
 obtain⟨gc,gn,gr⟩:=s
 unfold sesVal
 dsimp only
 have HB:=hid (newAlloc w (.cells #[.int .i64 gc,.int .i64 gn,.int .i64 gr] 46))
 obtain⟨y0,y1,y2⟩:=box3 (Below.refl _ (w.alloc (.cells #[.int .i64 gc,.int .i64 gn,.int .i64 gr] 46)))
 have z1:=(HB.out.cell (lt_of_cell hb)).trans hb
 clear hb
 go_enter Tryz.func200,Tryz.ntmps200
 go_wp2
 go_ret
 exact⟨by simp<;>rfl,HB.out⟩
theorem place1_any (s:SesV) (w:World) (b:Nat) (c:Int) (hb:w.cell? ⟨b,0,none⟩=some (.int .i64 c)):
  Calls Tryz.prog 217 #[sesVal s,.pointer (some ⟨b,0,none⟩)] w (SaysB (decide (c<s.client)) w):=by
 obtain⟨gc,gn,gr⟩:=s
 unfold sesVal
 dsimp only
 have HB:=hid (newAlloc w (.cells #[.int .i64 gc,.int .i64 gn,.int .i64 gr] 46))
 obtain⟨y0,y1,y2⟩:=box3 (Below.refl _ (w.alloc (.cells #[.int .i64 gc,.int .i64 gn,.int .i64 gr] 46)))
 have z1:=(HB.out.cell (lt_of_cell hb)).trans hb
 clear hb
 go_enter Tryz.func217,Tryz.ntmps217
 go_wp2
 go_ret
 exact⟨by simp<;>rfl,HB.out⟩
theorem box1_at (w:World) (v:Value) (t:TypeId) (w':World) (hb:Below (w.alloc (.cells #[v] t)).heap.size (w.alloc (.cells #[v] t)) w'):w'.cell? ⟨w.heap.size,0,none⟩=some v:=by
 have h:(w.alloc (.cells #[v] t)).cell? ⟨w.heap.size,0,none⟩=some v:=by simp
 exact(hb.cell (lt_of_cell h)).trans h
theorem enters_num: ∀args w,(callFunc 152 args).run Tryz.prog w= .ok (.enter 152 args) w:=enters_of Tryz.func152 (by kernel_rfl) rfl
theorem enters_index: ∀args w,(callFunc 200 args).run Tryz.prog w= .ok (.enter 200 args) w:=enters_of Tryz.func200 (by kernel_rfl) rfl
theorem enters_place: ∀args w,(callFunc 217 args).run Tryz.prog w= .ok (.enter 217 args) w:=enters_of Tryz.func217 (by kernel_rfl) rfl
theorem indexOf_any (v:Value) (l:List SesV) (c:Int) (w:World) (h:RdS w v l):Calls Tryz.prog 166 #[v,.int .i64 c] w (SaysI (idxI (fun s=>decide (s.client=c)) l) w):=by
 have hmf: ∀(fn:Fn) (first cap:Array Value) (w:World),(Instr.makeFunc fn first cap).run Tryz.prog w= .ok (.func fn first cap) w:=fun _ _ _ _=>rfl
 have HI:=hid (IdxS_any (fun s=>decide (s.client=c)) 200 #[.pointer (some ⟨w.heap.size,0,none⟩)] enters_index v l (w.alloc (.cells #[.int .i64 c] 3)) (h.later (newAlloc _ _))
  (fun W x hb=>index1_any x W w.heap.size c (box1_at w _ _ W hb)))
 have HB:=hid (newAlloc w (.cells #[.int .i64 c] 3))
 obtain⟨a,cap,rfl⟩:=h.form
 clear h
 generalize idxI (fun s:SesV=>decide (s.client=c)) l=r at HI ⊢
 generalize l.length=L at*
 go_enter Tryz.func166,Tryz.ntmps166
 go_wp2_with (go_at_call 158;refine HI.out.mono ?_;rintro e w' ⟨rfl,hb'⟩)
 go_ret
 exact⟨rfl,step HB.out hb'⟩
def placeI (c:Int) (l:List SesV):Nat:=l.findIdx fun s=>decide (c<s.client)
theorem placeOf_any (v:Value) (l:List SesV) (c:Int) (w:World) (h:RdS w v l):Calls Tryz.prog 198 #[v,.int .i64 c] w (SaysI (placeI c l:Int) w):=by
 have hmf: ∀(fn:Fn) (first cap:Array Value) (w:World),(Instr.makeFunc fn first cap).run Tryz.prog w= .ok (.func fn first cap) w:=fun _ _ _ _=>rfl
 have HI:=hid (IdxS_any (fun s=>decide (c<s.client)) 217 #[.pointer (some ⟨w.heap.size,0,none⟩)] enters_place v l (w.alloc (.cells #[.int .i64 c] 3)) (h.later (newAlloc _ _))
  (fun W x hb=>place1_any x W w.heap.size c (box1_at w _ _ W hb)))
 have HB:=hid (newAlloc w (.cells #[.int .i64 c] 3))
 have hm:=h.len
 obtain⟨a,cap,rfl⟩:=h.form
 clear h
 by_cases hq:placeI c l<l.length
 ·have e:idxI (fun s:SesV=>decide (c<s.client)) l=(placeI c l:Int):=by unfold idxI;exact if_pos hq
  rw[e] at HI
  clear e hq
  generalize placeI c l=r at HI ⊢
  generalize l.length=L at*
  go_enter Tryz.func198,Tryz.ntmps198
  go_wp2_with (go_at_call 158;refine HI.out.mono ?_;rintro e w' ⟨rfl,hb'⟩)
  go_ret
  exact⟨rfl,step HB.out hb'⟩
 ·have e:idxI (fun s:SesV=>decide (c<s.client)) l= -1:=by unfold idxI;exact if_neg hq
  have e2:placeI c l=l.length:=by
   have:placeI c l<=l.length:=List.findIdx_le_length
   omega
  rw[e] at HI
  rw[e2]
  clear e hq e2
  generalize l.length=L at*
  go_enter Tryz.func198,Tryz.ntmps198
  go_wp2_with (go_at_call 158;refine HI.out.mono ?_;rintro e w' ⟨rfl,hb'⟩)
  go_ret
  exact⟨rfl,step HB.out hb'⟩
theorem numOf_any (v:Value) (l:List SesV) (c n:Int) (w:World) (h:RdS w v l):Calls Tryz.prog 93 #[v,.int .i64 c,.int .i64 n] w (SaysB (takenS l c n) w):=by
 have hmf: ∀(fn:Fn) (first cap:Array Value) (w:World),(Instr.makeFunc fn first cap).run Tryz.prog w= .ok (.func fn first cap) w:=fun _ _ _ _=>rfl
 have HB:=hid (step (newAlloc w (.cells #[.int .i64 c] 3)) (newAlloc _ (.cells #[.int .i64 n] 3)))
 have HI:=hid (HasS_any (fun s=>decide (s.num=n) && !decide (s.client=c)) 152 #[.pointer (some ⟨w.heap.size+1,0,none⟩),.pointer (some ⟨w.heap.size,0,none⟩)] enters_num v l ((w.alloc (.cells #[.int .i64 c] 3)).alloc (.cells #[.int .i64 n] 3)) (h.later HB.out)
  (fun W x hb=>numOf1_any x W (w.heap.size+1) w.heap.size c n (by have:=box1_at (w.alloc (.cells #[.int .i64 c] 3)) (.int .i64 n) 3 W hb;simpa using this) (box1_at w _ _ W (step (newAlloc _ _) hb))))
 obtain⟨a,cap,rfl⟩:=h.form
 clear h
 unfold takenS
 generalize (l.any fun s=>decide (s.num=n) && !decide (s.client=c))=r at HI ⊢
 generalize l.length=L at*
 go_enter Tryz.func93,Tryz.ntmps93
 go_wp2_with (go_at_call 99;refine HI.out.mono ?_;rintro e w' ⟨rfl,hb'⟩)
 go_ret
 exact⟨rfl,step HB.out hb'⟩
end Cm
end Go.Proofs.YtclcgkpfcogcdaaGreat

/- Contracts: package session's Find, Due, Close, Renew. -/
set_option linter.unusedVariables false
set_option maxRecDepth 8000
set_option linter.unusedSimpArgs false
namespace Go.Proofs.YtclcgkpfcogcdaaGreat
open Lib (hid)
open Go.RowKit Go.Shelf
namespace Cm

def isC (c:Int) (s:SesV):Bool:=decide (s.client=c)
theorem findS_eq (l:List SesV) (c:Int):findS l c=if h:l.findIdx (isC c)<l.length then (l[l.findIdx (isC c)],true) else (zeroS,false):=by
 induction l with
 | nil=>simp [findS]
 | cons x l ih=>
  unfold findS
  by_cases q:x.client=c
  ·simp [List.findIdx_cons,isC,q]
  ·rw[if_neg q,ih]
   have e:(x::l).findIdx (isC c)=l.findIdx (isC c)+1:=by simp [List.findIdx_cons,isC,q]
   simp only[e,List.length_cons]
   by_cases h:l.findIdx (isC c)<l.length
   ·simp [h]
   ·simp [h]
theorem findS_hit (l:List SesV) (c:Int) (k:Nat) (h:idxI (isC c) l=k): ∃hk:k<l.length,l[k].client =c/\findS l c=(l[k],true):=by
 rw[findS_eq]
 unfold idxI at h
 split at h
 ·rename_i q
  have e:l.findIdx (isC c)=k:=by omega
  subst e
  refine⟨q,?_,by rw[dif_pos q]⟩
  have:=List.findIdx_getElem (w:=q)
  simpa [isC] using this
 ·omega
theorem findS_miss (l:List SesV) (c:Int) (h:idxI (isC c) l= -1):findS l c=(zeroS,false):=by
 rw[findS_eq]
 unfold idxI at h
 split at h
 ·omega
 ·rename_i q
  rw[dif_neg q]
theorem idx_cases (l:List SesV) (c:Int):idxI (isC c) l= -1\/ ∃k:Nat,idxI (isC c) l=k:=by
 unfold idxI
 split
 ·exact .inr ⟨_,rfl⟩
 ·exact .inl rfl
theorem Index_any (v:Value) (l:List SesV) (c:Int) (w:World) (h:RdS w v l):Calls Tryz.prog 166 #[v,.int .i64 c] w (SaysI (idxI (isC c) l) w):=indexOf_any v l c w h
set_option maxHeartbeats 1000000 in
theorem SesFind_any (v:Value) (l:List SesV) (c:Int) (w:World) (h:RdS w v l):Calls Tryz.prog 117 #[v,.int .i64 c] w (Found (findS l c) w):=by
 have hm:=h.len
 have hB:=newAlloc w (.cells #[.int .i64 0,.int .i64 0,.int .i64 0] 46)
 have HI:=hid (Index_any v l c _ (h.later hB))
 obtain⟨a,cap,rfl⟩:=h.form
 have HA:=hid (fun i hi=>rds_at h i hi)
 clear h
 obtain⟨c0,c1,c2⟩:=box3 (Below.refl _ (w.alloc (.cells #[.int .i64 0,.int .i64 0,.int .i64 0] 46)))
 have f0:=free3 (Below.refl _ (w.alloc (.cells #[.int .i64 0,.int .i64 0,.int .i64 0] 46)))
 rcases idx_cases l c with e | ⟨k,e⟩
 ·have HF:=hid (findS_miss l c e)
  rw[e] at HI
  clear e HA
  generalize l.length=L at*
  go_enter Tryz.func117,Tryz.ntmps117
  go_upto_region 1 with fail
  generalize w.alloc (.cells #[.int .i64 0,.int .i64 0,.int .i64 0] 46)=W at*
  have HB:=hid hB
  clear hB
  go_wp2_with fail
  refine HI.out.mono ?_
  rintro e w1 ⟨rfl,hb1⟩
  have d0:=(hb1.cell (lt_of_cell c0)).trans c0
  have d1:=(hb1.cell (lt_of_cell c1)).trans c1
  have d2:=(hb1.cell (lt_of_cell c2)).trans c2
  have f1: ∀k,w1.frozen? ⟨w.heap.size,k,none⟩=false:=fun k=>(hb1.frozen (p:=⟨w.heap.size,k,none⟩) (show w.heap.size< _ from lt_of_cell c0)).trans (f0 k)
  go_wp2
  refine bodyPost_ret (by simp [results,Tryz.results117,go_sem,d0,d1,d2,f1]<;>rfl) rfl ⟨by rw[HF.out];rfl,set3 (step HB.out hb1) _ _ _⟩
 ·obtain⟨hk, -,hf⟩:=findS_hit l c k e
  have HF:=hid hf
  rw[e] at HI
  obtain⟨b,o,rfl,hc⟩:=HA.out k hk
  have HC:=hid hc
  clear e HA hf hc
  generalize l[k]=g at HC HF
  obtain⟨gc,gn,gr⟩:=g
  dsimp only at HC
  generalize l.length=L at*
  have g1:(0:Int)<=(k:Int):=by omega
  have g2:(k:Int)<(L:Int):=by omega
  go_enter Tryz.func117,Tryz.ntmps117
  go_upto_region 1 with fail
  generalize w.alloc (.cells #[.int .i64 0,.int .i64 0,.int .i64 0] 46)=W at*
  have HB:=hid hB
  clear hB
  go_wp2_with fail
  refine HI.out.mono ?_
  rintro e w1 ⟨rfl,hb1⟩
  have d0:=(hb1.cell (lt_of_cell c0)).trans c0
  have d1:=(hb1.cell (lt_of_cell c1)).trans c1
  have d2:=(hb1.cell (lt_of_cell c2)).trans c2
  have f1: ∀k,w1.frozen? ⟨w.heap.size,k,none⟩=false:=fun k=>(hb1.frozen (p:=⟨w.heap.size,k,none⟩) (show w.heap.size< _ from lt_of_cell c0)).trans (f0 k)
  obtain⟨q0,q1,q2⟩:=HC.out _ (step HB.out hb1)
  go_wp2
  refine bodyPost_ret (by simp [results,Tryz.results117,go_sem,d0,d1,d2,f1]<;>rfl) rfl ⟨by rw[HF.out];rfl,set3 (step HB.out hb1) _ _ _⟩
/-! ### Of right lists: without one, one written over -/
theorem map_idx (l:List SesV) (hu:l.Pairwise fun a b=>a.client<b.client) (c t:Int) (k:Nat) (hk:k<l.length) (hc:l[k].client =c):l.map (renewE c t)=l.set k ⟨l[k].client,l[k].num,if l[k].ren <t then t else l[k].ren⟩:=by
 have e:l=l.take k++l[k]::l.drop (k+1):=by rw[<-List.drop_eq_getElem_cons hk,List.take_append_drop]
 have hs:l.set k ⟨l[k].client,l[k].num,if l[k].ren <t then t else l[k].ren⟩=l.take k++⟨l[k].client,l[k].num,if l[k].ren <t then t else l[k].ren⟩::l.drop (k+1):=by
  rw[List.set_eq_take_append_cons_drop,if_pos hk]
 rw[hs]
 rw[e] at hu
 obtain⟨_,u2,u3⟩:=List.pairwise_append.1 hu
 obtain⟨u4,_⟩:=List.pairwise_cons.1 u2
 conv=>lhs;rw[e]
 rw[List.map_append,List.map_cons]
 have z:renewE c t l[k]=⟨l[k].client,l[k].num,if l[k].ren <t then t else l[k].ren⟩:=by unfold renewE;rw[if_pos hc]
 rw[z]
 congr 1
 ·conv=>rhs;rw[<-List.map_id (l.take k)]
  refine List.map_congr_left fun a ha=>?_
  have:=u3 a ha l[k] (List.mem_cons_self)
  unfold renewE
  rw[if_neg (by omega)]
  rfl
 ·congr 1
  conv=>rhs;rw[<-List.map_id (l.drop (k+1))]
  refine List.map_congr_left fun a ha=>?_
  have:=u4 a ha
  unfold renewE
  rw[if_neg (by omega)]
  rfl
theorem rights_up {l:List SesV} (h:rightS l=true):l.length<=5/\l.Pairwise fun a b=>a.client<b.client:=⟨((rightS_iff l).1 h).1,((rightS_iff l).1 h).2.up⟩
end Cm
end Go.Proofs.YtclcgkpfcogcdaaGreat

/- Contracts: package session's Due, Renew, Right, Open. -/
set_option linter.unusedVariables false
set_option maxRecDepth 8000
set_option linter.unusedSimpArgs false
namespace Go.Proofs.YtclcgkpfcogcdaaGreat
open Lib (hid)
open Go.RowKit Go.Shelf
namespace Cm

set_option maxHeartbeats 4000000 in
theorem SesDue_any (v:Value) (l:List SesV) (t d:Int) (w:World) (h:RdS w v l) (h5:l.length<=1000) (hr: ∀s∈l,highF s.ren 0=true):Calls Tryz.prog 70 #[v,.int .i64 t,.int .i64 d] w (GetsN (dueS l t d) w):=by
 have hm:=h.len
 obtain⟨a,cap,rfl⟩:=h.form
 have HA:=hid (fun i hi=>rds_at h i hi)
 have HF:=hid (map_filter_take l (lateS t d))
 have HR:=hid hr
 clear h hr
 obtain⟨L,hL⟩: ∃L,l.length=L:=⟨_,rfl⟩
 have HLL:=hid hL
 rw[hL] at hm h5 ⊢
 clear hL
 obtain⟨i0,hi,hz0,hz1,hz2⟩:=info_parts infoN
 cases n1:highF t 0
 case false=>
  have e:dueS l t d= []:=by unfold dueS;simp [n1]
  rw[e]
  go_enter Tryz.func70,Tryz.ntmps70
  go_wp2_with fail
  refine(isNumberS_any _ _).mono ?_
  rw[n1]
  rintro e w1 ⟨rfl,rfl⟩
  go_wp2
  go_ret
  exact⟨_,rfl,World.ownsRow_nil _ _ _ _,Below.refl _ _⟩
 cases n2:highF d 0
 case false=>
  have e:dueS l t d= []:=by unfold dueS;simp [n2]
  rw[e]
  go_enter Tryz.func70,Tryz.ntmps70
  go_wp2_with fail
  refine(isNumberS_any _ _).mono ?_
  rw[n1]
  rintro e w1 ⟨rfl,rfl⟩
  go_wp2_with fail
  refine(isNumberS_any _ _).mono ?_
  rw[n2]
  rintro e w1 ⟨rfl,rfl⟩
  go_wp2
  go_ret
  exact⟨_,rfl,World.ownsRow_nil _ _ _ _,Below.refl _ _⟩
 have e:dueS l t d=(l.filter (lateS t d)).map (·.client):=by unfold dueS;rw[if_neg (by simp [n1,n2])];rfl
 rw[e]
 have ht:0<=t/\t<=2305843009213693952:=by unfold highF at n1;simpa using n1
 go_enter Tryz.func70,Tryz.ntmps70
 go_wp2_with fail
 refine(isNumberS_any _ _).mono ?_
 rw[n1]
 rintro e w1 ⟨rfl,rfl⟩
 go_wp2_with fail
 refine(isNumberS_any _ _).mono ?_
 rw[n2]
 rintro e w1 ⟨rfl,rfl⟩
 clear n1 n2 e
 go_wp2
 go_loopw [7,20] (fun m i wr=> ∃(k:Nat) (M:List Int),k<=L/\i= .int .i64 k/\Hid (((l.take k).filter (lateS t d)).map (·.client)=M)/\M.length<=k/\Hid (wr.ownsRow w.heap.size 3 1 m M.length (flatX cellsI M))/\Hid (Below w.heap.size w wr)) (fun _ i _=>L - (intOf i).toNat)
 case atStart=>exact⟨0,[],by omega,rfl,hid rfl,by simp,hid (World.ownsRow_nil _ _ _ _),hid (Below.refl _ _)⟩
 case round=>
  obtain⟨k,M,hk,rfl,HM,hMk,HO,HB⟩:=hrel
  by_cases hlt:k<L
  ·have hkl:k<l.length:=by rw[HLL.out];exact hlt
   obtain⟨b,o,rfl,hc⟩:=HA.out k hkl
   obtain⟨q0,q1,q2⟩:=hc _ HB.out
   have hp:=HF.out k hkl
   rw[HM.out] at hp
   have hgr:=HR.out l[k] (List.getElem_mem _)
   clear hc
   generalize l[k]=g at q0 q1 q2 hp hgr
   obtain⟨gc,gn,gr⟩:=g
   dsimp only at q0 q1 q2 hgr hp
   have hg2:0<=gr/\gr<=2305843009213693952:=by unfold highF at hgr;simpa using hgr
   have hw1:IntKind.i64.wrap (t - gr)=t - gr:=by rw[IntKind.wrap_i64];omega
   clear hgr
   have HB1:=hid (stepAlloc HB.out (.cells #[.int .i64 gc,.int .i64 gn,.int .i64 gr] 46))
   have HO1:=hid (Rw.own_alloc HO.out (.cells #[.int .i64 gc,.int .i64 gn,.int .i64 gr] 46))
   obtain⟨y0,y1,y2⟩:=box3 (Below.refl _ (wr.alloc (.cells #[.int .i64 gc,.int .i64 gn,.int .i64 gr] 46)))
   by_cases e1:d<=t - gr
   ·have d1:decide (d<=t - gr)=true:=decide_eq_true e1
    have hp2:((l.take (k+1)).filter (lateS t d)).map (·.client)=M++ [gc]:=by rw[hp];simp [lateS,e1]
    have H:=hid hp2
    clear hp hp2 e1
    go_wp2_with (first
     | (at_builtin;(refine wpList_append_one cellsI_length (by omega) rfl (.tmp 30) (.tmp 33) 58 rfl 3 i0 _ 8 Tryz.underlying58 hi hz0 hz1 hz2 rfl #[.int .i64 gc] gc rfl (cellsI_one _) M w.heap.size w.heap.size w _ rfl (show Value.slice (some ⟨wr.heap.size+1,0,none⟩) 1 1= _ by simp) HO1.out (by unfold maxLen;omega) (by omega) HB1.out.size HB1.out (Nat.le_refl _) ?_);intro v5 w5 ho5 hb5 _;have HO5:=hid ho5;have HB5:=hid hb5;clear ho5 hb5))
    go_roundw
    case rel=>exact⟨k+1,M++ [gc],by omega,by go_num,H,by simp;omega,HO5,HB5⟩
    case measure=>simp [intOf];omega
   ·have d1:decide (d<=t - gr)=false:=decide_eq_false e1
    have hp2:((l.take (k+1)).filter (lateS t d)).map (·.client)=M:=by rw[hp];simp [lateS,e1]
    have H:=hid hp2
    clear hp hp2 e1
    go_wp2
    go_roundw
    case rel=>exact⟨k+1,M,by omega,by go_num,H,by omega,HO1,HB1⟩
    case measure=>simp [intOf];omega
  ·obtain rfl:k=L:=by omega
   have hM:=HM.out
   rw[<-HLL.out,List.take_length] at hM
   have H:=hid hM
   clear hM
   go_wp2
   go_ret
   rw[H.out]
   exact⟨_,rfl,HO.out,HB.out⟩
set_option maxHeartbeats 2000000 in
theorem SesRenew_any (v:Value) (l:List SesV) (c t:Int) (w:World) (h:RdS w v l) (hr:rightS l=true):Calls Tryz.prog 118 #[v,.int .i64 c,.int .i64 t] w (GetsS (renewS l c t) w):=by
 obtain⟨h5,hup⟩:=rights_up hr
 have HI:=hid (Index_any v l c w h)
 have HK:=hid (fun w' (hb:Below w.heap.size w w')=>CloneS_any v l w' (h.later hb) (by omega))
 obtain⟨a,cap,rfl⟩:=h.form
 have HA:=hid (fun i hi=>rds_at h i hi)
 clear h hr
 cases n1:highF t 0
 case false=>
  have e:renewS l c t=([],1):=by unfold renewS;simp [n1]
  rw[e]
  clear HI HK HA
  generalize l.length=L at*
  go_enter Tryz.func118,Tryz.ntmps118
  go_wp2_with fail
  refine(isNumberS_any _ _).mono ?_
  rw[n1]
  rintro e w1 ⟨rfl,rfl⟩
  go_wp2
  go_ret2
  exact GetsS.empty rfl (Below.refl _ _)
 rcases idx_cases l c with e | ⟨k,e⟩
 ·have he:renewS l c t=([],6):=by unfold renewS;rw[if_neg (by simp [n1]),findS_miss l c e,if_pos rfl]
  rw[he]
  rw[e] at HI
  clear e he hup HK HA
  generalize l.length=L at*
  go_enter Tryz.func118,Tryz.ntmps118
  go_wp2_with fail
  refine(isNumberS_any _ _).mono ?_
  rw[n1]
  rintro e w1 ⟨rfl,rfl⟩
  go_wp2_with (go_at_call 166;refine HI.out.mono ?_;rintro e w1 ⟨rfl,hb1⟩)
  go_ret2
  exact GetsS.empty rfl hb1
 ·obtain⟨hk,hkc,hf⟩:=findS_hit l c k e
  have he:renewS l c t=(l.set k ⟨l[k].client,l[k].num,if l[k].ren <t then t else l[k].ren⟩,0):=by unfold renewS;rw[if_neg (by simp [n1]),hf,if_neg (by simp),map_idx l hup c t k hk hkc]
  rw[he]
  rw[e] at HI
  obtain⟨b,o,rfl,hc⟩:=HA.out k hk
  have HC:=hid hc
  have g1:(0:Int)<=(k:Int):=by omega
  have g2:(k:Int)<(l.length:Int):=by omega
  have g7:decide ((k:Int)<0)=false:=by simp
  have HKL:Hid (k<l.length):=hid hk
  clear e he hup hf hc HA hkc
  generalize hgk:l[k]=s at HC ⊢
  have HGK:=hid hgk
  clear hgk
  obtain⟨gc,gn,gr⟩:=s
  dsimp only at HC ⊢
  obtain⟨L,hL⟩: ∃L,l.length=L:=⟨_,rfl⟩
  have HLL:=hid hL
  rw[hL] at g2 HI HK h5 hk ⊢
  clear hL
  generalize hR:(if gr<t then t else gr)=r
  have HRR:=hid hR
  clear hR
  go_enter Tryz.func118,Tryz.ntmps118
  go_wp2_with fail
  refine(isNumberS_any _ _).mono ?_
  rw[n1]
  rintro e w1 ⟨rfl,rfl⟩
  clear n1
  go_upto_region 7 with (first
   | (go_at_call 166;refine HI.out.mono ?_;rintro e w1 ⟨rfl,hb1⟩)
   | (go_at_call 106;refine(HK.out _ hb1).mono ?_;rintro e w2 ⟨v2,rfl,ho2,hb2⟩))
  obtain⟨a2,cap2,rfl⟩:=Rw.own_form ho2
  rw[HLL.out] at ho2 ⊢
  obtain⟨g,rfl,hg⟩:=own_some ho2 (by omega)
  have ho3:=own_lowerX ho2 hb1.size
  have HB:=hid (step hb1 hb2)
  obtain⟨q0,q1,q2⟩:=HC.out _ HB.out
  obtain⟨p0,p1,p2,pf⟩:=ownS_at ho3 HLL.out k HKL.out
  have HOR:=hid (fun r=>ownS_ren ho3 k HKL.out r)
  have hgw:w.heap.size<=g:=Nat.le_trans hb1.size hg
  have hgk:l[k]'HKL.out=⟨gc,gn,gr⟩:=HGK.out
  rw[hgk] at p0
  rw[hgk] at p1
  rw[hgk] at p2
  rw[hgk] at HOR
  dsimp only at p0 p1 p2 HOR
  clear ho2 ho3 hb1 hb2 HC HK HI hg
  have hgt:(l.set k ⟨gc,gn,r⟩).length =L:=by rw[List.length_set];exact HLL.out
  have HS:=hid (HOR.out r)
  clear HOR
  have h1:=HRR.out
  by_cases e2:gr<t
  ·rw[if_pos e2] at h1
   subst h1
   have d2:decide (gr<t)=true:=decide_eq_true e2
   go_wp2
   go_ret2
   exact⟨_,rfl,by dsimp only;rw[hgt];exact HS.out,HB.out.setCell hgw _⟩
  ·rw[if_neg e2] at h1
   subst h1
   have d2:decide (gr<t)=false:=decide_eq_false e2
   go_wp2
   go_ret2
   exact⟨_,rfl,by dsimp only;rw[hgt];exact HS.out,HB.out.setCell hgw _⟩
end Cm
end Go.Proofs.YtclcgkpfcogcdaaGreat
