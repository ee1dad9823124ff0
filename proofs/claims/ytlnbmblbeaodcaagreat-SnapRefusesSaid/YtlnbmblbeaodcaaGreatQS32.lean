/- Texts laid together by program. -/
import Derived.Test.YtlnbmblbeaodcaaGreatQS31
import Derived.Deep.RegionHeld3
import Derived.Deep.DrawnRows
import Derived.Lib.AppendZeros
/- Contracts: padlockref6's Held, told in memory of the call's own; told. -/
set_option linter.unusedVariables false
set_option maxRecDepth 8000
set_option linter.unusedSimpArgs false
namespace Go.Proofs.YtlnbmblbeaodcaaGreat
open Lib (hid)
open List (getElem_toArray getElem_cons_succ getElem_cons_zero setIfInBounds_toArray set_cons_zero set_cons_succ)
open Go.RowKit
namespace Cm

def GetsHO (l:List GrantV) (w:World) (e:Ending) (w':World):Prop:= ∃a cap,e= .returned (.slice a l.length cap)/\w'.ownsRow w.heap.size 141 2 (.slice a l.length cap) l.length (flatX cellsG l)/\Below w.heap.size w w'
set_option maxHeartbeats 4000000 in
theorem Held_own (v:Value) (L:List LockC) (c:Int) (w:World) (h:RdX 4 cellsK w v L) (h5:L.length<=1000):Calls Tryz.prog 172 #[v,.int .i64 c] w (GetsHO (heldK (vals L) c) w):=by
 have hm:=h.len
 obtain⟨a,cap,rfl⟩:=h.form
 have HA:=hid (fun i hi=>rdk_at h i hi)
 obtain⟨N,hN⟩: ∃N,L.length=N:=⟨_,rfl⟩
 have HD:Hid (∀j (hj:j<L.length),heldK ((vals L).take (j+1)) c=heldK ((vals L).take j) c++if L[j].holder =c then [⟨L[j].name,L[j].token⟩] else []):=hid fun j hj=>by
  have:=heldK_drop (vals L) c j (by rw[vals_length];exact hj)
  rw[vals_get L j hj] at this
  exact this
 have HLE:Hid (∀j,j<=N->(heldK ((vals L).take j) c).length <=1000):=hid fun j hj=>by
  have:=heldK_length ((vals L).take j) c
  rw[List.length_take,vals_length] at this
  omega
 have HALL:Hid (heldK ((vals L).take N) c=heldK (vals L) c):=hid (by rw[List.take_of_length_le (by rw[vals_length];omega)])
 rw[hN] at hm h5 ⊢
 clear h
 obtain⟨i0,hi,hz0,hz1,hz2⟩:=info_parts infoG8
 go_enter Tryz.func172,Tryz.ntmps172
 go_wp2
 go_loopw [5,6] (fun m i wr=> ∃(k:Nat) (M:List GrantV),k<=N/\i= .int .i64 k/\M.length<=1000/\Hid (M=heldK ((vals L).take k) c)/\Hid (wr.ownsRow w.heap.size 141 2 m M.length (flatX cellsG M))/\Hid (Below w.heap.size w wr)) (fun _ i _=>N - (intOf i).toNat)
 case atStart=>exact⟨0,[],by omega,rfl,by simp,hid rfl,hid (World.ownsRow_nil _ _ _ _),hid (Below.refl _ _)⟩
 case round=>
  obtain⟨k,M,hk,rfl,hMl,HM,HO,HB⟩:=hrel
  by_cases hlt:k<N
  ·have hkl:k<L.length:=by omega
   obtain⟨b,o,rfl,hc⟩:=HA.out k hkl
   obtain⟨q0,q1,q2, -⟩:=hc _ HB.out
   have HC:=hid (fun W (hb:Below w.heap.size w W)=>hc W hb)
   have hd:=HD.out k hkl
   have hle:=HLE.out (k+1) (by omega)
   clear hc HA HD HLE
   generalize L[k]=x at q0 q1 q2 hd HC
   obtain⟨xn,xh,xt,xl,xa,xc⟩:=x
   dsimp only at q0 q1 q2 hd HC
   have f1:(0:Int)<=(k:Int):=by omega
   have f2:(k:Int)<(N:Int):=by omega
   by_cases e1:xh=c
   ·have d1:(xh==c)=true:=by simpa using e1
    rw[if_pos e1,<-HM.out] at hd
    rw[hd,List.length_append,List.length_singleton] at hle
    have H:=hid hd
    have HLE:=hid hle
    clear hd e1 hle
    go_upto_region 6 with fail
    go_region_held3 (fun w'=>w'.cell? ⟨b,o+k*4,none⟩=some (.string (bstr xn))/\w'.cell? ⟨b,o+k*4+2,none⟩=some (.int .i64 xt))
     (first | exact⟨q0,q2⟩ | exact⟨(HC.out _ HB5.out).1,(HC.out _ HB5.out).2.2.1⟩ | exact⟨(HC.out _ ((stepAlloc HB.out _).drew)).1,(HC.out _ ((stepAlloc HB.out _).drew)).2.2.1⟩ | exact⟨(HC.out _ HB.out.drew).1,(HC.out _ HB.out.drew).2.2.1⟩ | go_keep)
     (first
      | (refine step_append_one cellsG_length (by omega) (by rfl) _ _ _ (by rfl) 141 i0 _ 24 Tryz.underlying34 hi hz0 hz1 hz2 rfl #[.string (bstr xn),.int .i64 xt] ⟨xn,xt⟩ rfl (cellsG_one _) M w.heap.size w.heap.size w _ (by rfl) (by rfl) HO.out (by unfold maxLen;omega) (by omega) HB.out.size HB.out (Nat.le_refl _) ?_;intro v5 w5 ho5 hb5 _;have HO5:=hid ho5;have HB5:=hid hb5;clear ho5 hb5))
    all_goals
     go_wp2
     go_roundw
     case rel=>exact⟨k+1,M++ [⟨xn,xt⟩],by omega,by go_num,by simpa using HLE.out,hid H.out.symm,HO5,HB5⟩
     case measure=>simp [intOf];omega
   ·have d1:(xh==c)=false:=by simpa using e1
    rw[if_neg e1,List.append_nil,<-HM.out] at hd
    have H:=hid hd
    clear hd e1 hle
    go_wp2
    go_roundw
    case rel=>exact⟨k+1,M,by omega,by go_num,hMl,hid H.out.symm,HO,HB⟩
    case measure=>simp [intOf];omega
  ·obtain rfl:k=N:=by omega
   have hM:=HM.out
   rw[HALL.out] at hM
   have H:=hid hM
   clear hM
   obtain⟨ua,uc,rfl⟩:=Rw.own_form HO.out
   have HRR:=hid (RdH.of (RdX.own cellsG_length HO.out))
   clear HM
   go_wp2
   go_ret
   rw[<-H.out]
   exact⟨_,_,rfl,HO.out,HB.out⟩
def GetsTold (r:ReplyV) (w:World) (e:Ending) (w':World):Prop:=
 ∃a p,e= .returned (.agg #[.int .i64 r.code,.int .i64 r.session,.int .i64 r.ahead,.slice a r.held.length p])/\w'.ownsRow w.heap.size 141 2 (.slice a r.held.length p) r.held.length (flatX cellsG r.held)/\Below w.heap.size w w'
theorem own_set4z {w:World} {base n size g:Nat} {e:TypeId} {v:Value} {xs:List Value} (h:w.ownsRow base e size v n xs) (hg:g<base) (v0 v1 v2 v3:Value):
  ((((w.setCell ⟨g,0,none⟩ v0).setCell ⟨g,1,none⟩ v1).setCell ⟨g,2,none⟩ v2).setCell ⟨g,3,none⟩ v3).ownsRow base e size v n xs:=
 ownsRow_setCell_below (ownsRow_setCell_below (ownsRow_setCell_below (ownsRow_setCell_below h hg _) hg _) hg _) hg _
theorem box3s {w w':World} {x y z:Value} {t:TypeId} (h:Below (w.alloc (.cells #[x,y,z] t)).heap.size (w.alloc (.cells #[x,y,z] t)) w'):w'.cell? ⟨w.heap.size,0,none⟩=some x/\w'.cell? ⟨w.heap.size,1,none⟩=some y/\w'.cell? ⟨w.heap.size,2,none⟩=some z:=by
 have hl:w.heap.size<(w.alloc (.cells #[x,y,z] t)).heap.size :=by simp
 refine⟨?_,?_,?_⟩
 ·rw[h.cell (p:=⟨w.heap.size,0,none⟩) hl];simp [go_sem]
 ·rw[h.cell (p:=⟨w.heap.size,1,none⟩) hl];simp [go_sem]
 ·rw[h.cell (p:=⟨w.heap.size,2,none⟩) hl];simp [go_sem]
set_option maxHeartbeats 8000000 in
theorem RefTold_any (x:StC) (c code ahead:Int) (w:World) (h:RdSt w x) (h5:x.K.length<=1000):Calls Tryz.prog 126 #[stVal x,.int .i64 c,.int .i64 code,.int .i64 ahead] w (GetsTold (toldA x.v c code ahead) w):=by
 obtain⟨W1,hW1⟩: ∃W1,W1=w.alloc (.cells #[.int .i64 x.time,.int .i64 x.num,.int .i64 x.token,x.sv,x.kv,x.mv] 26):=⟨_,rfl⟩
 have hb1:Below w.heap.size w W1:=by rw[hW1];exact newAlloc _ _
 have hB1:BoxS W1 w.heap.size x:=by rw[hW1];exact BoxS.new w x _
 have hs1:W1.heap.size=w.heap.size+1:=by rw[hW1];simp
 obtain⟨W2,hW2⟩: ∃W2,W2=W1.alloc (.cells #[.int .i64 0,.int .i64 0,.int .i64 0,.slice none 0 0] 36):=⟨_,rfl⟩
 have hb2:Below W1.heap.size W1 W2:=by rw[hW2];exact newAlloc _ _
 have HZ0:Hid (∀W,Below W2.heap.size W2 W->(W.cell? ⟨w.heap.size+1,0,none⟩=some (.int .i64 0)/\W.cell? ⟨w.heap.size+1,1,none⟩=some (.int .i64 0)/\W.cell? ⟨w.heap.size+1,2,none⟩=some (.int .i64 0)/\W.cell? ⟨w.heap.size+1,3,none⟩=some (.slice none 0 0))/\ ∀k,W.frozen? ⟨w.heap.size+1,k,none⟩=false):=hid fun W hb=>by
  rw[<-hs1]
  rw[hW2] at hb
  exact⟨box4 hb,free4k hb⟩
 have HX0:=hid (hB1.later hb2)
 have HB2:=hid (step hb1 hb2)
 have hs2:W2.heap.size=w.heap.size+2:=by rw[hW2];simp [hs1]
 have KF:=hid (Find_any x.sv x.S c W2 (h.later HB2.out).s)
 have KH:=hid (fun W (hb:Below w.heap.size w W)=>Held_own x.kv x.K c W (h.later hb).k.row h5)
 have hlt1:w.heap.size+1<W2.heap.size:=by omega
 obtain⟨nb,hnb⟩: ∃nb,w.heap.size=nb:=⟨_,rfl⟩
 have HNB:=hid hnb
 rw[hnb] at HX0 HZ0 hlt1
 clear hnb h hb1 hb2 hB1 hs1 hs2
 obtain⟨xt,xn,xk,xS,sa,sc,xK,ka,kc,xM,ma,mc⟩:=x
 unfold stVal toldA StC.v
 simp only[StC.sv,StC.kv,StC.mv] at hW1 KF KH ⊢
 generalize findS xS c=fr at KF ⊢
 obtain⟨⟨fc,fn,fe⟩,fb⟩:=fr
 generalize heldK (vals xK) c=H at KH ⊢
 obtain⟨c0,c1,c2,c3,c4,c5,cf⟩:=HX0.out
 simp only[StC.sv,StC.kv,StC.mv] at c0 c1 c2 c3 c4 c5
 unfold GetsTold
 dsimp only
 go_enter Tryz.func126,Tryz.ntmps126
 go_upto_region 1 with fail
 rw[<-hW1,<-hW2]
 rw[HNB.out]
 clear hW1 hW2
 go_upto_region 2 with (go_at_call 49;refine KF.out.mono ?_;rintro e w3 ⟨rfl,hb3⟩;unfold sesVal;dsimp only;have HB3:=hid hb3;clear hb3)
 obtain⟨W4,hW4⟩: ∃W4,W4=w3.alloc (.cells #[.int .i64 fc,.int .i64 fn,.int .i64 fe] 73):=⟨_,rfl⟩
 have HB24:Hid (Below W2.heap.size W2 W4):=hid (by rw[hW4];exact stepAlloc HB3.out _)
 have HB4:=hid (step HB2.out HB24.out)
 have HY4:Hid (∀W,Below W4.heap.size W4 W->W.cell? ⟨w3.heap.size,1,none⟩=some (.int .i64 fn)):=hid (fun W hb=>by rw[hW4] at hb;exact(box3s hb).2.1)
 have hne3:nb+1≠w3.heap.size:=by have:=HB3.out.size;omega
 rw[<-hW4]
 clear hW4 c0 c1 c2 c3 c4 c5 cf
 have HZ4:=hid (fun W (hb:Below W4.heap.size W4 W)=>HZ0.out W (step HB24.out hb))
 have HQ:Hid (∀W,Below W4.heap.size W4 W->W.cell? ⟨w3.heap.size,1,none⟩=some (.int .i64 fn)/\W.cell? ⟨nb,4,none⟩=some (.slice ka xK.length kc)):=hid fun W hb=>⟨HY4.out W hb,(HX0.out.later (step HB24.out hb)).c4⟩
 have HQS:Hid (∀W v0 v1 v2 v3,Below W4.heap.size W4 W->((((W.setCell ⟨nb+1,0,none⟩ v0).setCell ⟨nb+1,1,none⟩ v1).setCell ⟨nb+1,2,none⟩ v2).setCell ⟨nb+1,3,none⟩ v3).cell? ⟨w3.heap.size,1,none⟩=some (.int .i64 fn)/\((((W.setCell ⟨nb+1,0,none⟩ v0).setCell ⟨nb+1,1,none⟩ v1).setCell ⟨nb+1,2,none⟩ v2).setCell ⟨nb+1,3,none⟩ v3).cell? ⟨nb,4,none⟩=some (.slice ka xK.length kc)):=hid fun W v0 v1 v2 v3 hb=>by
  obtain⟨q1,q2⟩:=HQ.out W hb
  have n1:w3.heap.size≠nb+1:=fun q=>hne3 q.symm
  exact⟨by simp [go_sem,n1,q1],by simp [go_sem,q2]⟩
 refine wp_region_held_drew (S:=(fun W=>W.cell? ⟨w3.heap.size,1,none⟩=some (.int .i64 fn)/\W.cell? ⟨nb,4,none⟩=some (.slice ka xK.length kc))) (by kernel_rfl) (HQ.out _ (Below.refl _ _).drew) (fun hHeld=>?_)
 refine wpAnyH_take (i:=0) (v:=?_) rfl (by kernel_rfl) (by kernel_rfl) (by kernel_rfl) (fun _ _ _ h=>h) (Or.inl ⟨by rfl,?_⟩) (by assumption) ?_
 rotate_left
 ·intro w hSw;(try dsimp only at hSw);go_simp<;>with_reducible rfl
 try simp only[Act.put,getElem_toArray,getElem_cons_zero,setIfInBounds_toArray,set_cons_zero,set_cons_succ]
 refine wpAnyH_take (i:=1) (v:=?_) rfl (by kernel_rfl) (by kernel_rfl) (by kernel_rfl) (fun _ _ _ h=>h) (Or.inl ⟨by rfl,?_⟩) (by assumption) ?_
 rotate_left
 ·intro w hSw;(try dsimp only at hSw);go_simp<;>with_reducible rfl
 try simp only[Act.put,getElem_toArray,getElem_cons_succ,getElem_cons_zero,setIfInBounds_toArray,set_cons_zero,set_cons_succ]
 refine wpAnyH_take (i:=2) (v:=?_) rfl (by kernel_rfl) (by kernel_rfl) (by kernel_rfl) (fun _ _ _ h=>h) (Or.inl ⟨by rfl,?_⟩) (by assumption) ?_
 rotate_left
 ·intro w hSw;(try dsimp only at hSw);go_simp<;>with_reducible rfl
 try simp only[Act.put,getElem_toArray,getElem_cons_succ,getElem_cons_zero,setIfInBounds_toArray,set_cons_zero,set_cons_succ]
 refine wpAnyH_take (i:=3) (v:=?_) rfl (by kernel_rfl) (by kernel_rfl) (by kernel_rfl) (fun _ _ _ h=>h) (Or.inl ⟨by rfl,?_⟩) (by assumption) ?_
 rotate_left
 ·intro w hSw;(try dsimp only at hSw);go_simp<;>with_reducible rfl
 try simp only[Act.put,getElem_toArray,getElem_cons_succ,getElem_cons_zero,setIfInBounds_toArray,set_cons_zero,set_cons_succ]
 refine wpAnyH_take (i:=4) (v:=?_) rfl (by kernel_rfl) (by kernel_rfl) (by kernel_rfl) (fun _ _ _ h=>h) (Or.inl ⟨by rfl,?_⟩) (by assumption) ?_
 rotate_left
 ·intro w hSw;(try dsimp only at hSw);go_simp<;>with_reducible rfl
 try simp only[Act.put,getElem_toArray,getElem_cons_succ,getElem_cons_zero,setIfInBounds_toArray,set_cons_zero,set_cons_succ]
 refine wpAnyH_take (i:=5) (v:=?_) rfl (by kernel_rfl) (by kernel_rfl) (by kernel_rfl) (fun _ _ _ h=>h) (Or.inl ⟨by rfl,?_⟩) (by assumption) ?_
 rotate_left
 ·intro w hSw;(try dsimp only at hSw);go_simp<;>with_reducible rfl
 try simp only[Act.put,getElem_toArray,getElem_cons_succ,getElem_cons_zero,setIfInBounds_toArray,set_cons_zero,set_cons_succ]
 refine wpAnyH_take (i:=6) (v:=?_) rfl (by kernel_rfl) (by kernel_rfl) (by kernel_rfl) (fun _ _ _ h=>h) (Or.inl ⟨by rfl,?_⟩) (by assumption) ?_
 rotate_left
 ·intro w hSw;(try dsimp only at hSw);go_simp<;>with_reducible rfl
 try simp only[Act.put,getElem_toArray,getElem_cons_succ,getElem_cons_zero,setIfInBounds_toArray,set_cons_zero,set_cons_succ]
 refine wpAnyH_ready (rs:= [7]) (by kernel_rfl) (by simp) ?_
 refine AllReadyH.cons rfl (fun K hK=>?_) AllReadyH.nil
 go_simp
 go_at_call 172
 refine(KH.out _ (step HB4.out (Below.refl _ W4).drew)).mono ?_
 rintro e w5 ⟨a5,p5,rfl,ho5,hb5⟩
 have HO5:=hid ho5
 have HB5:Hid (Below W4.heap.size W4 w5):=hid (step (Below.refl W4.heap.size W4).drew hb5)
 obtain⟨z0,z1,z2,z3⟩:=(HZ4.out _ HB5.out).1
 have zf:=(HZ4.out _ HB5.out).2
 clear ho5 hb5
 refine hK.out _ _ (HQ.out _ HB5.out) (fun hHeld=>?_)
 clear hK K
 try simp only[Act.put,getElem_toArray,getElem_cons_succ,getElem_cons_zero,setIfInBounds_toArray,set_cons_zero,set_cons_succ]
 refine wpAnyH_take (i:=8) (v:=?_) rfl (by kernel_rfl) (by kernel_rfl) (by kernel_rfl) (fun _ _ _ h=>h) (Or.inl ⟨by rfl,?_⟩) (by assumption) ?_
 rotate_left
 ·intro w hSw;(try dsimp only at hSw);go_simp<;>with_reducible rfl
 try simp only[Act.put,getElem_toArray,getElem_cons_succ,getElem_cons_zero,setIfInBounds_toArray,set_cons_zero,set_cons_succ]
 refine wpAnyH_ready (rs:= [9]) (by kernel_rfl) (by simp) ?_
 refine AllReadyH.cons rfl (fun K hK=>?_) AllReadyH.nil
 go_simp
 refine hK.out _ _ (HQS.out _ _ _ _ _ HB5.out) (fun hHeld=>?_)
 clear hK K
 try simp only[Act.put,getElem_toArray,getElem_cons_succ,getElem_cons_zero,setIfInBounds_toArray,set_cons_zero,set_cons_succ]
 refine wpAnyH_done (by kernel_rfl) ?_ _
 have hlt4:nb+1<W4.drew.heap.size:=Nat.lt_of_lt_of_le hlt1 HB24.out.size
 have HE:=hid (own_lowerX (own_set4z HO5.out hlt4 (.int .i64 code) (.int .i64 fn) (.int .i64 ahead) (.slice a5 H.length p5)) (show w.heap.size<=W4.drew.heap.size from HB4.out.size))
 have HBE:=hid (set4k (step HB4.out HB5.out) (nb+1) (by have:=HNB.out;omega) (.int .i64 code) (.int .i64 fn) (.int .i64 ahead) (.slice a5 H.length p5))
 go_wp2
 refine bodyPost_ret (by simp [results,Tryz.results126,go_sem,z0,z1,z2,z3,zf]<;>rfl) rfl ?_
 exact⟨a5,p5,rfl,HE.out,HBE.out⟩
end Cm
end Go.Proofs.YtlnbmblbeaodcaaGreat

/- Contracts: package session's closures, isNumber, isRight, numOfAnother, indexOf, placeOf, Find. -/
set_option linter.unusedVariables false
set_option maxRecDepth 8000
set_option linter.unusedSimpArgs false
namespace Go.Proofs.YtlnbmblbeaodcaaGreat
open Lib (hid)
open Go.RowKit Go.Shelf
namespace Cm

theorem isNumberS_any (v:Int) (w:World):Calls Tryz.prog 130 #[.int .i64 v] w (Says (highF v 0) w):=by
  unfold highF
  by_cases h1:0<=v<;>by_cases h2:v<=2305843009213693952<;>
    (go_enter Tryz.func130,Tryz.ntmps130
     go_wp2
     go_ret
     exact⟨by simp [h1,h2]<;>omega,rfl⟩)
theorem oneS_split (gc gn gr:Int):oneS ⟨gc,gn,gr⟩=(decide (0<=gc) && (decide (gc<8) && (decide (1<=gn) && (decide (gn<=2305843009213693952) && highF gr 0)))):=by
 unfold oneS clientF
 rw[show highF gn 1=(decide (1<=gn) && decide (gn<=2305843009213693952)) from rfl]
 simp only[Bool.and_assoc]
set_option maxHeartbeats 1000000 in
theorem isRight_any (s:SesV) (w:World):Calls Tryz.prog 88 #[sesVal s] w (SaysB (oneS s) w):=by
 obtain⟨gc,gn,gr⟩:=s
 rw[oneS_split]
 unfold sesVal
 dsimp only
 have HN:=hid (fun w=>isNumberS_any gr w)
 have HB:=hid (newAlloc w (.cells #[.int .i64 gc,.int .i64 gn,.int .i64 gr] 73))
 obtain⟨y0,y1,y2⟩:=box3 (Below.refl _ (w.alloc (.cells #[.int .i64 gc,.int .i64 gn,.int .i64 gr] 73)))
 generalize highF gr 0=H at HN ⊢
 go_enter Tryz.func88,Tryz.ntmps88
 go_wp2_with (go_at_call 130;refine(HN.out _).mono ?_;rintro e w1 ⟨rfl,rfl⟩)
 all_goals (go_ret;exact⟨by simp_all<;>omega,HB.out⟩)
theorem numOf1_any (s:SesV) (w:World) (b b2:Nat) (c n:Int) (hb:w.cell? ⟨b,0,none⟩=some (.int .i64 n)) (hb2:w.cell? ⟨b2,0,none⟩=some (.int .i64 c)):
  Calls Tryz.prog 149 #[sesVal s,.pointer (some ⟨b,0,none⟩),.pointer (some ⟨b2,0,none⟩)] w (SaysB (decide (s.num=n) && !decide (s.client=c)) w):=by
 obtain⟨gc,gn,gr⟩:=s
 unfold sesVal
 dsimp only
 have HB:=hid (newAlloc w (.cells #[.int .i64 gc,.int .i64 gn,.int .i64 gr] 73))
 obtain⟨y0,y1,y2⟩:=box3 (Below.refl _ (w.alloc (.cells #[.int .i64 gc,.int .i64 gn,.int .i64 gr] 73)))
 have z1:=(HB.out.cell (lt_of_cell hb)).trans hb
 have z2:=(HB.out.cell (lt_of_cell hb2)).trans hb2
 clear hb hb2
 by_cases e1:gn=n
 ·subst e1
  have d1:(gn==gn)=true:=by simp
  by_cases e2:gc=c
  ·subst e2
   have d2:(gc != gc)=false:=by simp
   go_enter Tryz.func149,Tryz.ntmps149
   go_wp2
   go_ret
   exact⟨by simp,HB.out⟩
  ·have d2:(gc != c)=true:=by simpa using e2
   go_enter Tryz.func149,Tryz.ntmps149
   go_wp2
   go_ret
   exact⟨by simp [e2],HB.out⟩
 ·have d1:(gn==n)=false:=by simpa using e1
  go_enter Tryz.func149,Tryz.ntmps149
  go_wp2
  go_ret
  exact⟨by simp [e1],HB.out⟩
theorem box1_at (w:World) (v:Value) (t:TypeId) (w':World) (hb:Below (w.alloc (.cells #[v] t)).heap.size (w.alloc (.cells #[v] t)) w'):w'.cell? ⟨w.heap.size,0,none⟩=some v:=by
 have h:(w.alloc (.cells #[v] t)).cell? ⟨w.heap.size,0,none⟩=some v:=by simp
 exact(hb.cell (lt_of_cell h)).trans h
theorem enters_num: ∀args w,(callFunc 149 args).run Tryz.prog w= .ok (.enter 149 args) w:=enters_of Tryz.func149 (by kernel_rfl) rfl
theorem numOf_any (v:Value) (l:List SesV) (c n:Int) (w:World) (h:RdS w v l):Calls Tryz.prog 89 #[v,.int .i64 c,.int .i64 n] w (SaysB (takenS l c n) w):=by
 have hmf: ∀(fn:Fn) (first cap:Array Value) (w:World),(Instr.makeFunc fn first cap).run Tryz.prog w= .ok (.func fn first cap) w:=fun _ _ _ _=>rfl
 have HB:=hid (step (newAlloc w (.cells #[.int .i64 c] 3)) (newAlloc _ (.cells #[.int .i64 n] 3)))
 have HI:=hid (HasS_any (fun s=>decide (s.num=n) && !decide (s.client=c)) 149 #[.pointer (some ⟨w.heap.size+1,0,none⟩),.pointer (some ⟨w.heap.size,0,none⟩)] enters_num v l ((w.alloc (.cells #[.int .i64 c] 3)).alloc (.cells #[.int .i64 n] 3)) (h.later HB.out)
  (fun W x hb=>numOf1_any x W (w.heap.size+1) w.heap.size c n (by have:=box1_at (w.alloc (.cells #[.int .i64 c] 3)) (.int .i64 n) 3 W hb;simpa using this) (box1_at w _ _ W (step (newAlloc _ _) hb))))
 obtain⟨a,cap,rfl⟩:=h.form
 clear h
 unfold takenS
 generalize (l.any fun s=>decide (s.num=n) && !decide (s.client=c))=r at HI ⊢
 generalize l.length=L at*
 go_enter Tryz.func89,Tryz.ntmps89
 go_wp2_with (go_at_call 95;refine HI.out.mono ?_;rintro e w' ⟨rfl,hb'⟩)
 go_ret
 exact⟨rfl,step HB.out hb'⟩
end Cm
end Go.Proofs.YtlnbmblbeaodcaaGreat

/- Contract: package auto's Advance (made by tools/gen_aucc.py). -/
set_option linter.unusedVariables false
set_option maxRecDepth 8000
set_option linter.unusedSimpArgs false
namespace Go.Proofs.YtlnbmblbeaodcaaGreat
open Lib (hid)
open Go.RowKit Go.Shelf
namespace Cm

theorem BoxS.put {w:World} {b:Nat} {x:StC} (h:BoxS w b x) (t n k:Int) (S:List SesV) (sa:Option Addr) (sc:Nat) (K:List LockC) (ka:Option Addr) (kc:Nat) (M:List MemC) (ma:Option Addr) (mc:Nat):
  BoxS ((((((w.setCell ⟨b,0,none⟩ (.int .i64 t)).setCell ⟨b,1,none⟩ (.int .i64 n)).setCell ⟨b,2,none⟩ (.int .i64 k)).setCell ⟨b,3,none⟩ (.slice sa S.length sc)).setCell ⟨b,4,none⟩ (.slice ka K.length kc)).setCell ⟨b,5,none⟩ (.slice ma M.length mc)) b ⟨t,n,k,S,sa,sc,K,ka,kc,M,ma,mc⟩:=
 (((((h.set0 t).set1 n).set2 k).set3 S sa sc).set4 K ka kc).set5 M ma mc
theorem up_len: ∀(l:List Int) (lo hi:Int),l.Pairwise (· < ·)->(∀x∈l,lo<=x/\x<hi)->lo<=hi->(l.length:Int)<=hi - lo
 | [],lo,hi,_,_,h=>by simp;omega
 | x::l,lo,hi,hp,hb,h=>by
  obtain⟨p1,p2⟩:=List.pairwise_cons.1 hp
  have hx:=hb x List.mem_cons_self
  have:=up_len l (x+1) hi p2 (fun y hy=>⟨by have:=p1 y hy;omega,(hb y (List.mem_cons_of_mem _ hy)).2⟩) (by omega)
  rw[List.length_cons]
  omega
theorem Rm.len8 {l:List AnsV} (h:Rm l):l.length<=8:=by
 have:=up_len (l.map (·.client)) 0 8 (List.pairwise_map.2 h.up) (fun x hx=>by
  obtain⟨m,hm,rfl⟩:=List.mem_map.1 hx
  have:=(mayA_bounds m (h.may m hm)).1
  omega) (by omega)
 rw[List.length_map] at this
 omega
theorem Rst.small {x:StC} (h:Rst x.v):Small x:=by
 obtain⟨s1,s2⟩:=good_small (L:=x.K) h.good
 have h1:=((rightS_iff x.S).1 h.ses).1
 have h3:(valsM x.M).length <=8:=Rm.len8 (l:=valsM x.M) h.memos
 rw[valsM_length] at h3
 exact⟨by omega,by omega,fun k hk=>by have:=s2 k hk;omega,by omega,fun m hm=>Rm.small (L:=x.M) h.memos m hm,h.good.rk.names,⟨h.good.pos,h.token⟩⟩
theorem Rst.tok {x:StC} (h:Rst x.v):x.token<2305843009213694000:=by
 have:x.token<=2305843009213693952:=h.token
 omega
theorem Rst.rens {x:StC} (h:Rst x.v): ∀s∈x.S,highF s.ren 0=true:=fun s hs=>by
 have h1:=(((rightS_iff x.S).1 h.ses).2.one s hs)
 unfold oneS at h1
 simp only[Bool.and_eq_true] at h1
 exact h1.2
end Cm
end Go.Proofs.YtlnbmblbeaodcaaGreat
