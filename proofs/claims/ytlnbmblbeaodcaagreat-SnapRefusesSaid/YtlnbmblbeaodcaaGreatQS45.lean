/- Texts laid together by program. -/
import Derived.Test.YtlnbmblbeaodcaaGreatQS38
import Derived.Test.YtlnbmblbeaodcaaGreatQS44
import Derived.Deep.RegionHeld3
/- Contract: padlockref6's Advance. -/
set_option linter.unusedVariables false
set_option maxRecDepth 8000
set_option linter.unusedSimpArgs false
namespace Go.Proofs.YtlnbmblbeaodcaaGreat
open Lib (hid)
open List (getElem_toArray getElem_cons_succ getElem_cons_zero setIfInBounds_toArray set_cons_zero set_cons_succ)
open Go.RowKit
namespace Cm

set_option maxHeartbeats 8000000 in
theorem RefAdv_any (x:StC) (t d:Int) (w:World) (h:RdSt w x) (hs:Small x) (hr: ∀s∈x.S,highF s.ren 0=true):Calls Tryz.prog 18 #[stVal x,.int .i64 t,.int .i64 d] w (GetsSt (advA x.v t d) x w):=by
 obtain⟨W1,hW1⟩: ∃W1,W1=w.alloc (.cells #[.int .i64 x.time,.int .i64 x.num,.int .i64 x.token,x.sv,x.kv,x.mv] 26):=⟨_,rfl⟩
 have hb1:Below w.heap.size w W1:=by rw[hW1];exact newAlloc _ _
 have hB1:BoxS W1 w.heap.size x:=by rw[hW1];exact BoxS.new w x _
 have hs1:W1.heap.size=w.heap.size+1:=by rw[hW1];simp
 obtain⟨W2,hW2⟩: ∃W2,W2=W1.alloc (.cells #[.int .i64 0,.int .i64 0,.int .i64 0,.slice none 0 0,.slice none 0 0,.slice none 0 0] 26):=⟨_,rfl⟩
 have hb2:Below W1.heap.size W1 W2:=by rw[hW2];exact newAlloc _ _
 have hZ:BoxS W2 (w.heap.size+1) zeroC10:=by rw[<-hs1,hW2];exact BoxS.new W1 zeroC10 _
 have HX0:=hid (hB1.later hb2)
 have HZ0:=hid hZ
 have HB2:=hid (step hb1 hb2)
 have hs2:W2.heap.size=w.heap.size+2:=by rw[hW2];simp [hs1]
 have HS2:=hid hs2
 have HS1:Hid (W1.heap.size=w.heap.size+1):=hid hs1
 obtain⟨T,hT⟩: ∃T,timeA x.v t=T:=⟨_,rfl⟩
 obtain⟨D,hD⟩: ∃D,leaseA d=D:=⟨_,rfl⟩
 have HADV:Hid (advA x.v t d=dropA ({ x with time:=T } :StC).v (dueS x.S T D)):=hid (by rw[<-hT,<-hD];rfl)
 have KU:=hid (fun W (hb:Below w.heap.size w W)=>Due_any x.sv x.S T D W ((h.later hb).s) hs.s hr)
 have KD:=hid (fun W u G (hb:Below w.heap.size w W) (hG:RdI W u G)=>RefDrop_any { x with time:=T } u G W ⟨(h.later hb).s,(h.later hb).k,(h.later hb).m⟩ hG ⟨hs.s,hs.k,hs.l,hs.m,hs.h,hs.n,hs.t⟩)
 obtain⟨R,hR⟩: ∃R,advA x.v t d=R:=⟨_,rfl⟩
 rw[hR] at HADV ⊢
 clear hR
 obtain⟨nb,hnb⟩: ∃nb,w.heap.size=nb:=⟨_,rfl⟩
 have HNB:=hid hnb
 have hlt:nb<W2.heap.size:=by omega
 have hlt1:nb+1<W2.heap.size:=by omega
 have hTT:T=if x.time<t/\t<=2305843009213693952 then t else x.time:=by rw[<-hT];rfl
 have hDD:D=if d<1 then 1 else d:=by rw[<-hD];rfl
 rw[hnb] at HX0 HZ0 HS1
 generalize dueS x.S T D=G at HADV KU
 clear hnb h hs hr hb1 hb2 hB1 hZ hs1 hs2 hT hD
 obtain⟨xt,xn,xk,xS,sa,sc,xK,ka,kc,xM,ma,mc⟩:=x
 unfold stVal at KD ⊢
 simp only[StC.sv,StC.kv,StC.mv] at hW1 KU KD hTT ⊢
 have hDM:(if d<1 then (1:Int) else d)=D:=hDD.symm
 have HTT:=hid hTT
 have HDM:=hid hDM
 clear hDD hTT hDM
 obtain⟨c0,c1,c2,c3,c4,c5,cf⟩:=HX0.out
 simp only[StC.sv,StC.kv,StC.mv] at c0 c1 c2 c3 c4 c5
 go_enter Tryz.func18,Tryz.ntmps18
 go_upto_region 1 with fail
 rw[<-hW1,<-hW2]
 rw[HNB.out]
 clear hW1 hW2
 by_cases e:xt<t/\t<=2305843009213693952
 case' pos=>
  have hT:=HTT.out
  rw[if_pos e] at hT
  have d1:decide (xt<t)=true:=decide_eq_true e.1
  have d2:decide (t<=2305843009213693952)=true:=decide_eq_true e.2
  have HX3:=hid (HX0.out.set0 t)
  have HZ3:=hid (HZ0.out.other (Nat.ne_of_lt (Nat.lt_succ_self nb)) 0 (.int .i64 t))
  have HB3:Hid (Below w.heap.size w (W2.setCell ⟨nb,0,none⟩ (.int .i64 t))):=hid (HB2.out.setCell (Nat.le_of_eq HNB.out) _)
  have hs3:W2.heap.size<=(W2.setCell ⟨nb,0,none⟩ (.int .i64 t)).heap.size :=by simp
  have HTE:=hid hT
  clear e hT
  go_upto_region 3 with fail
  obtain⟨W3,hW3⟩: ∃W3,W3=W2.setCell ⟨nb,0,none⟩ (.int .i64 t):=⟨_,rfl⟩
  rw[<-hW3] at HX3 HZ3 HB3 hs3 ⊢
  clear hW3
  rw[<-HTE.out] at HX3
 case' neg=>
  have hT:=HTT.out
  rw[if_neg e] at hT
  have hor:decide (xt<t)=false\/(decide (xt<t)=true/\decide (t<=2305843009213693952)=false):=by
   by_cases q:xt<t
   ·exact .inr ⟨decide_eq_true q,decide_eq_false (fun p=>e ⟨q,p⟩)⟩
   ·exact .inl (decide_eq_false q)
  have HTE:=hid hT
  clear e hT
  rcases hor with d1 | ⟨d1,d2⟩
  all_goals
   go_upto_region 3 with fail
   obtain⟨W3,hW3⟩: ∃W3,W3=W2:=⟨_,rfl⟩
   have HX3:Hid (BoxS W3 nb ⟨T,xn,xk,xS,sa,sc,xK,ka,kc,xM,ma,mc⟩):=hid (by rw[hW3,HTE.out];exact HX0.out)
   have HZ3:Hid (BoxS W3 (nb+1) zeroC10):=hid (by rw[hW3];exact HZ0.out)
   have HB3:Hid (Below w.heap.size w W3):=hid (by rw[hW3];exact HB2.out)
   have hs3:W2.heap.size<=W3.heap.size:=by rw[hW3];exact Nat.le_refl _
   rw[<-hW3]
   clear hW3
 all_goals
  clear c0 c1 c2 c3 c4 c5 cf HX0 HZ0
  obtain⟨c0,c1,c2,c3,c4,c5,cf⟩:=HX3.out
  simp only[StC.sv,StC.kv,StC.mv] at c0 c1 c2 c3 c4 c5
  have HQ:Hid (∀W,Below W3.heap.size W3 W->(W.cell? ⟨nb,0,none⟩=some (.int .i64 T)/\W.cell? ⟨nb,1,none⟩=some (.int .i64 xn)/\W.cell? ⟨nb,2,none⟩=some (.int .i64 xk))/\W.cell? ⟨nb,3,none⟩=some (.slice sa xS.length sc)/\W.cell? ⟨nb,4,none⟩=some (.slice ka xK.length kc)/\W.cell? ⟨nb,5,none⟩=some (.slice ma xM.length mc)):=hid fun W hb=>by
   have q:=HX3.out.later hb
   exact⟨⟨q.c0,q.c1,q.c2⟩,q.c3,q.c4,q.c5⟩
  have KD3:Hid (∀W u,Below W3.heap.size W3 W->RdI W u G->_):=hid (fun W u hb hG=>KD.out W u G (step HB3.out hb) hG)
  have hdm:=HDM.out
  by_cases hd1:d<1
  case' pos=>
   rw[if_pos hd1] at hdm
   have hle:d<=1:=by omega
  case' neg=>
   rw[if_neg hd1] at hdm
   have hle:1<=d:=by omega
  all_goals
   subst hdm
   refine wp_region_held_drew (S:=(fun W=>(W.cell? ⟨nb,0,none⟩=some (.int .i64 T)/\W.cell? ⟨nb,1,none⟩=some (.int .i64 xn)/\W.cell? ⟨nb,2,none⟩=some (.int .i64 xk))/\W.cell? ⟨nb,3,none⟩=some (.slice sa xS.length sc)/\W.cell? ⟨nb,4,none⟩=some (.slice ka xK.length kc)/\W.cell? ⟨nb,5,none⟩=some (.slice ma xM.length mc))) (by kernel_rfl) (HQ.out _ (Below.refl _ _).drew) (fun hHeld=>?_)
   refine wpAnyH_take (i:=0) (v:=?_) rfl (by kernel_rfl) (by kernel_rfl) (by kernel_rfl) (fun _ _ _ h=>h) (Or.inl ⟨by rfl,?_⟩) (by assumption) ?_
   rotate_left
   ·intro w hSw;(try dsimp only at hSw);go_simp<;>with_reducible rfl
   try simp only[Act.put,getElem_toArray,getElem_cons_zero,setIfInBounds_toArray,set_cons_zero,set_cons_succ]
   refine wpAnyH_take (i:=1) (v:=?_) rfl (by kernel_rfl) (by kernel_rfl) (by kernel_rfl) (fun _ _ _ h=>h) (Or.inl ⟨by rfl,?_⟩) (by assumption) ?_
   rotate_left
   ·intro w hSw;(try dsimp only at hSw);go_simp<;>with_reducible rfl
   try simp only[Act.put,getElem_toArray,getElem_cons_succ,getElem_cons_zero,setIfInBounds_toArray,set_cons_zero,set_cons_succ]
   refine wpAnyH_take (i:=2) (v:=?_) rfl (by kernel_rfl) (by kernel_rfl) (by kernel_rfl) (fun _ _ _ h=>h) (Or.inl ⟨by rfl,?_⟩) (by assumption) ?_
   rotate_left
   ·intro w hSw;(try dsimp only at hSw);go_simp<;>with_reducible rfl
   try simp only[Act.put,getElem_toArray,getElem_cons_succ,getElem_cons_zero,setIfInBounds_toArray,set_cons_zero,set_cons_succ]
   refine wpAnyH_take (i:=3) (v:=?_) rfl (by kernel_rfl) (by kernel_rfl) (by kernel_rfl) (fun _ _ _ h=>h) (Or.inl ⟨by rfl,?_⟩) (by assumption) ?_
   rotate_left
   ·intro w hSw;(try dsimp only at hSw);go_simp<;>with_reducible rfl
   try simp only[Act.put,getElem_toArray,getElem_cons_succ,getElem_cons_zero,setIfInBounds_toArray,set_cons_zero,set_cons_succ]
   refine wpAnyH_take (i:=4) (v:=?_) rfl (by kernel_rfl) (by kernel_rfl) (by kernel_rfl) (fun _ _ _ h=>h) (Or.inl ⟨by rfl,?_⟩) (by assumption) ?_
   rotate_left
   ·intro w hSw;(try dsimp only at hSw);go_simp<;>with_reducible rfl
   try simp only[Act.put,getElem_toArray,getElem_cons_succ,getElem_cons_zero,setIfInBounds_toArray,set_cons_zero,set_cons_succ]
   refine wpAnyH_take (i:=5) (v:=?_) rfl (by kernel_rfl) (by kernel_rfl) (by kernel_rfl) (fun _ _ _ h=>h) (Or.inl ⟨by rfl,?_⟩) (by assumption) ?_
   rotate_left
   ·intro w hSw;(try dsimp only at hSw);go_simp<;>with_reducible rfl
   try simp only[Act.put,getElem_toArray,getElem_cons_succ,getElem_cons_zero,setIfInBounds_toArray,set_cons_zero,set_cons_succ]
   refine wpAnyH_take (i:=6) (v:=?_) rfl (by kernel_rfl) (by kernel_rfl) (by kernel_rfl) (fun _ _ _ h=>h) (Or.inl ⟨by rfl,?_⟩) (by assumption) ?_
   rotate_left
   ·intro w hSw;(try dsimp only at hSw);go_simp<;>with_reducible rfl
   try simp only[Act.put,getElem_toArray,getElem_cons_succ,getElem_cons_zero,setIfInBounds_toArray,set_cons_zero,set_cons_succ]
   refine wpAnyH_ready (rs:= [7]) (by kernel_rfl) (by simp) ?_
   refine AllReadyH.cons rfl (fun K hK=>?_) AllReadyH.nil
   go_simp
   go_at_call 67
   refine(KU.out _ (step HB3.out (Below.refl _ W3).drew)).mono ?_
   rintro e w5 ⟨v5,rfl,ho5,hb5⟩
   have HO5:=hid ho5
   obtain⟨a5,p5,rfl⟩:=Rw.own_form ho5
   have HB5:Hid (Below W3.heap.size W3 w5):=hid (step (Below.refl W3.heap.size W3).drew hb5)
   have KD5:=hid (KD3.out w5 _ HB5.out (RdX.own cellsI_length HO5.out))
   clear ho5 hb5
   refine hK.out _ _ (HQ.out _ HB5.out) (fun hHeld=>?_)
   clear hK K
   try simp only[Act.put,getElem_toArray,getElem_cons_succ,getElem_cons_zero,setIfInBounds_toArray,set_cons_zero,set_cons_succ]
   refine wpAnyH_ready (rs:= [8]) (by kernel_rfl) (by simp) ?_
   refine AllReadyH.cons rfl (fun K hK=>?_) AllReadyH.nil
   go_simp
   go_at_call 66
   refine KD5.out.mono ?_
   rintro e w6 ⟨⟨yt,yn,yk,yS,ya,yc,yK,yka,ykc,yM,yma,ymc⟩,he,hv6,hf6,hb6⟩
   unfold stVal at he
   simp only[StC.sv,StC.kv,StC.mv] at he
   subst he
   have HV6:=hid hv6
   have HF6:=hid hf6
   have HB56:=hid hb6
   have HB6:Hid (Below W3.heap.size W3 w6):=hid (step HB5.out hb6)
   obtain⟨z0,z1,z2,z3,z4,z5,zf⟩:=HZ3.out.later HB6.out
   simp only[zeroC10,StC.sv,StC.kv,StC.mv,List.length_nil] at z0 z1 z2 z3 z4 z5
   clear hv6 hf6 hb6
   refine hK.out _ _ (HQ.out _ HB6.out) (fun hHeld=>?_)
   clear hK K
   try simp only[Act.put,getElem_toArray,getElem_cons_succ,getElem_cons_zero,setIfInBounds_toArray,set_cons_zero,set_cons_succ]
   refine wpAnyH_ready (rs:= [9]) (by kernel_rfl) (by simp) ?_
   refine AllReadyH.cons rfl (fun K hK=>?_) AllReadyH.nil
   go_simp
   refine hK.out _ _ (((HX3.out.later HB6.out).other6 (Nat.succ_ne_self nb) _ _ _ _ _ _).cells) (fun hHeld=>?_)
   clear hK K
   try simp only[Act.put,getElem_toArray,getElem_cons_succ,getElem_cons_zero,setIfInBounds_toArray,set_cons_zero,set_cons_succ]
   refine wpAnyH_done (by kernel_rfl) ?_ _
   have HE:=hid ((HF6.out.set6 (show nb+1<w5.heap.size by have:=HB5.out.size;omega) (.int .i64 yt) (.int .i64 yn) (.int .i64 yk) (.slice ya yS.length yc) (.slice yka yK.length ykc) (.slice yma yM.length ymc)))
   have HBE:=hid (below_set6 (step HB3.out HB6.out) (nb+1) (by have:=HNB.out;omega) (.int .i64 yt) (.int .i64 yn) (.int .i64 yk) (.slice ya yS.length yc) (.slice yka yK.length ykc) (.slice yma yM.length ymc))
   have hle5:w.heap.size<=w5.heap.size:=(step HB3.out HB5.out).size
   have HVE:=hid (HV6.out.trans HADV.out.symm)
   go_wp2
   refine bodyPost_ret (by simp [results,Tryz.results18,go_sem,z0,z1,z2,z3,z4,z5,zf]<;>rfl) rfl ?_
   exact⟨⟨yt,yn,yk,yS,ya,yc,yK,yka,ykc,yM,yma,ymc⟩,rfl,HVE.out,⟨(HE.out.lower hle5).s,(HE.out.lower hle5).k,(HE.out.lower hle5).m⟩,HBE.out⟩
end Cm
end Go.Proofs.YtlnbmblbeaodcaaGreat

/- What the laws of layer 10 share: both sides' Apply, Advance, Gone, Right, as the laws ask for them; the same states; awake. -/
set_option linter.unusedVariables false
set_option maxRecDepth 8000
set_option linter.unusedSimpArgs false
namespace Go.Proofs.YtlnbmblbeaodcaaGreat
open Lib (hid)
open Go.RowKit Go.Shelf
namespace Cm

def ReadsSt (r:StV) (w:World) (e:Ending) (w':World):Prop:= ∃y:StC,e= .returned (stVal y)/\y.v=r/\RdSt w' y/\Below w.heap.size w w'
def ReadsAp (r:StV × ReplyV × Bool) (w:World) (e:Ending) (w':World):Prop:=
 ∃(y:StC) (a:Option Addr) (p:Nat),e= .returned (.tuple #[stVal y,.agg #[.int .i64 r.2.1.code,.int .i64 r.2.1.session,.int .i64 r.2.1.ahead,.slice a r.2.1.held.length p],.bool r.2.2])/\y.v=r.1/\RdSt w' y/\RdH w' (.slice a r.2.1.held.length p) r.2.1.held/\Below w.heap.size w w'
theorem GetsSt.rd {r:StV} {x:StC} {w:World} (h:RdSt w x) {e:Ending} {w':World} (q:GetsSt r x w e w'):ReadsSt r w e w':=by
 obtain⟨y,e1,e2,e3,e4⟩:=q
 exact⟨y,e1,e2,e3.rd (h.later e4),e4⟩
theorem GetsAp.rd {r:StV × ReplyV × Bool} {x:StC} {w:World} (h:RdSt w x) {e:Ending} {w':World} (q:GetsAp r x w e w'):ReadsAp r w e w':=by
 obtain⟨y,a,p,e1,e2,e3,e4,e5⟩:=q
 exact⟨y,a,p,e1,e2,e3.rd (h.later e5),e4,e5⟩
theorem goodT_names {L:List LockC} {t:Int} (h:Good (vals L) t): ∀x∈L,x.name.length<=maxLen:=fun x hx=>by
 have h1:=((oneK_iff _).1 (h.rk.one x.val (List.mem_map_of_mem hx))).1
 unfold nameF at h1
 rw[Bool.and_eq_true,Bool.and_eq_true,decide_eq_true_eq,decide_eq_true_eq] at h1
 have:=h1.1.2
 unfold LockC.val at this
 dsimp only at this
 unfold maxLen
 omega
theorem Rst.names {x:StC} (h:Rst x.v): ∀k∈x.K,k.name.length<=maxLen:=goodT_names (L:=x.K) h.good
theorem sameS_refl (l:List SesV):sameL l l=true:=(sameL_iff l l).2 rfl
set_option maxHeartbeats 2000000 in
theorem same_states (x y:StC) (w:World) (h:RdSt w x) (h2:RdSt w y) (e:x.v=y.v):Calls Tryz.prog 16 #[stVal x,stVal y] w (SaysB true w):=by
 have e1:x.time=y.time:=congrArg StV.time e
 have e2:x.num=y.num:=congrArg StV.num e
 have e3:x.token=y.token:=congrArg StV.token e
 have e4:x.S=y.S:=congrArg StV.ses e
 have e5:vals x.K=vals y.K:=congrArg StV.locks e
 have e6:valsM x.M=valsM y.M:=congrArg StV.memos e
 obtain⟨W1,hW1⟩: ∃W1,W1=w.alloc (.cells #[.int .i64 x.time,.int .i64 x.num,.int .i64 x.token,x.sv,x.kv,x.mv] 26):=⟨_,rfl⟩
 have hb1:Below w.heap.size w W1:=by rw[hW1];exact newAlloc _ _
 have hB1:BoxS W1 w.heap.size x:=by rw[hW1];exact BoxS.new w x _
 have hs1:W1.heap.size=w.heap.size+1:=by rw[hW1];simp
 obtain⟨W2,hW2⟩: ∃W2,W2=W1.alloc (.cells #[.int .i64 y.time,.int .i64 y.num,.int .i64 y.token,y.sv,y.kv,y.mv] 26):=⟨_,rfl⟩
 have hb2:Below W1.heap.size W1 W2:=by rw[hW2];exact newAlloc _ _
 have hY:BoxS W2 (w.heap.size+1) y:=by rw[<-hs1,hW2];exact BoxS.new W1 y _
 have HX0:=hid (hB1.later hb2)
 have HY0:=hid hY
 have HB0:=hid (step hb1 hb2)
 have KS:=hid (fun W (hb:Below w.heap.size w W)=>by
  have:=SameSes_any x.sv y.sv x.S y.S W (h.later hb).s (h2.later hb).s
  rw[e4,sameS_refl] at this
  exact this)
 have KK:=hid (fun W (hb:Below w.heap.size w W)=>by
  have:=SameLocks_any x.kv y.kv x.K y.K W (h.later hb).k (h2.later hb).k
  rw[(sameK_iff _ _).2 e5] at this
  exact this)
 have KM:=hid (fun W (hb:Below w.heap.size w W)=>by
  have:=SameMemos_any x.mv y.mv x.M y.M W (h.later hb).m (h2.later hb).m
  rw[(sameM_iff _ _).2 e6] at this
  exact this)
 obtain⟨nb,hnb⟩: ∃nb,w.heap.size=nb:=⟨_,rfl⟩
 have HNB:=hid hnb
 rw[hnb] at HX0 HY0
 clear hnb h h2 hb1 hb2 hB1 hY hs1 e e4 e5 e6
 obtain⟨xt,xn,xk,xS,sa,sc,xK,ka,kc,xM,ma,mc⟩:=x
 obtain⟨yt,yn,yk,yS,ya,yc,yK,yka,ykc,yM,yma,ymc⟩:=y
 dsimp only at e1 e2 e3
 subst e1 e2 e3
 unfold stVal
 simp only[StC.sv,StC.kv,StC.mv] at hW1 hW2 KS KK KM ⊢
 obtain⟨c0,c1,c2,c3,c4,c5,cf⟩:=HX0.out
 simp only[StC.sv,StC.kv,StC.mv] at c0 c1 c2 c3 c4 c5
 obtain⟨d0,d1,d2,d3,d4,d5,df⟩:=HY0.out
 simp only[StC.sv,StC.kv,StC.mv] at d0 d1 d2 d3 d4 d5
 have t1:(xt==xt)=true:=by simp
 have t2:(xn==xn)=true:=by simp
 have t3:(xk==xk)=true:=by simp
 go_enter Tryz.func16,Tryz.ntmps16
 go_upto_region 1 with fail
 rw[<-hW1,<-hW2]
 rw[HNB.out]
 clear hW1 hW2
 go_wp2_with (first
  | (go_at_call 61;refine(KS.out W2 HB0.out).mono ?_;rintro e w3 ⟨rfl,hb3⟩;have HB3:=hid hb3;obtain⟨a0,a1,a2,a3,a4,a5,af⟩:=HX0.out.later hb3;simp only[StC.sv,StC.kv,StC.mv] at a0 a1 a2 a3 a4 a5;obtain⟨b0,b1,b2,b3,b4,b5,bf⟩:=HY0.out.later hb3;simp only[StC.sv,StC.kv,StC.mv] at b0 b1 b2 b3 b4 b5;clear hb3)
  | (go_at_call 62;refine(KK.out w3 (step HB0.out HB3.out)).mono ?_;rintro e w4 ⟨rfl,hb4⟩;have HB4:=hid (step HB3.out hb4);obtain⟨g0,g1,g2,g3,g4,g5,gf⟩:=HX0.out.later HB4.out;simp only[StC.sv,StC.kv,StC.mv] at g0 g1 g2 g3 g4 g5;obtain⟨j0,j1,j2,j3,j4,j5,jf⟩:=HY0.out.later HB4.out;simp only[StC.sv,StC.kv,StC.mv] at j0 j1 j2 j3 j4 j5;clear hb4)
  | (go_at_call 63;refine(KM.out w4 (step HB0.out HB4.out)).mono ?_;rintro e w5 ⟨rfl,hb5⟩;have HB5:=hid (step HB4.out hb5);clear hb5))
 go_ret
 exact⟨by simp,step HB0.out HB5.out⟩
/-! ### awake -/
end Cm
end Go.Proofs.YtlnbmblbeaodcaaGreat
