/- Texts laid together by program. -/
import Derived.Test.YtclcgkpfcogcdaaGreatQ42
import Derived.Test.YtclcgkpfcogcdaaGreatQ44
import Derived.Deep.RegionHeld3
/- Contract: padlockref6's Advance. -/
set_option linter.unusedVariables false
set_option maxRecDepth 8000
set_option linter.unusedSimpArgs false
namespace Go.Proofs.YtclcgkpfcogcdaaGreat
open Lib (hid)
open List (getElem_toArray getElem_cons_succ getElem_cons_zero setIfInBounds_toArray set_cons_zero set_cons_succ)
open Go.RowKit
namespace Cm

set_option maxHeartbeats 8000000 in
theorem RefAdv_any (x:StC) (t d:Int) (w:World) (h:RdSt w x) (hs:Small x) (hr: ∀s∈x.S,highF s.ren 0=true):Calls Tryz.prog 19 #[stVal x,.int .i64 t,.int .i64 d] w (GetsSt (advA x.v t d) x w):=by
 obtain⟨W1,hW1⟩: ∃W1,W1=w.alloc (.cells #[.int .i64 x.time,.int .i64 x.num,.int .i64 x.token,x.sv,x.kv,x.mv] 26):=⟨_,rfl⟩
 have hb1:Below w.heap.size w W1:=by rw[hW1];exact newAlloc _ _
 have hB1:BoxS W1 w.heap.size x:=by rw[hW1];exact BoxS.new w x _
 have hs1:W1.heap.size=w.heap.size+1:=by rw[hW1];simp
 obtain⟨W2,hW2⟩: ∃W2,W2=W1.alloc (.cells #[.int .i64 0,.int .i64 0,.int .i64 0,.slice none 0 0,.slice none 0 0,.slice none 0 0] 26):=⟨_,rfl⟩
 have hb2:Below W1.heap.size W1 W2:=by rw[hW2];exact newAlloc _ _
 have hZ:BoxS W2 (w.heap.size+1) zeroC10:=by rw[<-hs1,hW2];exact BoxS.new W1 zeroC10 _
 have HX0:=hid (hB1.later hb2)
 have HZ0:=hid hZ
 have HB2:=hid (step hb1 hb2)
 have hs2:W2.heap.size=w.heap.size+2:=by rw[hW2];simp [hs1]
 have HS2:=hid hs2
 have HS1:Hid (W1.heap.size=w.heap.size+1):=hid hs1
 obtain⟨T,hT⟩: ∃T,timeA x.v t=T:=⟨_,rfl⟩
 obtain⟨D,hD⟩: ∃D,leaseA d=D:=⟨_,rfl⟩
 have HADV:Hid (advA x.v t d=dropA ({ x with time:=T } :StC).v (dueS x.S T D)):=hid (by rw[<-hT,<-hD];rfl)
 have KU:=hid (fun W (hb:Below w.heap.size w W)=>Due_any x.sv x.S T D W ((h.later hb).s) hs.s hr)
 have KD:=hid (fun W u G (hb:Below w.heap.size w W) (hG:RdI W u G)=>RefDrop_any { x with time:=T } u G W ⟨(h.later hb).s,(h.later hb).k,(h.later hb).m⟩ hG ⟨hs.s,hs.k,hs.l,hs.m,hs.h,hs.n,hs.t⟩)
 obtain⟨R,hR⟩: ∃R,advA x.v t d=R:=⟨_,rfl⟩
 rw[hR] at HADV ⊢
 clear hR
 obtain⟨nb,hnb⟩: ∃nb,w.heap.size=nb:=⟨_,rfl⟩
 have HNB:=hid hnb
 have hlt:nb<W2.heap.size:=by omega
 have hlt1:nb+1<W2.heap.size:=by omega
 have hTT:T=if x.time<t/\t<=2305843009213693952 then t else x.time:=by rw[<-hT];rfl
 have hDD:D=if d<1 then 1 else d:=by rw[<-hD];rfl
 rw[hnb] at HX0 HZ0 HS1
 generalize dueS x.S T D=G at HADV KU
 clear hnb h hs hr hb1 hb2 hB1 hZ hs1 hs2 hT hD
 obtain⟨xt,xn,xk,xS,sa,sc,xK,ka,kc,xM,ma,mc⟩:=x
 unfold stVal at KD ⊢
 simp only[StC.sv,StC.kv,StC.mv] at hW1 KU KD hTT ⊢
 have hDM:(if d<1 then (1:Int) else d)=D:=hDD.symm
 have HTT:=hid hTT
 have HDM:=hid hDM
 clear hDD hTT hDM
 obtain⟨c0,c1,c2,c3,c4,c5,cf⟩:=HX0.out
 simp only[StC.sv,StC.kv,StC.mv] at c0 c1 c2 c3 c4 c5
 go_enter Tryz.func19,Tryz.ntmps19
 go_upto_region 1 with fail
 rw[<-hW1,<-hW2]
 rw[HNB.out]
 clear hW1 hW2
 by_cases e:xt<t/\t<=2305843009213693952
 case' pos=>
  have hT:=HTT.out
  rw[if_pos e] at hT
  have d1:decide (xt<t)=true:=decide_eq_true e.1
  have d2:decide (t<=2305843009213693952)=true:=decide_eq_true e.2
  have HX3:=hid (HX0.out.set0 t)
  have HZ3:=hid (HZ0.out.other (Nat.ne_of_lt (Nat.lt_succ_self nb)) 0 (.int .i64 t))
  have HB3:Hid (Below w.heap.size w (W2.setCell ⟨nb,0,none⟩ (.int .i64 t))):=hid (HB2.out.setCell (Nat.le_of_eq HNB.out) _)
  have hs3:W2.heap.size<=(W2.setCell ⟨nb,0,none⟩ (.int .i64 t)).heap.size :=by simp
  have HTE:=hid hT
  clear e hT
  go_upto_region 3 with fail
  obtain⟨W3,hW3⟩: ∃W3,W3=W2.setCell ⟨nb,0,none⟩ (.int .i64 t):=⟨_,rfl⟩
  rw[<-hW3] at HX3 HZ3 HB3 hs3 ⊢
  clear hW3
  rw[<-HTE.out] at HX3
 case' neg=>
  have hT:=HTT.out
  rw[if_neg e] at hT
  have hor:decide (xt<t)=false\/(decide (xt<t)=true/\decide (t<=2305843009213693952)=false):=by
   by_cases q:xt<t
   ·exact .inr ⟨decide_eq_true q,decide_eq_false (fun p=>e ⟨q,p⟩)⟩
   ·exact .inl (decide_eq_false q)
  have HTE:=hid hT
  clear e hT
  rcases hor with d1 | ⟨d1,d2⟩
  all_goals
   go_upto_region 3 with fail
   obtain⟨W3,hW3⟩: ∃W3,W3=W2:=⟨_,rfl⟩
   have HX3:Hid (BoxS W3 nb ⟨T,xn,xk,xS,sa,sc,xK,ka,kc,xM,ma,mc⟩):=hid (by rw[hW3,HTE.out];exact HX0.out)
   have HZ3:Hid (BoxS W3 (nb+1) zeroC10):=hid (by rw[hW3];exact HZ0.out)
   have HB3:Hid (Below w.heap.size w W3):=hid (by rw[hW3];exact HB2.out)
   have hs3:W2.heap.size<=W3.heap.size:=by rw[hW3];exact Nat.le_refl _
   rw[<-hW3]
   clear hW3
 all_goals
  clear c0 c1 c2 c3 c4 c5 cf HX0 HZ0
  obtain⟨c0,c1,c2,c3,c4,c5,cf⟩:=HX3.out
  simp only[StC.sv,StC.kv,StC.mv] at c0 c1 c2 c3 c4 c5
  have HQ:Hid (∀W,Below W3.heap.size W3 W->(W.cell? ⟨nb,0,none⟩=some (.int .i64 T)/\W.cell? ⟨nb,1,none⟩=some (.int .i64 xn)/\W.cell? ⟨nb,2,none⟩=some (.int .i64 xk))/\W.cell? ⟨nb,3,none⟩=some (.slice sa xS.length sc)/\W.cell? ⟨nb,4,none⟩=some (.slice ka xK.length kc)/\W.cell? ⟨nb,5,none⟩=some (.slice ma xM.length mc)):=hid fun W hb=>by
   have q:=HX3.out.later hb
   exact⟨⟨q.c0,q.c1,q.c2⟩,q.c3,q.c4,q.c5⟩
  have KD3:Hid (∀W u,Below W3.heap.size W3 W->RdI W u G->_):=hid (fun W u hb hG=>KD.out W u G (step HB3.out hb) hG)
  have hdm:=HDM.out
  by_cases hd1:d<1
  case' pos=>
   rw[if_pos hd1] at hdm
   have hle:d<=1:=by omega
  case' neg=>
   rw[if_neg hd1] at hdm
   have hle:1<=d:=by omega
  all_goals
   subst hdm
   refine wp_region_held_drew (S:=(fun W=>(W.cell? ⟨nb,0,none⟩=some (.int .i64 T)/\W.cell? ⟨nb,1,none⟩=some (.int .i64 xn)/\W.cell? ⟨nb,2,none⟩=some (.int .i64 xk))/\W.cell? ⟨nb,3,none⟩=some (.slice sa xS.length sc)/\W.cell? ⟨nb,4,none⟩=some (.slice ka xK.length kc)/\W.cell? ⟨nb,5,none⟩=some (.slice ma xM.length mc))) (by kernel_rfl) (HQ.out _ (Below.refl _ _).drew) (fun hHeld=>?_)
   refine wpAnyH_take (i:=0) (v:=?_) rfl (by kernel_rfl) (by kernel_rfl) (by kernel_rfl) (fun _ _ _ h=>h) (Or.inl ⟨by rfl,?_⟩) (by assumption) ?_
   rotate_left
   ·intro w hSw;(try dsimp only at hSw);go_simp<;>with_reducible rfl
   try simp only[Act.put,getElem_toArray,getElem_cons_zero,setIfInBounds_toArray,set_cons_zero,set_cons_succ]
   refine wpAnyH_take (i:=1) (v:=?_) rfl (by kernel_rfl) (by kernel_rfl) (by kernel_rfl) (fun _ _ _ h=>h) (Or.inl ⟨by rfl,?_⟩) (by assumption) ?_
   rotate_left
   ·intro w hSw;(try dsimp only at hSw);go_simp<;>with_reducible rfl
   try simp only[Act.put,getElem_toArray,getElem_cons_succ,getElem_cons_zero,setIfInBounds_toArray,set_cons_zero,set_cons_succ]
   refine wpAnyH_take (i:=2) (v:=?_) rfl (by kernel_rfl) (by kernel_rfl) (by kernel_rfl) (fun _ _ _ h=>h) (Or.inl ⟨by rfl,?_⟩) (by assumption) ?_
   rotate_left
   ·intro w hSw;(try dsimp only at hSw);go_simp<;>with_reducible rfl
   try simp only[Act.put,getElem_toArray,getElem_cons_succ,getElem_cons_zero,setIfInBounds_toArray,set_cons_zero,set_cons_succ]
   refine wpAnyH_take (i:=3) (v:=?_) rfl (by kernel_rfl) (by kernel_rfl) (by kernel_rfl) (fun _ _ _ h=>h) (Or.inl ⟨by rfl,?_⟩) (by assumption) ?_
   rotate_left
   ·intro w hSw;(try dsimp only at hSw);go_simp<;>with_reducible rfl
   try simp only[Act.put,getElem_toArray,getElem_cons_succ,getElem_cons_zero,setIfInBounds_toArray,set_cons_zero,set_cons_succ]
   refine wpAnyH_take (i:=4) (v:=?_) rfl (by kernel_rfl) (by kernel_rfl) (by kernel_rfl) (fun _ _ _ h=>h) (Or.inl ⟨by rfl,?_⟩) (by assumption) ?_
   rotate_left
   ·intro w hSw;(try dsimp only at hSw);go_simp<;>with_reducible rfl
   try simp only[Act.put,getElem_toArray,getElem_cons_succ,getElem_cons_zero,setIfInBounds_toArray,set_cons_zero,set_cons_succ]
   refine wpAnyH_take (i:=5) (v:=?_) rfl (by kernel_rfl) (by kernel_rfl) (by kernel_rfl) (fun _ _ _ h=>h) (Or.inl ⟨by rfl,?_⟩) (by assumption) ?_
   rotate_left
   ·intro w hSw;(try dsimp only at hSw);go_simp<;>with_reducible rfl
   try simp only[Act.put,getElem_toArray,getElem_cons_succ,getElem_cons_zero,setIfInBounds_toArray,set_cons_zero,set_cons_succ]
   refine wpAnyH_take (i:=6) (v:=?_) rfl (by kernel_rfl) (by kernel_rfl) (by kernel_rfl) (fun _ _ _ h=>h) (Or.inl ⟨by rfl,?_⟩) (by assumption) ?_
   rotate_left
   ·intro w hSw;(try dsimp only at hSw);go_simp<;>with_reducible rfl
   try simp only[Act.put,getElem_toArray,getElem_cons_succ,getElem_cons_zero,setIfInBounds_toArray,set_cons_zero,set_cons_succ]
   refine wpAnyH_ready (rs:= [7]) (by kernel_rfl) (by simp) ?_
   refine AllReadyH.cons rfl (fun K hK=>?_) AllReadyH.nil
   go_simp
   go_at_call 72
   refine(KU.out _ (step HB3.out (Below.refl _ W3).drew)).mono ?_
   rintro e w5 ⟨v5,rfl,ho5,hb5⟩
   have HO5:=hid ho5
   obtain⟨a5,p5,rfl⟩:=Rw.own_form ho5
   have HB5:Hid (Below W3.heap.size W3 w5):=hid (step (Below.refl W3.heap.size W3).drew hb5)
   have KD5:=hid (KD3.out w5 _ HB5.out (RdX.own cellsI_length HO5.out))
   clear ho5 hb5
   refine hK.out _ _ (HQ.out _ HB5.out) (fun hHeld=>?_)
   clear hK K
   try simp only[Act.put,getElem_toArray,getElem_cons_succ,getElem_cons_zero,setIfInBounds_toArray,set_cons_zero,set_cons_succ]
   refine wpAnyH_ready (rs:= [8]) (by kernel_rfl) (by simp) ?_
   refine AllReadyH.cons rfl (fun K hK=>?_) AllReadyH.nil
   go_simp
   go_at_call 71
   refine KD5.out.mono ?_
   rintro e w6 ⟨⟨yt,yn,yk,yS,ya,yc,yK,yka,ykc,yM,yma,ymc⟩,he,hv6,hf6,hb6⟩
   unfold stVal at he
   simp only[StC.sv,StC.kv,StC.mv] at he
   subst he
   have HV6:=hid hv6
   have HF6:=hid hf6
   have HB56:=hid hb6
   have HB6:Hid (Below W3.heap.size W3 w6):=hid (step HB5.out hb6)
   obtain⟨z0,z1,z2,z3,z4,z5,zf⟩:=HZ3.out.later HB6.out
   simp only[zeroC10,StC.sv,StC.kv,StC.mv,List.length_nil] at z0 z1 z2 z3 z4 z5
   clear hv6 hf6 hb6
   refine hK.out _ _ (HQ.out _ HB6.out) (fun hHeld=>?_)
   clear hK K
   try simp only[Act.put,getElem_toArray,getElem_cons_succ,getElem_cons_zero,setIfInBounds_toArray,set_cons_zero,set_cons_succ]
   refine wpAnyH_ready (rs:= [9]) (by kernel_rfl) (by simp) ?_
   refine AllReadyH.cons rfl (fun K hK=>?_) AllReadyH.nil
   go_simp
   refine hK.out _ _ (((HX3.out.later HB6.out).other6 (Nat.succ_ne_self nb) _ _ _ _ _ _).cells) (fun hHeld=>?_)
   clear hK K
   try simp only[Act.put,getElem_toArray,getElem_cons_succ,getElem_cons_zero,setIfInBounds_toArray,set_cons_zero,set_cons_succ]
   refine wpAnyH_done (by kernel_rfl) ?_ _
   have HE:=hid ((HF6.out.set6 (show nb+1<w5.heap.size by have:=HB5.out.size;omega) (.int .i64 yt) (.int .i64 yn) (.int .i64 yk) (.slice ya yS.length yc) (.slice yka yK.length ykc) (.slice yma yM.length ymc)))
   have HBE:=hid (below_set6 (step HB3.out HB6.out) (nb+1) (by have:=HNB.out;omega) (.int .i64 yt) (.int .i64 yn) (.int .i64 yk) (.slice ya yS.length yc) (.slice yka yK.length ykc) (.slice yma yM.length ymc))
   have hle5:w.heap.size<=w5.heap.size:=(step HB3.out HB5.out).size
   have HVE:=hid (HV6.out.trans HADV.out.symm)
   go_wp2
   refine bodyPost_ret (by simp [results,Tryz.results19,go_sem,z0,z1,z2,z3,z4,z5,zf]<;>rfl) rfl ?_
   exact⟨⟨yt,yn,yk,yS,ya,yc,yK,yka,ykc,yM,yma,ymc⟩,rfl,HVE.out,⟨(HE.out.lower hle5).s,(HE.out.lower hle5).k,(HE.out.lower hle5).m⟩,HBE.out⟩
end Cm
end Go.Proofs.YtclcgkpfcogcdaaGreat

/- What the laws of layer 10 share: both sides' Apply, Advance, Gone, Right, as the laws ask for them; the same states; awake. -/
set_option linter.unusedVariables false
set_option maxRecDepth 8000
set_option linter.unusedSimpArgs false
namespace Go.Proofs.YtclcgkpfcogcdaaGreat
open Lib (hid)
open Go.RowKit Go.Shelf
namespace Cm

def ReadsSt (r:StV) (w:World) (e:Ending) (w':World):Prop:= ∃y:StC,e= .returned (stVal y)/\y.v=r/\RdSt w' y/\Below w.heap.size w w'
def ReadsAp (r:StV × ReplyV × Bool) (w:World) (e:Ending) (w':World):Prop:=
 ∃(y:StC) (a:Option Addr) (p:Nat),e= .returned (.tuple #[stVal y,.agg #[.int .i64 r.2.1.code,.int .i64 r.2.1.session,.int .i64 r.2.1.ahead,.slice a r.2.1.held.length p],.bool r.2.2])/\y.v=r.1/\RdSt w' y/\RdH w' (.slice a r.2.1.held.length p) r.2.1.held/\Below w.heap.size w w'
theorem GetsSt.rd {r:StV} {x:StC} {w:World} (h:RdSt w x) {e:Ending} {w':World} (q:GetsSt r x w e w'):ReadsSt r w e w':=by
 obtain⟨y,e1,e2,e3,e4⟩:=q
 exact⟨y,e1,e2,e3.rd (h.later e4),e4⟩
theorem GetsAp.rd {r:StV × ReplyV × Bool} {x:StC} {w:World} (h:RdSt w x) {e:Ending} {w':World} (q:GetsAp r x w e w'):ReadsAp r w e w':=by
 obtain⟨y,a,p,e1,e2,e3,e4,e5⟩:=q
 exact⟨y,a,p,e1,e2,e3.rd (h.later e5),e4,e5⟩
theorem DevAdv (x:StC) (t d:Int) (w:World) (h:RdSt w x) (hR:Rst x.v):Calls Tryz.prog 18 #[stVal x,.int .i64 t,.int .i64 d] w (ReadsSt (advA x.v t d) w):=(AutoAdv_any x t d w h hR.small hR).mono fun _ _ q=>q.rd h
theorem DevApply (x:StC) (r:ReqV) (w:World) (h:RdSt w x) (hR:Rst x.v) (hn:x.num<2305843009213693900) (ht:x.token<2305843009213693900):Calls Tryz.prog 15 #[stVal x,reqVal r] w (ReadsAp (applyA x.v r) w):=(AutoApply_any x r w h hR hn ht).mono fun _ _ q=>q.rd h
theorem goodT_names {L:List LockC} {t:Int} (h:Good (vals L) t): ∀x∈L,x.name.length<=maxLen:=fun x hx=>by
 have h1:=((oneK_iff _).1 (h.rk.one x.val (List.mem_map_of_mem hx))).1
 unfold nameF at h1
 rw[Bool.and_eq_true,Bool.and_eq_true,decide_eq_true_eq,decide_eq_true_eq] at h1
 have:=h1.1.2
 unfold LockC.val at this
 dsimp only at this
 unfold maxLen
 omega
theorem Rst.names {x:StC} (h:Rst x.v): ∀k∈x.K,k.name.length<=maxLen:=goodT_names (L:=x.K) h.good
theorem DevRight (x:StC) (w:World) (h:RdSt w x) (hR:Rst x.v):Calls Tryz.prog 12 #[stVal x] w (SaysB true w):=by
 have:=AutoRight_any x w h hR.small.s (by have:=hR.small.k;omega) hR.small.l hR.names
 rwa [(rightA_iff x.v).2 hR] at this
theorem DevGone (x y:StC) (w:World) (h:RdSt w x) (h2:RdSt w y) (hR:Rst x.v) (hR2:Rst y.v):Calls Tryz.prog 28 #[stVal x,stVal y] w (GetsN (goneA x.v y.v) w):=by
 have:=AutoGoneD_any x y w h h2 hR.small.s hR2.small.s
 have e:goneD y.v=goneE y.v:=funext fun z=>goneD_eq (right_up hR2.ses) z
 rw[e] at this
 exact this
/-! ### awake -/
def rq1:ReqV:=⟨3,1,⟨1,0,[]⟩⟩
def st1:StV:=⟨0,1,0,[⟨3,1,0⟩],[],[⟨3,1,⟨0,1,0,[]⟩⟩]⟩
def st2:StV:=⟨10,1,0,[],[],[⟨3,1,⟨0,1,0,[]⟩⟩]⟩
theorem st1_of:applyA zeroSt rq1=(st1,⟨0,1,0,[]⟩,true):=by rfl
theorem st2_of:advA st1 10 10=st2:=by rfl
end Cm
end Go.Proofs.YtclcgkpfcogcdaaGreat

/- awake of layer 10. -/
set_option linter.unusedVariables false
set_option maxRecDepth 8000
set_option linter.unusedSimpArgs false
namespace Go.Proofs.YtclcgkpfcogcdaaGreat
open Lib (hid)
open Go.RowKit Go.Shelf
namespace Cm

theorem rst1:Rst st1:=(rightA_iff _).1 (by rfl)
theorem rst2:Rst st2:=(rightA_iff _).1 (by rfl)
theorem gone12:goneA st1 st2= [3]:=by rfl
set_option maxHeartbeats 4000000 in
theorem awake10_ok (w:World):Calls Tryz.prog 11 #[] w (SaysB true w):=by
 have KA:Hid (∀W,Calls Tryz.prog 15 #[.agg #[.int .i64 0,.int .i64 0,.int .i64 0,.slice none 0 0,.slice none 0 0,.slice none 0 0],.agg #[.int .i64 3,.int .i64 1,.int .i64 1,.int .i64 0,.string ⟨#[]⟩]] W (ReadsAp (st1,⟨0,1,0,[]⟩,true) W)):=hid fun W=>by
  have:=DevApply zeroC10 rq1 W (RdSt.zero W) Rst.zero (by decide) (by decide)
  rw[show zeroC10.v=zeroSt from rfl,st1_of] at this
  exact this
 have KV:Hid (∀W (y:StC),RdSt W y->y.v=st1->Calls Tryz.prog 18 #[stVal y,.int .i64 10,.int .i64 10] W (ReadsSt st2 W)):=hid fun W y h e=>by
  have:=DevAdv y 10 10 W h (by rw[e];exact rst1)
  rw[e,st2_of] at this
  exact this
 have KG:Hid (∀W (y z:StC),RdSt W y->RdSt W z->y.v=st1->z.v=st2->Calls Tryz.prog 28 #[stVal y,stVal z] W (GetsN [3] W)):=hid fun W y z h h2 e e2=>by
  have:=DevGone y z W h h2 (by rw[e];exact rst1) (by rw[e2];exact rst2)
  rw[e,e2,gone12] at this
  exact this
 have KR:Hid (∀W (y:StC),RdSt W y->y.v=st1->Calls Tryz.prog 12 #[stVal y] W (SaysB true W)):=hid fun W y h e=>DevRight y W h (by rw[e];exact rst1)
 have KI:=hid (fun(u v:Value) W (h:RdI W u [3]) (h2:RdI W v [3])=>by
  have:=SameInts_any u v [3] [3] W h h2
  rw[(sameI_iff _ _).2 rfl] at this
  exact this)
 go_enter Tryz.func11,Tryz.ntmps11
 go_upto_region 2 with (go_at_call 15;refine(KA.out w).mono ?_;rintro e w2 ⟨⟨yt,yn,yk,yS,ya,yc,yK,yka,ykc,yM,yma,ymc⟩,a2,p2,he,hv2,hr2,hh2,hb2⟩;unfold stVal at he;simp only[StC.sv,StC.kv,StC.mv,List.length_nil] at he;subst he;have HV2:=hid hv2;have HR2:=hid hr2;have HB2:=hid hb2;clear hv2 hr2 hh2 hb2)
 obtain⟨W3,hW3⟩: ∃W3,W3=w2.alloc (.cells #[.int .i64 yt,.int .i64 yn,.int .i64 yk,.slice ya yS.length yc,.slice yka yK.length ykc,.slice yma yM.length ymc] 26):=⟨_,rfl⟩
 have hx3:BoxS W3 w2.heap.size ⟨yt,yn,yk,yS,ya,yc,yK,yka,ykc,yM,yma,ymc⟩:=by rw[hW3];exact BoxS.new w2 ⟨yt,yn,yk,yS,ya,yc,yK,yka,ykc,yM,yma,ymc⟩ _
 have hb3:Below w2.heap.size w2 W3:=by rw[hW3];exact newAlloc _ _
 have hs3:W3.heap.size=w2.heap.size+1:=by rw[hW3];simp
 obtain⟨W4,hW4⟩: ∃W4,W4=W3.alloc (.cells #[.int .i64 0,.int .i64 1,.int .i64 0,.slice a2 0 p2] 36):=⟨_,rfl⟩
 have hb4:Below W3.heap.size W3 W4:=by rw[hW4];exact newAlloc _ _
 have hp4:=box4 (Below.refl _ (W3.alloc (.cells #[.int .i64 0,.int .i64 1,.int .i64 0,.slice a2 0 p2] 36)))
 rw[<-hW4,hs3] at hp4
 obtain⟨bt,hbt⟩: ∃bt,w2.heap.size=bt:=⟨_,rfl⟩
 rw[hbt] at hx3 hp4
 have HX4:=hid (hx3.later hb4)
 have HP4:=hid hp4
 have HB24:=hid (step hb3 hb4)
 have HR4:=hid (HR2.out.later HB24.out)
 have HB04:=hid (step HB2.out HB24.out)
 have hs4:bt+1<W4.heap.size:=by rw[hW4];simp;omega
 rw[<-hW3,<-hW4,hbt]
 clear hW3 hW4 hx3 hp4 hb3 hb4 hs3 hbt
 have KV4:=hid (KV.out W4 _ HR4.out HV2.out)
 unfold stVal at KV4
 simp only[StC.sv,StC.kv,StC.mv] at KV4
 obtain⟨c0,c1,c2,c3,c4,c5,cf⟩:=HX4.out
 simp only[StC.sv,StC.kv,StC.mv] at c0 c1 c2 c3 c4 c5
 go_upto_region 3 with (go_at_call 18;refine KV4.out.mono ?_;rintro e w5 ⟨⟨zt,zn,zk,zS,za,zc,zK,zka,zkc,zM,zma,zmc⟩,he,hv5,hr5,hb5⟩;unfold stVal at he;simp only[StC.sv,StC.kv,StC.mv] at he;subst he;have HV5:=hid hv5;have HR5:=hid hr5;have HB45:=hid hb5;clear hv5 hr5 hb5)
 obtain⟨W6,hW6⟩: ∃W6,W6=w5.alloc (.cells #[.int .i64 zt,.int .i64 zn,.int .i64 zk,.slice za zS.length zc,.slice zka zK.length zkc,.slice zma zM.length zmc] 26):=⟨_,rfl⟩
 have hx6:BoxS W6 w5.heap.size ⟨zt,zn,zk,zS,za,zc,zK,zka,zkc,zM,zma,zmc⟩:=by rw[hW6];exact BoxS.new w5 ⟨zt,zn,zk,zS,za,zc,zK,zka,zkc,zM,zma,zmc⟩ _
 have hb6:Below w5.heap.size w5 W6:=by rw[hW6];exact newAlloc _ _
 rw[<-hW6]
 obtain⟨bz,hbz⟩: ∃bz,w5.heap.size=bz:=⟨_,rfl⟩
 rw[hbz] at hx6 ⊢
 have HB46:=hid (step HB45.out hb6)
 have HX6:=hid (HX4.out.later HB46.out)
 have HZ6:=hid hx6
 have HRY:=hid (HR4.out.later HB46.out)
 have HRZ:=hid (HR5.out.later hb6)
 have HB06:=hid (step HB04.out HB46.out)
 have hy1:yn=1:=congrArg StV.num HV2.out
 have hyS:yS.length=1:=by have:yS= [⟨3,1,0⟩]:=congrArg StV.ses HV2.out;rw[this];rfl
 have hz0:zt=10:=congrArg StV.time HV5.out
 have hzS:zS.length=0:=by have:zS= []:=congrArg StV.ses HV5.out;rw[this];rfl
 have hp6:W6.cell? ⟨bt+1,0,none⟩=some (.int .i64 0)/\W6.cell? ⟨bt+1,1,none⟩=some (.int .i64 1):=⟨(HB46.out.cell (lt_of_cell HP4.out.1)).trans HP4.out.1,(HB46.out.cell (lt_of_cell HP4.out.2.1)).trans HP4.out.2.1⟩
 obtain⟨p0,p1⟩:=hp6
 have KG6:=hid (KG.out W6 _ _ HRY.out HRZ.out HV2.out HV5.out)
 have KR6:=hid (fun W (hb:Below W6.heap.size W6 W)=>KR.out W _ (HRY.out.later hb) HV2.out)
 unfold stVal at KG6 KR6
 simp only[StC.sv,StC.kv,StC.mv] at KG6 KR6
 clear hW6 hx6 hb6 hbz c0 c1 c2 c3 c4 c5 cf
 obtain⟨c0,c1,c2,c3,c4,c5,cf⟩:=HX6.out
 simp only[StC.sv,StC.kv,StC.mv] at c0 c1 c2 c3 c4 c5
 obtain⟨d0,d1,d2,d3,d4,d5,df⟩:=HZ6.out
 simp only[StC.sv,StC.kv,StC.mv] at d0 d1 d2 d3 d4 d5
 subst hy1 hz0
 have HYS:=hid hyS
 have HZS:=hid hzS
 rw[hyS] at KG6 KR6 c3
 rw[hzS] at KG6 d3
 clear hyS hzS
 go_wp2_with (first
  | (go_at_call 28;refine KG6.out.mono ?_;rintro e w7 ⟨v7,rfl,ho7,hb7⟩;obtain⟨a7,p7,rfl⟩:=Rw.own_form ho7;have HO7:=hid ho7;have HB7:=hid hb7;have HL7:=hid (rdi_one w7 3);have HO8:=hid (RdX.later (RdX.own cellsI_length ho7) (newAlloc w7 (.cells #[.int .i64 3] 3)));clear ho7 hb7)
  | (go_at_call 45;refine(KI.out _ _ _ HO8.out HL7.out).mono ?_;rintro e w8 ⟨rfl,hb8⟩;have HB8:=hid (step HB7.out (step (newAlloc w7 (.cells #[.int .i64 3] 3)) hb8));obtain⟨e0,e1,e2,e3,e4,e5,ef⟩:=HX6.out.later HB8.out;simp only[StC.sv,StC.kv,StC.mv] at e0 e1 e2 e3 e4 e5;rw[HYS.out] at e3;clear hb8)
  | (go_at_call 12;refine(KR6.out _ HB8.out).mono ?_;rintro e w9 ⟨rfl,hb9⟩;have HB9:=hid (step HB8.out hb9);clear hb9))
 go_ret
 exact⟨by simp,step HB06.out HB9.out⟩
end Cm
end Go.Proofs.YtclcgkpfcogcdaaGreat
