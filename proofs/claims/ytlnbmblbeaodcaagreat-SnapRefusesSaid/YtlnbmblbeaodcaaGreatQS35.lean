/- Texts laid together by program. -/
import Derived.Test.YtlnbmblbeaodcaaGreatQS32
/- Contract: padlockref6's open (made by tools/gen_autf.py). -/
set_option linter.unusedVariables false
set_option maxRecDepth 8000
set_option linter.unusedSimpArgs false
namespace Go.Proofs.YtlnbmblbeaodcaaGreat
open Lib (hid)
open List (getElem_toArray getElem_cons_succ getElem_cons_zero setIfInBounds_toArray set_cons_zero set_cons_succ)
open Go.RowKit
namespace Cm

def GetsSR (r:StV × ReplyV) (x:StC) (w:World) (e:Ending) (w':World):Prop:=
 ∃(y:StC) (a:Option Addr) (p:Nat),e= .returned (.tuple #[stVal y,.agg #[.int .i64 r.2.code,.int .i64 r.2.session,.int .i64 r.2.ahead,.slice a r.2.held.length p]])/\y.v=r.1/\FromS w.heap.size w' x y/\w'.ownsRow w.heap.size 141 2 (.slice a r.2.held.length p) r.2.held.length (flatX cellsG r.2.held)/\Below w.heap.size w w'
theorem own_set6z {w:World} {base n size g:Nat} {e:TypeId} {v:Value} {xs:List Value} (h:w.ownsRow base e size v n xs) (hg:g<base) (v0 v1 v2 v3 v4 v5:Value):
  ((((((w.setCell ⟨g,0,none⟩ v0).setCell ⟨g,1,none⟩ v1).setCell ⟨g,2,none⟩ v2).setCell ⟨g,3,none⟩ v3).setCell ⟨g,4,none⟩ v4).setCell ⟨g,5,none⟩ v5).ownsRow base e size v n xs:=
 ownsRow_setCell_below (ownsRow_setCell_below (ownsRow_setCell_below (ownsRow_setCell_below (ownsRow_setCell_below (ownsRow_setCell_below h hg _) hg _) hg _) hg _) hg _) hg _
theorem BoxS.other4 {w:World} {b g:Nat} {x:StC} (h:BoxS w b x) (hg:g≠b) (v0 v1 v2 v3:Value):BoxS ((((w.setCell ⟨g,0,none⟩ v0).setCell ⟨g,1,none⟩ v1).setCell ⟨g,2,none⟩ v2).setCell ⟨g,3,none⟩ v3) b x:=
 (((h.other hg 0 v0).other hg 1 v1).other hg 2 v2).other hg 3 v3
theorem FromS.set4 {base:Nat} {w:World} {x y:StC} (h:FromS base w x y) {g:Nat} (hg:g<base) (v0 v1 v2 v3:Value):FromS base ((((w.setCell ⟨g,0,none⟩ v0).setCell ⟨g,1,none⟩ v1).setCell ⟨g,2,none⟩ v2).setCell ⟨g,3,none⟩ v3) x y:=
 (((h.setBelow hg 0 v0).setBelow hg 1 v1).setBelow hg 2 v2).setBelow hg 3 v3
set_option maxHeartbeats 8000000 in
theorem RefOpen_any (x:StC) (c:Int) (w:World) (h:RdSt w x) (hs:Small x) (hn:0<=x.num/\x.num<=2305843009213693952):Calls Tryz.prog 123 #[stVal x,.int .i64 c] w (GetsSR (openA x.v c) x w):=by
 obtain⟨W1,hW1⟩: ∃W1,W1=w.alloc (.cells #[.int .i64 x.time,.int .i64 x.num,.int .i64 x.token,x.sv,x.kv,x.mv] 26):=⟨_,rfl⟩
 have hb1:Below w.heap.size w W1:=by rw[hW1];exact newAlloc _ _
 have hB1:BoxS W1 w.heap.size x:=by rw[hW1];exact BoxS.new w x _
 have hs1:W1.heap.size=w.heap.size+1:=by rw[hW1];simp
 obtain⟨W2,hW2⟩: ∃W2,W2=W1.alloc (.cells #[.int .i64 0,.int .i64 0,.int .i64 0,.slice none 0 0,.slice none 0 0,.slice none 0 0] 26):=⟨_,rfl⟩
 have hb2:Below W1.heap.size W1 W2:=by rw[hW2];exact newAlloc _ _
 have hZ:BoxS W2 (w.heap.size+1) zeroC10:=by rw[<-hs1,hW2];exact BoxS.new W1 zeroC10 _
 have hs2:W2.heap.size=w.heap.size+2:=by rw[hW2];simp [hs1]
 obtain⟨W3,hW3⟩: ∃W3,W3=W2.alloc (.cells #[.int .i64 0,.int .i64 0,.int .i64 0,.slice none 0 0] 36):=⟨_,rfl⟩
 have hb3:Below W2.heap.size W2 W3:=by rw[hW3];exact newAlloc _ _
 have hs3:W3.heap.size=w.heap.size+3:=by rw[hW3];simp [hs2]
 have HR0:Hid (∀W,Below W3.heap.size W3 W->(W.cell? ⟨w.heap.size+2,0,none⟩=some (.int .i64 0)/\W.cell? ⟨w.heap.size+2,1,none⟩=some (.int .i64 0)/\W.cell? ⟨w.heap.size+2,2,none⟩=some (.int .i64 0)/\W.cell? ⟨w.heap.size+2,3,none⟩=some (.slice none 0 0))/\ ∀k,W.frozen? ⟨w.heap.size+2,k,none⟩=false):=hid fun W hb=>by
  rw[<-hs2]
  rw[hW3] at hb
  exact⟨box4 hb,free4k hb⟩
 have HX0:=hid (hB1.later (step hb2 hb3))
 have HZ0:=hid (hZ.later hb3)
 have HB0:=hid (step hb1 (step hb2 hb3))
 have KF:=hid (Find_any x.sv x.S c W3 (h.later HB0.out).s)
 have KO:=hid (fun W (hb:Below w.heap.size w W)=>Open_any x.sv x.S c (x.num+1) x.time W (h.later hb).s)
 have HRD:Hid (∀W,Below w.heap.size w W->RdSt W x):=hid fun W hb=>h.later hb
 have hK5:=hs.k
 have e1:IntKind.i64.wrap (x.num+1)=x.num+1:=by rw[IntKind.wrap_i64];omega
 obtain⟨HI,hHI'⟩: ∃HI,W3.heap.size=HI:=⟨_,rfl⟩
 obtain⟨nb,hnb⟩: ∃nb,w.heap.size=nb:=⟨_,rfl⟩
 have HNB:=hid hnb
 have hlt2:nb+2<HI:=by omega
 have hHI:w.heap.size<=HI:=by omega
 have HHI:=hid hHI'
 rw[hnb] at HX0 HZ0 HR0
 clear hnb h hs hn hb1 hb2 hb3 hB1 hZ hs1 hs2 hs3 hHI'
 obtain⟨xt,xn,xk,xS,sa,sc,xK,ka,kc,xM,ma,mc⟩:=x
 unfold stVal
 simp only[StC.sv,StC.kv,StC.mv] at hW1 KF KO e1 ⊢
 dsimp only at hK5
 obtain⟨c0,c1,c2,c3,c4,c5,cf⟩:=HX0.out
 simp only[StC.sv,StC.kv,StC.mv] at c0 c1 c2 c3 c4 c5
 obtain⟨R,hR⟩: ∃R,openA (StC.v ⟨xt,xn,xk,xS,sa,sc,xK,ka,kc,xM,ma,mc⟩) c=R:=⟨_,rfl⟩
 have HRR:=hid hR
 rw[hR]
 clear hR
 obtain⟨⟨⟨fc,fn,fe⟩,fb⟩,hfr⟩: ∃p,findS xS c=p:=⟨_,rfl⟩
 rw[hfr] at KF
 have HFR:=hid hfr
 clear hfr
 go_enter Tryz.func123,Tryz.ntmps123
 go_upto_region 1 with fail
 rw[<-hW1,<-hW2,<-hW3]
 rw[HNB.out]
 clear hW1 hW2 hW3
 go_upto_region 2 with (go_at_call 49;refine KF.out.mono ?_;rintro e w3 ⟨rfl,hb3⟩;unfold sesVal;dsimp only;have HB3:=hid hb3;clear hb3)
 obtain⟨W4,hW4⟩: ∃W4,W4=w3.alloc (.cells #[.int .i64 fc,.int .i64 fn,.int .i64 fe] 73):=⟨_,rfl⟩
 have HB34:Hid (Below W3.heap.size W3 W4):=hid (by rw[hW4];exact stepAlloc HB3.out _)
 have HB4:=hid (step HB0.out HB34.out)
 have HX4:=hid (HX0.out.later HB34.out)
 have HZ4:=hid (HZ0.out.later HB34.out)
 have HR4:=hid (fun W (hb:Below W4.heap.size W4 W)=>HR0.out W (step HB34.out hb))
 have hsz4:HI<=W4.heap.size:=by rw[<-HHI.out];exact HB34.out.size
 have HF4:Hid (FromS HI W4 ⟨xt,xn,xk,xS,sa,sc,xK,ka,kc,xM,ma,mc⟩ ⟨xt,xn,xk,xS,sa,sc,xK,ka,kc,xM,ma,mc⟩):=hid (FromS.refl _ _ _)
 rw[<-hW4]
 clear hW4 c0 c1 c2 c3 c4 c5 cf HX0 HZ0 HR0
 obtain⟨c0,c1,c2,c3,c4,c5,cf⟩:=HX4.out
 simp only[StC.sv,StC.kv,StC.mv] at c0 c1 c2 c3 c4 c5
 have HSM:Hid (∀W,Below w.heap.size w W-> ∀cd ah,Calls Tryz.prog 126 #[.agg #[.int .i64 xt,.int .i64 xn,.int .i64 xk,.slice sa xS.length sc,.slice ka xK.length kc,.slice ma xM.length mc],.int .i64 c,.int .i64 cd,.int .i64 ah] W (GetsTold (toldA ⟨xt,xn,xk,xS,vals xK,valsM xM⟩ c cd ah) W)):=hid fun W hb cd ah=>RefTold_any ⟨xt,xn,xk,xS,sa,sc,xK,ka,kc,xM,ma,mc⟩ c cd ah W (HRD.out W hb) hK5
 cases fb with
 | true=>
  have KT:=hid (fun W (hb:Below W4.heap.size W4 W)=>HSM.out W (step HB4.out hb) 7 0)
  unfold toldA GetsTold at KT
  dsimp only at KT
  rw[HFR.out] at KT
  dsimp only at KT
  have hR:R=(⟨xt,xn,xk,xS,vals xK,valsM xM⟩,⟨7,fn,0,heldK (vals xK) c⟩):=by
   rw[<-HRR.out]
   unfold openA StC.v
   dsimp only
   rw[if_pos (by rw[HFR.out])]
   unfold toldA
   dsimp only
   rw[HFR.out]
  clear HRR
  subst hR
  go_upto_region 3 with fail
  refine wp_region_held_drew (S:=(fun W=>(W.cell? ⟨nb,0,none⟩=some (.int .i64 xt)/\W.cell? ⟨nb,1,none⟩=some (.int .i64 xn)/\W.cell? ⟨nb,2,none⟩=some (.int .i64 xk))/\W.cell? ⟨nb,3,none⟩=some (.slice sa xS.length sc)/\W.cell? ⟨nb,4,none⟩=some (.slice ka xK.length kc)/\W.cell? ⟨nb,5,none⟩=some (.slice ma xM.length mc))) (by kernel_rfl) ((HX4.out.later (Below.refl _ W4).drew).cells) (fun hHeld=>?_)
  refine wpAnyH_take (i:=0) (v:=?_) rfl (by kernel_rfl) (by kernel_rfl) (by kernel_rfl) (fun _ _ _ h=>h) (Or.inl ⟨by rfl,?_⟩) (by assumption) ?_
  rotate_left
  ·intro w hSw;(try dsimp only at hSw);go_simp<;>with_reducible rfl
  try simp only[Act.put,getElem_toArray,getElem_cons_zero,setIfInBounds_toArray,set_cons_zero,set_cons_succ]
  refine wpAnyH_take (i:=1) (v:=?_) rfl (by kernel_rfl) (by kernel_rfl) (by kernel_rfl) (fun _ _ _ h=>h) (Or.inl ⟨by rfl,?_⟩) (by assumption) ?_
  rotate_left
  ·intro w hSw;(try dsimp only at hSw);go_simp<;>with_reducible rfl
  try simp only[Act.put,getElem_toArray,getElem_cons_succ,getElem_cons_zero,setIfInBounds_toArray,set_cons_zero,set_cons_succ]
  refine wpAnyH_take (i:=2) (v:=?_) rfl (by kernel_rfl) (by kernel_rfl) (by kernel_rfl) (fun _ _ _ h=>h) (Or.inl ⟨by rfl,?_⟩) (by assumption) ?_
  rotate_left
  ·intro w hSw;(try dsimp only at hSw);go_simp<;>with_reducible rfl
  try simp only[Act.put,getElem_toArray,getElem_cons_succ,getElem_cons_zero,setIfInBounds_toArray,set_cons_zero,set_cons_succ]
  refine wpAnyH_ready (rs:= [3]) (by kernel_rfl) (by simp) ?_
  refine AllReadyH.cons rfl (fun K hK=>?_) AllReadyH.nil
  go_simp
  go_at_call 126
  refine(KT.out W4.drew (Below.refl _ W4).drew).mono ?_
  rintro e w5 ⟨a5,p5,rfl,ho5,hb5⟩
  have HO5:=hid ho5
  have HB5:Hid (Below W4.heap.size W4 w5):=hid (step (Below.refl W4.heap.size W4).drew hb5)
  obtain⟨z0,z1,z2,z3,z4,z5,zf⟩:=HZ4.out.later HB5.out
  simp only[zeroC10,StC.sv,StC.kv,StC.mv,List.length_nil] at z0 z1 z2 z3 z4 z5
  obtain⟨⟨r0,r1,r2,r3⟩,rf⟩:=HR4.out _ HB5.out
  clear ho5 hb5
  refine hK.out _ _ ((HX4.out.later HB5.out).cells) (fun hHeld=>?_)
  clear hK K
  try simp only[Act.put,getElem_toArray,getElem_cons_succ,getElem_cons_zero,setIfInBounds_toArray,set_cons_zero,set_cons_succ]
  refine wpAnyH_ready (rs:= [4]) (by kernel_rfl) (by simp) ?_
  refine AllReadyH.cons rfl (fun K hK=>?_) AllReadyH.nil
  go_simp
  refine hK.out _ _ (((HX4.out.later HB5.out).other6 (Nat.succ_ne_self nb) _ _ _ _ _ _).cells) (fun hHeld=>?_)
  clear hK K
  try simp only[Act.put,getElem_toArray,getElem_cons_succ,getElem_cons_zero,setIfInBounds_toArray,set_cons_zero,set_cons_succ]
  refine wpAnyH_ready (rs:= [5]) (by kernel_rfl) (by simp) ?_
  refine AllReadyH.cons rfl (fun K hK=>?_) AllReadyH.nil
  go_simp
  refine hK.out _ _ ((((HX4.out.later HB5.out).other6 (Nat.succ_ne_self nb) _ _ _ _ _ _).other4 (show nb+2≠nb by omega) _ _ _ _).cells) (fun hHeld=>?_)
  clear hK K
  try simp only[Act.put,getElem_toArray,getElem_cons_succ,getElem_cons_zero,setIfInBounds_toArray,set_cons_zero,set_cons_succ]
  refine wpAnyH_done (by kernel_rfl) ?_ _
  have hl5:nb+2<W4.drew.heap.size:=Nat.lt_of_lt_of_le hlt2 hsz4
  have HOE:=hid (own_lowerX (own_set4z (own_set6z HO5.out (Nat.lt_of_succ_lt hl5) (.int .i64 xt) (.int .i64 xn) (.int .i64 xk) (.slice sa xS.length sc) (.slice ka xK.length kc) (.slice ma xM.length mc)) hl5 (.int .i64 7) (.int .i64 fn) (.int .i64 0) (.slice a5 (heldK (vals xK) c).length p5)) (show w.heap.size<=W4.drew.heap.size from by have:=HNB.out;omega))
  have HBE:=hid (set4k (below_set6 (step HB4.out HB5.out) (nb+1) (by have:=HNB.out;omega) (.int .i64 xt) (.int .i64 xn) (.int .i64 xk) (.slice sa xS.length sc) (.slice ka xK.length kc) (.slice ma xM.length mc)) (nb+2) (by have:=HNB.out;omega) (.int .i64 7) (.int .i64 fn) (.int .i64 0) (.slice a5 (heldK (vals xK) c).length p5))
  have HFE:=hid ((FromS.set4 (FromS.set6 (HF4.out.later HB5.out) (show nb+1<HI from by omega) (.int .i64 xt) (.int .i64 xn) (.int .i64 xk) (.slice sa xS.length sc) (.slice ka xK.length kc) (.slice ma xM.length mc)) (show nb+2<HI from hlt2) (.int .i64 7) (.int .i64 fn) (.int .i64 0) (.slice a5 (heldK (vals xK) c).length p5)).lower hHI)
  go_wp2
  refine bodyPost_ret (by simp [results,Tryz.results123,go_sem,z0,z1,z2,z3,z4,z5,zf,r0,r1,r2,r3,rf]<;>rfl) rfl ?_
  exact⟨⟨xt,xn,xk,xS,sa,sc,xK,ka,kc,xM,ma,mc⟩,a5,p5,rfl,rfl,HFE.out,HOE.out,HBE.out⟩
 | false=>
  obtain⟨⟨ol,oc⟩,ho⟩: ∃p,openS xS c (xn+1) xt=p:=⟨_,rfl⟩
  rw[ho] at KO
  have HOO:=hid ho
  clear ho
  go_upto_region 5 with (go_at_call 169;refine(KO.out W4 HB4.out).mono ?_;rintro e w6 ⟨v6,rfl,ho6,hb6⟩;dsimp only at ho6;obtain⟨a6,p6,rfl⟩:=Rw.own_form ho6;have HO6:=hid ho6;have HB46:=hid hb6;clear ho6 hb6)
  have HB6:=hid (step HB4.out HB46.out)
  have HX6:=hid (HX4.out.later HB46.out)
  have HZ6:=hid (HZ4.out.later HB46.out)
  have HR6:=hid (fun W (hb:Below w6.heap.size w6 W)=>HR4.out W (step HB46.out hb))
  have HF6:=hid (HF4.out.later HB46.out)
  have hsz6:HI<=w6.heap.size:=Nat.le_trans hsz4 HB46.out.size
  clear c0 c1 c2 c3 c4 c5 cf HX4 HZ4 HR4 HF4 KO
  obtain⟨c0,c1,c2,c3,c4,c5,cf⟩:=HX6.out
  simp only[StC.sv,StC.kv,StC.mv] at c0 c1 c2 c3 c4 c5
  obtain⟨z0,z1,z2,z3,z4,z5,zf⟩:=HZ6.out
  simp only[zeroC10,StC.sv,StC.kv,StC.mv,List.length_nil] at z0 z1 z2 z3 z4 z5
  obtain⟨⟨r0,r1,r2,r3⟩,rf⟩:=HR6.out _ (Below.refl _ _)
  by_cases hoc:oc=0
  case neg=>
   have g1:(oc != 0)=true:=by simpa using hoc
   have hR:R=(⟨xt,xn,xk,xS,vals xK,valsM xM⟩,⟨oc,0,0,[]⟩):=by
    rw[<-HRR.out]
    unfold openA StC.v
    dsimp only
    rw[if_neg (by rw[HFR.out];simp),HOO.out,if_neg hoc]
    rfl
   clear HRR hoc
   subst hR
   have HBE:=hid (set4k (below_set6 HB6.out (nb+1) (by have:=HNB.out;omega) (.int .i64 xt) (.int .i64 xn) (.int .i64 xk) (.slice sa xS.length sc) (.slice ka xK.length kc) (.slice ma xM.length mc)) (nb+2) (by have:=HNB.out;omega) (.int .i64 oc) (.int .i64 0) (.int .i64 0) (.slice none 0 0))
   go_wp2
   refine bodyPost_ret (by simp [results,Tryz.results123,go_sem,z0,z1,z2,z3,z4,z5,zf,r0,r1,r2,r3,rf]<;>rfl) rfl ?_
   exact⟨⟨xt,xn,xk,xS,sa,sc,xK,ka,kc,xM,ma,mc⟩,none,0,rfl,rfl,FromS.refl _ _ _,World.ownsRow_nil _ _ _ _,HBE.out⟩
  case pos=>
   have g1:(oc != 0)=false:=by simpa using hoc
   have hR:R=(⟨xt,xn+1,xk,ol,vals xK,valsM xM⟩,⟨0,(findS ol c).1.num,0,heldK (vals xK) c⟩):=by
    rw[<-HRR.out]
    unfold openA openedA toldA StC.v
    dsimp only
    rw[if_neg (by rw[HFR.out];simp),HOO.out,if_pos hoc]
   clear HRR hoc
   subst hR
   have hX8:=(HX6.out.set3 ol a6 p6).set1 (xn+1)
   have hZ8:=(HZ6.out.other (Nat.ne_of_lt (Nat.lt_succ_self nb)) 3 (.slice a6 ol.length p6)).other (Nat.ne_of_lt (Nat.lt_succ_self nb)) 1 (.int .i64 (xn+1))
   have hf6:FromS HI w6 ⟨xt,xn,xk,xS,sa,sc,xK,ka,kc,xM,ma,mc⟩ ⟨xt,xn+1,xk,ol,a6,p6,xK,ka,kc,xM,ma,mc⟩:=⟨.inr (own_lowerX HO6.out hsz4),.inl ⟨rfl,rfl,rfl⟩,.inl ⟨rfl,rfl,rfl⟩⟩
   have hF8:=(hf6.setBelow (show nb<HI by omega) 3 (.slice a6 ol.length p6)).setBelow (show nb<HI by omega) 1 (.int .i64 (xn+1))
   have hB8:Below w.heap.size w ((w6.setCell ⟨nb,3,none⟩ (.slice a6 ol.length p6)).setCell ⟨nb,1,none⟩ (.int .i64 (xn+1))):=(HB6.out.setCell (Nat.le_of_eq HNB.out) _).setCell (Nat.le_of_eq HNB.out) _
   have hsz8:HI<=((w6.setCell ⟨nb,3,none⟩ (.slice a6 ol.length p6)).setCell ⟨nb,1,none⟩ (.int .i64 (xn+1))).heap.size :=by simpa using hsz6
   have k0:((w6.setCell ⟨nb,3,none⟩ (.slice a6 ol.length p6)).setCell ⟨nb,1,none⟩ (.int .i64 (xn+1))).cell? ⟨nb+2,0,none⟩=some (.int .i64 0):=by simp [go_sem,r0]
   have k1:((w6.setCell ⟨nb,3,none⟩ (.slice a6 ol.length p6)).setCell ⟨nb,1,none⟩ (.int .i64 (xn+1))).cell? ⟨nb+2,1,none⟩=some (.int .i64 0):=by simp [go_sem,r1]
   have k2:((w6.setCell ⟨nb,3,none⟩ (.slice a6 ol.length p6)).setCell ⟨nb,1,none⟩ (.int .i64 (xn+1))).cell? ⟨nb+2,2,none⟩=some (.int .i64 0):=by simp [go_sem,r2]
   have k3:((w6.setCell ⟨nb,3,none⟩ (.slice a6 ol.length p6)).setCell ⟨nb,1,none⟩ (.int .i64 (xn+1))).cell? ⟨nb+2,3,none⟩=some (.slice none 0 0):=by simp [go_sem,r3]
   have kf: ∀k,((w6.setCell ⟨nb,3,none⟩ (.slice a6 ol.length p6)).setCell ⟨nb,1,none⟩ (.int .i64 (xn+1))).frozen? ⟨nb+2,k,none⟩=false:=fun k=>by simp [go_sem,rf]
   go_upto_region 9 with fail
   obtain⟨W8,hW8⟩: ∃W8,W8=(w6.setCell ⟨nb,3,none⟩ (.slice a6 ol.length p6)).setCell ⟨nb,1,none⟩ (.int .i64 (xn+1)):=⟨_,rfl⟩
   rw[<-hW8] at hX8 hZ8 hF8 hB8 hsz8 k0 k1 k2 k3 kf ⊢
   have HX8:=hid hX8
   have HZ8:=hid hZ8
   have HF8:=hid hF8
   have HB8:=hid hB8
   have HR8:Hid (∀W,Below W8.heap.size W8 W->(W.cell? ⟨nb+2,0,none⟩=some (.int .i64 0)/\W.cell? ⟨nb+2,1,none⟩=some (.int .i64 0)/\W.cell? ⟨nb+2,2,none⟩=some (.int .i64 0)/\W.cell? ⟨nb+2,3,none⟩=some (.slice none 0 0))/\ ∀k,W.frozen? ⟨nb+2,k,none⟩=false):=hid fun W hb=>⟨⟨(hb.cell (lt_of_cell k0)).trans k0,(hb.cell (lt_of_cell k1)).trans k1,(hb.cell (lt_of_cell k2)).trans k2,(hb.cell (lt_of_cell k3)).trans k3⟩,fun k=>(hb.frozen (p:=⟨nb+2,k,none⟩) (show nb+2< _ from lt_of_cell k0)).trans (kf k)⟩
   have KT:=hid (fun W (hb:Below W8.heap.size W8 W)=>RefTold_any ⟨xt,xn+1,xk,ol,a6,p6,xK,ka,kc,xM,ma,mc⟩ c 0 0 W ((HF8.out.later hb).rd (HRD.out W (step HB8.out hb))) hK5)
   unfold toldA GetsTold stVal at KT
   simp only[StC.sv,StC.kv,StC.mv,StC.v] at KT
   clear hW8 hX8 hZ8 hF8 hB8 k0 k1 k2 k3 kf hf6 c0 c1 c2 c3 c4 c5 cf z0 z1 z2 z3 z4 z5 zf r0 r1 r2 r3 rf HX6 HZ6 HR6 HF6
   obtain⟨c0,c1,c2,c3,c4,c5,cf⟩:=HX8.out
   simp only[StC.sv,StC.kv,StC.mv] at c0 c1 c2 c3 c4 c5
   refine wp_region_held_drew (S:=(fun W=>(W.cell? ⟨nb,0,none⟩=some (.int .i64 xt)/\W.cell? ⟨nb,1,none⟩=some (.int .i64 (xn+1))/\W.cell? ⟨nb,2,none⟩=some (.int .i64 xk))/\W.cell? ⟨nb,3,none⟩=some (.slice a6 ol.length p6)/\W.cell? ⟨nb,4,none⟩=some (.slice ka xK.length kc)/\W.cell? ⟨nb,5,none⟩=some (.slice ma xM.length mc))) (by kernel_rfl) ((HX8.out.later (Below.refl _ W8).drew).cells) (fun hHeld=>?_)
   refine wpAnyH_take (i:=0) (v:=?_) rfl (by kernel_rfl) (by kernel_rfl) (by kernel_rfl) (fun _ _ _ h=>h) (Or.inl ⟨by rfl,?_⟩) (by assumption) ?_
   rotate_left
   ·intro w hSw;(try dsimp only at hSw);go_simp<;>with_reducible rfl
   try simp only[Act.put,getElem_toArray,getElem_cons_zero,setIfInBounds_toArray,set_cons_zero,set_cons_succ]
   refine wpAnyH_take (i:=1) (v:=?_) rfl (by kernel_rfl) (by kernel_rfl) (by kernel_rfl) (fun _ _ _ h=>h) (Or.inl ⟨by rfl,?_⟩) (by assumption) ?_
   rotate_left
   ·intro w hSw;(try dsimp only at hSw);go_simp<;>with_reducible rfl
   try simp only[Act.put,getElem_toArray,getElem_cons_succ,getElem_cons_zero,setIfInBounds_toArray,set_cons_zero,set_cons_succ]
   refine wpAnyH_take (i:=2) (v:=?_) rfl (by kernel_rfl) (by kernel_rfl) (by kernel_rfl) (fun _ _ _ h=>h) (Or.inl ⟨by rfl,?_⟩) (by assumption) ?_
   rotate_left
   ·intro w hSw;(try dsimp only at hSw);go_simp<;>with_reducible rfl
   try simp only[Act.put,getElem_toArray,getElem_cons_succ,getElem_cons_zero,setIfInBounds_toArray,set_cons_zero,set_cons_succ]
   refine wpAnyH_ready (rs:= [3]) (by kernel_rfl) (by simp) ?_
   refine AllReadyH.cons rfl (fun K hK=>?_) AllReadyH.nil
   go_simp
   go_at_call 126
   refine(KT.out W8.drew (Below.refl _ W8).drew).mono ?_
   rintro e w5 ⟨a5,p5,rfl,ho5,hb5⟩
   have HO5:=hid ho5
   have HB5:Hid (Below W8.heap.size W8 w5):=hid (step (Below.refl W8.heap.size W8).drew hb5)
   obtain⟨z0,z1,z2,z3,z4,z5,zf⟩:=HZ8.out.later HB5.out
   simp only[zeroC10,StC.sv,StC.kv,StC.mv,List.length_nil] at z0 z1 z2 z3 z4 z5
   obtain⟨⟨r0,r1,r2,r3⟩,rf⟩:=HR8.out _ HB5.out
   clear ho5 hb5
   refine hK.out _ _ ((HX8.out.later HB5.out).cells) (fun hHeld=>?_)
   clear hK K
   try simp only[Act.put,getElem_toArray,getElem_cons_succ,getElem_cons_zero,setIfInBounds_toArray,set_cons_zero,set_cons_succ]
   refine wpAnyH_ready (rs:= [4]) (by kernel_rfl) (by simp) ?_
   refine AllReadyH.cons rfl (fun K hK=>?_) AllReadyH.nil
   go_simp
   refine hK.out _ _ (((HX8.out.later HB5.out).other6 (Nat.succ_ne_self nb) _ _ _ _ _ _).cells) (fun hHeld=>?_)
   clear hK K
   try simp only[Act.put,getElem_toArray,getElem_cons_succ,getElem_cons_zero,setIfInBounds_toArray,set_cons_zero,set_cons_succ]
   refine wpAnyH_ready (rs:= [5]) (by kernel_rfl) (by simp) ?_
   refine AllReadyH.cons rfl (fun K hK=>?_) AllReadyH.nil
   go_simp
   refine hK.out _ _ ((((HX8.out.later HB5.out).other6 (Nat.succ_ne_self nb) _ _ _ _ _ _).other4 (show nb+2≠nb by omega) _ _ _ _).cells) (fun hHeld=>?_)
   clear hK K
   try simp only[Act.put,getElem_toArray,getElem_cons_succ,getElem_cons_zero,setIfInBounds_toArray,set_cons_zero,set_cons_succ]
   refine wpAnyH_done (by kernel_rfl) ?_ _
   have hl5:nb+2<W8.drew.heap.size:=Nat.lt_of_lt_of_le hlt2 hsz8
   have HOE:=hid (own_lowerX (own_set4z (own_set6z HO5.out (Nat.lt_of_succ_lt hl5) (.int .i64 xt) (.int .i64 (xn+1)) (.int .i64 xk) (.slice a6 ol.length p6) (.slice ka xK.length kc) (.slice ma xM.length mc)) hl5 (.int .i64 0) (.int .i64 (findS ol c).1.num) (.int .i64 0) (.slice a5 (heldK (vals xK) c).length p5)) (show w.heap.size<=W8.drew.heap.size from by have:=HNB.out;omega))
   have HBE:=hid (set4k (below_set6 (step HB8.out HB5.out) (nb+1) (by have:=HNB.out;omega) (.int .i64 xt) (.int .i64 (xn+1)) (.int .i64 xk) (.slice a6 ol.length p6) (.slice ka xK.length kc) (.slice ma xM.length mc)) (nb+2) (by have:=HNB.out;omega) (.int .i64 0) (.int .i64 (findS ol c).1.num) (.int .i64 0) (.slice a5 (heldK (vals xK) c).length p5))
   have HFE:=hid ((FromS.set4 (FromS.set6 (HF8.out.later HB5.out) (show nb+1<HI from by omega) (.int .i64 xt) (.int .i64 (xn+1)) (.int .i64 xk) (.slice a6 ol.length p6) (.slice ka xK.length kc) (.slice ma xM.length mc)) (show nb+2<HI from hlt2) (.int .i64 0) (.int .i64 (findS ol c).1.num) (.int .i64 0) (.slice a5 (heldK (vals xK) c).length p5)).lower hHI)
   go_wp2
   refine bodyPost_ret (by simp [results,Tryz.results123,go_sem,z0,z1,z2,z3,z4,z5,zf,r0,r1,r2,r3,rf]<;>rfl) rfl ?_
   exact⟨⟨xt,xn+1,xk,ol,a6,p6,xK,ka,kc,xM,ma,mc⟩,a5,p5,rfl,rfl,HFE.out,HOE.out,HBE.out⟩
end Cm
end Go.Proofs.YtlnbmblbeaodcaaGreat
