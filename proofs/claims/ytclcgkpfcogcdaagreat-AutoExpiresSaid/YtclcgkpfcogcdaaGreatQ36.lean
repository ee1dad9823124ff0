/- Texts laid together by program. -/
import Derived.Test.YtclcgkpfcogcdaaGreatQ35
import Derived.Deep.RegionHeld3
/- Contract: package auto's tell (made by tools/gen_auce.py). -/
set_option linter.unusedVariables false
set_option maxRecDepth 8000
set_option linter.unusedSimpArgs false
namespace Go.Proofs.YtclcgkpfcogcdaaGreat
open Lib (hid)
open List (getElem_toArray getElem_cons_succ getElem_cons_zero setIfInBounds_toArray set_cons_zero set_cons_succ)
open Go.RowKit Go.Shelf
namespace Cm

set_option maxHeartbeats 8000000 in
theorem AutoTell_any (x:StC) (c ahead code:Int) (w:World) (h:RdSt w x) (hg:Good (vals x.K) x.token) (hc:clientF c=true):Calls Tryz.prog 116 #[stVal x,.int .i64 c,.int .i64 ahead,.int .i64 code] w (GetsTold (tellA x.v c ahead code) w):=by
 obtain⟨W1,hW1⟩: ∃W1,W1=w.alloc (.cells #[.int .i64 x.time,.int .i64 x.num,.int .i64 x.token,x.sv,x.kv,x.mv] 26):=⟨_,rfl⟩
 have hb1:Below w.heap.size w W1:=by rw[hW1];exact newAlloc _ _
 have hB1:BoxS W1 w.heap.size x:=by rw[hW1];exact BoxS.new w x _
 have hs1:W1.heap.size=w.heap.size+1:=by rw[hW1];simp
 obtain⟨W2,hW2⟩: ∃W2,W2=W1.alloc (.cells #[.int .i64 0,.int .i64 0,.int .i64 0,.slice none 0 0] 36):=⟨_,rfl⟩
 have hb2:Below W1.heap.size W1 W2:=by rw[hW2];exact newAlloc _ _
 have HZ0:Hid (∀W,Below W2.heap.size W2 W->(W.cell? ⟨w.heap.size+1,0,none⟩=some (.int .i64 0)/\W.cell? ⟨w.heap.size+1,1,none⟩=some (.int .i64 0)/\W.cell? ⟨w.heap.size+1,2,none⟩=some (.int .i64 0)/\W.cell? ⟨w.heap.size+1,3,none⟩=some (.slice none 0 0))/\ ∀k,W.frozen? ⟨w.heap.size+1,k,none⟩=false):=hid fun W hb=>by
  rw[<-hs1]
  rw[hW2] at hb
  exact⟨box4 hb,free4k hb⟩
 have HX0:=hid (hB1.later hb2)
 have HB2:=hid (step hb1 hb2)
 have hs2:W2.heap.size=w.heap.size+2:=by rw[hW2];simp [hs1]
 have KF:=hid (SesFind_any x.sv x.S c W2 (h.later HB2.out).s)
 have KH:=hid (fun W (hb:Below w.heap.size w W)=>LckHeld_own x.kv x.K c W x.token (h.later hb).k hg hc)
 have hlt1:w.heap.size+1<W2.heap.size:=by omega
 obtain⟨nb,hnb⟩: ∃nb,w.heap.size=nb:=⟨_,rfl⟩
 have HNB:=hid hnb
 rw[hnb] at HX0 HZ0 hlt1
 clear hnb h hg hc hb1 hb2 hB1 hs1 hs2
 obtain⟨xt,xn,xk,xS,sa,sc,xK,ka,kc,xM,ma,mc⟩:=x
 unfold stVal tellA toldA onlyA StC.v
 simp only[StC.sv,StC.kv,StC.mv] at hW1 KF KH ⊢
 generalize findS xS c=fr at KF ⊢
 obtain⟨⟨fc,fn,fe⟩,fb⟩:=fr
 generalize heldK (vals xK) c=H at KH ⊢
 obtain⟨c0,c1,c2,c3,c4,c5,cf⟩:=HX0.out
 simp only[StC.sv,StC.kv,StC.mv] at c0 c1 c2 c3 c4 c5
 unfold GetsTold
 dsimp only
 go_enter Tryz.func116,Tryz.ntmps116
 go_upto_region 1 with fail
 rw[<-hW1,<-hW2]
 rw[HNB.out]
 clear hW1 hW2
 go_upto_region 2 with (go_at_call 117;refine KF.out.mono ?_;rintro e w3 ⟨rfl,hb3⟩;unfold sesVal;dsimp only;have HB3:=hid hb3;clear hb3)
 obtain⟨W4,hW4⟩: ∃W4,W4=w3.alloc (.cells #[.int .i64 fc,.int .i64 fn,.int .i64 fe] 46):=⟨_,rfl⟩
 have HB24:Hid (Below W2.heap.size W2 W4):=hid (by rw[hW4];exact stepAlloc HB3.out _)
 have HB4:=hid (step HB2.out HB24.out)
 have HY4:Hid (∀W,Below W4.heap.size W4 W->W.cell? ⟨w3.heap.size,1,none⟩=some (.int .i64 fn)):=hid (fun W hb=>by rw[hW4] at hb;exact(box3s hb).2.1)
 have hne3:nb+1≠w3.heap.size:=by have:=HB3.out.size;omega
 rw[<-hW4]
 clear hW4 c0 c1 c2 c3 c4 c5 cf
 have HZ4:=hid (fun W (hb:Below W4.heap.size W4 W)=>HZ0.out W (step HB24.out hb))
 have HQ:Hid (∀W,Below W4.heap.size W4 W->W.cell? ⟨w3.heap.size,1,none⟩=some (.int .i64 fn)/\W.cell? ⟨nb,4,none⟩=some (.slice ka xK.length kc)):=hid fun W hb=>⟨HY4.out W hb,(HX0.out.later (step HB24.out hb)).c4⟩
 have HQS:Hid (∀W v0 v1 v2 v3,Below W4.heap.size W4 W->((((W.setCell ⟨nb+1,0,none⟩ v0).setCell ⟨nb+1,1,none⟩ v1).setCell ⟨nb+1,2,none⟩ v2).setCell ⟨nb+1,3,none⟩ v3).cell? ⟨w3.heap.size,1,none⟩=some (.int .i64 fn)/\((((W.setCell ⟨nb+1,0,none⟩ v0).setCell ⟨nb+1,1,none⟩ v1).setCell ⟨nb+1,2,none⟩ v2).setCell ⟨nb+1,3,none⟩ v3).cell? ⟨nb,4,none⟩=some (.slice ka xK.length kc)):=hid fun W v0 v1 v2 v3 hb=>by
  obtain⟨q1,q2⟩:=HQ.out W hb
  have n1:w3.heap.size≠nb+1:=fun q=>hne3 q.symm
  exact⟨by simp [go_sem,n1,q1],by simp [go_sem,q2]⟩
 cases fb with
 | false=>
  obtain⟨z0,z1,z2,z3⟩:=(HZ4.out _ (Below.refl _ _)).1
  have zf:=(HZ4.out _ (Below.refl _ _)).2
  have HBE:=hid (set4k HB4.out (nb+1) (by have:=HNB.out;omega) (.int .i64 code) (.int .i64 0) (.int .i64 0) (.slice none 0 0))
  go_wp2
  refine bodyPost_ret (by simp [results,Tryz.results116,go_sem,z0,z1,z2,z3,zf]<;>rfl) rfl ?_
  exact⟨none,0,rfl,World.ownsRow_nil _ _ _ _,HBE.out⟩
 | true=>
  go_upto_region 4 with fail
  refine wp_region_held_drew (S:=(fun W=>W.cell? ⟨w3.heap.size,1,none⟩=some (.int .i64 fn)/\W.cell? ⟨nb,4,none⟩=some (.slice ka xK.length kc))) (by kernel_rfl) (HQ.out _ (Below.refl _ _).drew) (fun hHeld=>?_)
  refine wpAnyH_take (i:=0) (v:=?_) rfl (by kernel_rfl) (by kernel_rfl) (by kernel_rfl) (fun _ _ _ h=>h) (Or.inl ⟨by rfl,?_⟩) (by assumption) ?_
  rotate_left
  ·intro w hSw;(try dsimp only at hSw);go_simp<;>with_reducible rfl
  try simp only[Act.put,getElem_toArray,getElem_cons_zero,setIfInBounds_toArray,set_cons_zero,set_cons_succ]
  refine wpAnyH_take (i:=1) (v:=?_) rfl (by kernel_rfl) (by kernel_rfl) (by kernel_rfl) (fun _ _ _ h=>h) (Or.inl ⟨by rfl,?_⟩) (by assumption) ?_
  rotate_left
  ·intro w hSw;(try dsimp only at hSw);go_simp<;>with_reducible rfl
  try simp only[Act.put,getElem_toArray,getElem_cons_succ,getElem_cons_zero,setIfInBounds_toArray,set_cons_zero,set_cons_succ]
  refine wpAnyH_take (i:=2) (v:=?_) rfl (by kernel_rfl) (by kernel_rfl) (by kernel_rfl) (fun _ _ _ h=>h) (Or.inl ⟨by rfl,?_⟩) (by assumption) ?_
  rotate_left
  ·intro w hSw;(try dsimp only at hSw);go_simp<;>with_reducible rfl
  try simp only[Act.put,getElem_toArray,getElem_cons_succ,getElem_cons_zero,setIfInBounds_toArray,set_cons_zero,set_cons_succ]
  refine wpAnyH_take (i:=3) (v:=?_) rfl (by kernel_rfl) (by kernel_rfl) (by kernel_rfl) (fun _ _ _ h=>h) (Or.inl ⟨by rfl,?_⟩) (by assumption) ?_
  rotate_left
  ·intro w hSw;(try dsimp only at hSw);go_simp<;>with_reducible rfl
  try simp only[Act.put,getElem_toArray,getElem_cons_succ,getElem_cons_zero,setIfInBounds_toArray,set_cons_zero,set_cons_succ]
  refine wpAnyH_take (i:=4) (v:=?_) rfl (by kernel_rfl) (by kernel_rfl) (by kernel_rfl) (fun _ _ _ h=>h) (Or.inl ⟨by rfl,?_⟩) (by assumption) ?_
  rotate_left
  ·intro w hSw;(try dsimp only at hSw);go_simp<;>with_reducible rfl
  try simp only[Act.put,getElem_toArray,getElem_cons_succ,getElem_cons_zero,setIfInBounds_toArray,set_cons_zero,set_cons_succ]
  refine wpAnyH_take (i:=5) (v:=?_) rfl (by kernel_rfl) (by kernel_rfl) (by kernel_rfl) (fun _ _ _ h=>h) (Or.inl ⟨by rfl,?_⟩) (by assumption) ?_
  rotate_left
  ·intro w hSw;(try dsimp only at hSw);go_simp<;>with_reducible rfl
  try simp only[Act.put,getElem_toArray,getElem_cons_succ,getElem_cons_zero,setIfInBounds_toArray,set_cons_zero,set_cons_succ]
  refine wpAnyH_take (i:=6) (v:=?_) rfl (by kernel_rfl) (by kernel_rfl) (by kernel_rfl) (fun _ _ _ h=>h) (Or.inl ⟨by rfl,?_⟩) (by assumption) ?_
  rotate_left
  ·intro w hSw;(try dsimp only at hSw);go_simp<;>with_reducible rfl
  try simp only[Act.put,getElem_toArray,getElem_cons_succ,getElem_cons_zero,setIfInBounds_toArray,set_cons_zero,set_cons_succ]
  refine wpAnyH_ready (rs:= [7]) (by kernel_rfl) (by simp) ?_
  refine AllReadyH.cons rfl (fun K hK=>?_) AllReadyH.nil
  go_simp
  go_at_call 165
  refine(KH.out _ (step HB4.out (Below.refl _ W4).drew)).mono ?_
  rintro e w5 ⟨a5,p5,rfl,ho5,hb5⟩
  have HO5:=hid ho5
  have HB5:Hid (Below W4.heap.size W4 w5):=hid (step (Below.refl W4.heap.size W4).drew hb5)
  obtain⟨z0,z1,z2,z3⟩:=(HZ4.out _ HB5.out).1
  have zf:=(HZ4.out _ HB5.out).2
  clear ho5 hb5
  refine hK.out _ _ (HQ.out _ HB5.out) (fun hHeld=>?_)
  clear hK K
  try simp only[Act.put,getElem_toArray,getElem_cons_succ,getElem_cons_zero,setIfInBounds_toArray,set_cons_zero,set_cons_succ]
  refine wpAnyH_take (i:=8) (v:=?_) rfl (by kernel_rfl) (by kernel_rfl) (by kernel_rfl) (fun _ _ _ h=>h) (Or.inl ⟨by rfl,?_⟩) (by assumption) ?_
  rotate_left
  ·intro w hSw;(try dsimp only at hSw);go_simp<;>with_reducible rfl
  try simp only[Act.put,getElem_toArray,getElem_cons_succ,getElem_cons_zero,setIfInBounds_toArray,set_cons_zero,set_cons_succ]
  refine wpAnyH_ready (rs:= [9]) (by kernel_rfl) (by simp) ?_
  refine AllReadyH.cons rfl (fun K hK=>?_) AllReadyH.nil
  go_simp
  refine hK.out _ _ (HQS.out _ _ _ _ _ HB5.out) (fun hHeld=>?_)
  clear hK K
  try simp only[Act.put,getElem_toArray,getElem_cons_succ,getElem_cons_zero,setIfInBounds_toArray,set_cons_zero,set_cons_succ]
  refine wpAnyH_done (by kernel_rfl) ?_ _
  have hlt4:nb+1<W4.drew.heap.size:=Nat.lt_of_lt_of_le hlt1 HB24.out.size
  have HE:=hid (own_lowerX (own_set4z HO5.out hlt4 (.int .i64 code) (.int .i64 fn) (.int .i64 ahead) (.slice a5 H.length p5)) (show w.heap.size<=W4.drew.heap.size from HB4.out.size))
  have HBE:=hid (set4k (step HB4.out HB5.out) (nb+1) (by have:=HNB.out;omega) (.int .i64 code) (.int .i64 fn) (.int .i64 ahead) (.slice a5 H.length p5))
  go_wp2
  refine bodyPost_ret (by simp [results,Tryz.results116,go_sem,z0,z1,z2,z3,zf]<;>rfl) rfl ?_
  exact⟨a5,p5,rfl,HE.out,HBE.out⟩
end Cm
end Go.Proofs.YtclcgkpfcogcdaaGreat

/- Who is due, what a renewal, an opening, a closing change: plain facts of lists of sessions. No program is named here. -/
set_option linter.unusedVariables false
set_option maxRecDepth 8000
set_option linter.unusedSimpArgs false
namespace Go.Proofs.YtclcgkpfcogcdaaGreat
open Lib (hid)
open Go.RowKit
namespace Cm

theorem same_client {l:List SesV} (hu:l.Pairwise fun a b=>a.client<b.client): ∀a∈l,∀b∈l,a.client=b.client->a=b:=by
 induction l with
 | nil=>intro a ha;cases ha
 | cons x l ih=>
  obtain⟨h1,h2⟩:=List.pairwise_cons.1 hu
  intro a ha b hb e
  rcases List.mem_cons.1 ha with e1 | ha'
  ·rcases List.mem_cons.1 hb with e2 | hb'
   ·rw[e1,e2]
   ·rw[e1] at e
    have:=h1 b hb';omega
  ·rcases List.mem_cons.1 hb with e2 | hb'
   ·rw[e2] at e
    have:=h1 a ha';omega
   ·exact ih h2 a ha' b hb' e
theorem right_up {l:List SesV} (h:rightS l=true):l.Pairwise fun a b=>a.client<b.client:=((rightS_iff l).1 h).2.up
end Cm
end Go.Proofs.YtclcgkpfcogcdaaGreat

/- What is done to right states leaves them right; what package auto does, step by step, is what the document says. Pure. -/
set_option linter.unusedVariables false
set_option maxRecDepth 8000
set_option linter.unusedSimpArgs false
namespace Go.Proofs.YtclcgkpfcogcdaaGreat
open Lib (hid)
open Go.RowKit
namespace Cm

theorem find_map (c t:Int): ∀(l:List SesV) (d:Int),(findS (l.map (renewE c t)) d).2=(findS l d).2/\(findS (l.map (renewE c t)) d).1.num =(findS l d).1.num /\(findS (l.map (renewE c t)) d).1.client =(findS l d).1.client
 | [],d=>⟨rfl,rfl,rfl⟩
 | s::l,d=>by
  rw[List.map_cons,findS,findS,(renewE_keeps c t s).1]
  split
  ·exact⟨rfl,(renewE_keeps c t s).2,(renewE_keeps c t s).1⟩
  ·exact find_map c t l d
theorem Rst.high {s:StV} (h:Rst s):highF s.time 0=true:=by
 have:=h.time
 unfold highF
 simp;omega
theorem renewed_ses {s:StV} (h:Rst s) {c:Int} (hf:(findS s.ses c).2=true):(renewS s.ses c s.time).1=s.ses.map (renewE c s.time):=by
 unfold renewS
 rw[if_neg (by rw[h.high];simp),if_neg (by rw[hf];simp)]
theorem Rst.renewed {s:StV} (h:Rst s) {c:Int} (hf:(findS s.ses c).2=true):Rst (renewedA s c):=by
 have e:=renewed_ses h hf
 refine⟨h.time,h.num,h.token,?_,h.good,h.memos,?_,?_⟩
 ·refine renewS_right s.ses c s.time h.ses ?_
  unfold renewS
  rw[if_neg (by rw[h.high];simp),if_neg (by rw[hf];simp)]
 ·intro x hx
  have hx':x∈(renewS s.ses c s.time).1:=hx
  rw[e] at hx'
  obtain⟨y,hy,rfl⟩:=List.mem_map.1 hx'
  rw[(renewE_keeps c s.time y).2]
  exact h.nums y hy
 ·refine h.has.imp fun d hd=>?_
  show(findS (renewS s.ses c s.time).1 d).2=true
  rw[e,(find_map c s.time s.ses d).1]
  exact hd
theorem Rst.client {s:StV} (h:Rst s) {c:Int} (hf:(findS s.ses c).2=true):clientF c=true:=by
 obtain⟨x,hx,e⟩:=(findS_some s.ses c).1 hf
 have:=((rightS_iff s.ses).1 h.ses).2.one x hx
 unfold oneS at this
 simp only[Bool.and_eq_true] at this
 rw[<-e]
 exact this.1.1
theorem Rst.opened {s:StV} (h:Rst s) {c:Int} (hn:s.num<2305843009213693952) (ho:(openS s.ses c (s.num+1) s.time).2=0):Rst (openedA s c):=by
 have hr:=openS_right s.ses c (s.num+1) s.time h.ses ho
 have e:(openS s.ses c (s.num+1) s.time).1=putS ⟨c,s.num+1,s.time⟩ s.ses:=by
  unfold openS at ho ⊢
  split
  ·rename_i q;rw[if_pos q] at ho;cases ho
  ·rename_i q
   rw[if_neg q] at ho
   split
   ·rename_i q;rw[if_pos q] at ho;cases ho
   ·rename_i q
    rw[if_neg q] at ho
    split
    ·rename_i q;rw[if_pos q] at ho;cases ho
    ·rename_i q
     rw[if_neg q] at ho
     split
     ·rename_i q;rw[if_pos q] at ho;cases ho
     ·rfl
 have hnum:=h.num
 refine⟨h.time,⟨by show(0:Int)<=s.num+1;omega,by show s.num+1<=_;omega⟩,h.token,hr,h.good,h.memos,?_,?_⟩
 ·intro x hx
  have hx':x∈(openS s.ses c (s.num+1) s.time).1:=hx
  rw[e,putS_mem] at hx'
  show x.num<=s.num+1
  rcases hx' with q | q
  ·rw[q];exact Int.le_refl _
  ·have:=h.nums x q;omega
 ·refine h.has.imp fun d hd=>?_
  show(findS (openS s.ses c (s.num+1) s.time).1 d).2=true
  obtain⟨x,hx,e2⟩:=(findS_some _ _).1 hd
  rw[e]
  exact(findS_some _ _).2 ⟨x,(putS_mem _ _ _).2 (.inr hx),e2⟩
theorem Rst.taken {s:StV} (h:Rst s) {n:List UInt8} {c:Int} (wt:Bool) (hn:nameF n=true) (hc:hasA s c=true) (ht:s.token<2305843009213693900):Rst (takenA s n c wt)/\s.token<=(takenA s n c wt).token /\(takenA s n c wt).token <=s.token+1:=by
 obtain⟨g0,g10⟩:=good_take h.good n c wt hn (h.client hc) (by omega)
 have hi:=in_take h.has n c s.token wt hc
 unfold takenA
 by_cases e0:(takeK s.locks n c s.token wt).2.2=0
 ·rw[if_pos e0,if_pos (.inl e0)]
  refine⟨⟨h.time,h.num,by show s.token+1<=_;omega,h.ses,g0 e0,h.memos,h.nums,hi⟩,by show s.token<=s.token+1;omega,Int.le_refl _⟩
 ·rw[if_neg e0]
  by_cases e1:(takeK s.locks n c s.token wt).2.2=10
  ·rw[if_pos (.inr e1)]
   exact⟨⟨h.time,h.num,h.token,h.ses,g10 e1,h.memos,h.nums,hi⟩,Int.le_refl _,by show s.token<=s.token+1;omega⟩
  ·rw[if_neg (fun q=>q.elim e0 e1)]
   exact⟨⟨h.time,h.num,h.token,h.ses,h.good,h.memos,h.nums,h.has⟩,Int.le_refl _,by show s.token<=s.token+1;omega⟩
theorem free_le1 (l:List LockV) (n:List UInt8) (c t:Int):0<=(freeK l n c t).2.1/\(freeK l n c t).2.1<=1:=free_givenA l n c t
theorem Rst.freed {s:StV} (h:Rst s) (n:List UInt8) (c:Int) (ht:s.token<2305843009213693900):Rst (freedA s n c)/\s.token<=(freedA s n c).token /\(freedA s n c).token <=s.token+1:=by
 have g0:=good_free h.good n c (by omega)
 have hi:=in_free h.has n c s.token
 obtain⟨b0,b1⟩:=free_le1 s.locks n c s.token
 unfold freedA
 by_cases e0:(freeK s.locks n c s.token).2.2=0
 ·rw[if_pos e0,if_pos e0]
  refine⟨⟨h.time,h.num,by show s.token+_<=_;omega,h.ses,g0 e0,h.memos,h.nums,hi⟩,by show s.token<=s.token+_;omega,by show s.token+_<=s.token+1;omega⟩
 ·rw[if_neg e0,if_neg e0]
  exact⟨⟨h.time,h.num,h.token,h.ses,h.good,h.memos,h.nums,h.has⟩,Int.le_refl _,by show s.token<=s.token+1;omega⟩
structure Next (s t:StV):Prop where
 right:Rst t
 tok:s.token<=t.token/\t.token<=s.token+4
 num:s.num<=t.num/\t.num<=s.num+1
 time:t.time=s.time
theorem Next.refl {s:StV} (h:Rst s):Next s s:=⟨h,⟨by omega,by omega⟩,⟨by omega,by omega⟩,rfl⟩
theorem mayF_name {m:CmdV} (h:mayF m=true) (hk:m.kind=3\/m.kind=4\/m.kind=5):nameF m.name=true:=by
 unfold mayF at h
 rw[if_neg (by omega),if_neg (by omega),if_pos hk] at h
 simp only[Bool.and_eq_true] at h
 exact h.2
theorem has_renewed {s:StV} (h:Rst s) {c:Int} (hf:(findS s.ses c).2=true) (d:Int):hasA (renewedA s c) d=hasA s d:=by
 show(findS (renewS s.ses c s.time).1 d).2=(findS s.ses d).2
 rw[renewed_ses h hf,(find_map c s.time s.ses d).1]
theorem does_next {s:StV} (h:Rst s) {r:ReqV} (hm:mayF r.cmd=true) (hn:s.num<2305843009213693900) (ht:s.token<2305843009213693900):Next s (doesA s r).1:=by
 unfold doesA
 split
 ·unfold openA
  split
  ·exact Next.refl h
  ·split
   ·rename_i ho
    exact⟨h.opened (by omega) ho,⟨by show s.token<=s.token;omega,by show s.token<=_;omega⟩,⟨by show s.num<=s.num+1;omega,Int.le_refl _⟩,rfl⟩
   ·exact Next.refl h
 ·split
  ·exact Next.refl h
  ·rename_i hq
   have hf:(findS s.ses r.client).2=true:=by
    cases q:(findS s.ses r.client).2 with
    | true=>rfl
    | false=>exact absurd (.inl q) hq
   have h2:=h.renewed hf
   have ht2:(renewedA s r.client).token <2305843009213693900:=ht
   unfold cmdA
   split
   ·rename_i hk
    obtain⟨p1,p2,p3⟩:=h2.taken (decide (r.cmd.kind=3)) (mayF_name hm (by omega)) (c:=r.client) (by rw[has_renewed h hf];exact hf) ht2
    exact⟨p1,⟨p2,Int.le_trans p3 (by show s.token+1<=s.token+4;omega)⟩,⟨by show s.num<=s.num;omega,by show s.num<=_;omega⟩,rfl⟩
   ·split
    ·obtain⟨p1,p2,p3⟩:=h2.freed r.cmd.name r.client ht2
     exact⟨p1,⟨p2,Int.le_trans p3 (by show s.token+1<=s.token+4;omega)⟩,⟨by show s.num<=s.num;omega,by show s.num<=_;omega⟩,rfl⟩
    ·split
     ·obtain⟨p1,p2,p3⟩:=dropA_right h2 [r.client] ht2
      exact⟨p1,⟨p2,p3⟩,⟨by show s.num<=s.num;omega,by show s.num<=_;omega⟩,rfl⟩
     ·exact⟨h2,⟨by show s.token<=s.token;omega,by show s.token<=_;omega⟩,⟨by show s.num<=s.num;omega,by show s.num<=_;omega⟩,rfl⟩
theorem does_rep (s:StV) (r:ReqV):(doesA s r).2.held = []\/(doesA s r).2.held =heldK (doesA s r).1.locks r.client:=by
 unfold doesA
 split
 ·unfold openA
  split
  ·exact .inr rfl
  ·split
   ·exact .inr rfl
   ·exact .inl rfl
 ·split
  ·exact .inl rfl
  ·unfold cmdA
   split
   ·exact .inr rfl
   ·split
    ·exact .inr rfl
    ·split
     ·exact .inl rfl
     ·exact .inr rfl
theorem does_held {s:StV} (h:Rst s) {r:ReqV} (hm:mayF r.cmd=true) (hn:s.num<2305843009213693900) (ht:s.token<2305843009213693900):(doesA s r).2.held.length <=1000:=by
 rcases does_rep s r with q | q
 ·rw[q];exact Nat.zero_le _
 ·rw[q]
  have:=(does_next h hm hn ht).right.good.len
  exact Nat.le_trans (heldK_length _ _) (by omega)
theorem keptA_right {t:StV} (h:Rst t) (a:AnsV):Rst (keptA t a):=⟨h.time,h.num,h.token,h.ses,h.good,h.memos.keep a,h.nums,h.has⟩
theorem apply_next {s:StV} (h:Rst s) (r:ReqV) (hn:s.num<2305843009213693900) (ht:s.token<2305843009213693900):Next s (applyA s r).1:=by
 unfold applyA
 split
 ·exact Next.refl h
 ·split
  ·exact Next.refl h
  ·split
   ·exact Next.refl h
   ·rename_i hm _ _
    have hm:mayR r=true:=by simpa using hm
    have:=does_next h (mayR_bounds r hm).2.2 hn ht
    exact⟨keptA_right this.right _,this.tok,this.num,this.time⟩
/-! ### Package auto's way -/
def execB (s:StV) (c:Int) (m:CmdV):StV × ReplyV:=
 if m.kind=3\/m.kind=4 then ((take1 s c m.name (decide (m.kind=3))).1,tellA (take1 s c m.name (decide (m.kind=3))).1 c (take1 s c m.name (decide (m.kind=3))).2.1 (take1 s c m.name (decide (m.kind=3))).2.2) else
 if m.kind=5 then ((free1 s c m.name).1,tellA (free1 s c m.name).1 c 0 (free1 s c m.name).2) else
 if m.kind=6 then (dropA s [c],tellA (dropA s [c]) c 0 0) else (s,tellA s c 0 0)
def execA (s:StV) (c:Int) (m:CmdV):StV × ReplyV:=
 if m.kind=1 then ((open1 s c).1,tellA (open1 s c).1 c 0 (open1 s c).2) else
 if (findS s.ses c).2=false\/(findS s.ses c).1.num ≠m.session then (s,onlyA 9) else execB (renewedA s c) c m
theorem tell_has {s:StV} {c:Int} (h:hasA s c=true) (a k:Int):tellA s c a k=toldA s c k a:=by
 unfold tellA
 rw[if_neg]
 intro q
 unfold hasA at h
 rw[h] at q
 cases q
theorem tell_not {s:StV} {c:Int} (h:hasA s c=false) (a k:Int):tellA s c a k=onlyA k:=by
 unfold tellA
 exact if_pos h
theorem open1_has {s:StV} (h:Rst s) {c:Int} (hn:s.num<2305843009213693952) (hf:(findS s.ses c).2=true):(openS s.ses c (s.num+1) s.time).2=7:=by
 have hh:=h.num
 unfold openS
 rw[if_neg (by rw[h.client hf,h.high,high_next s.num hh.1 hn];simp),if_neg,if_pos hf]
 rw[Bool.not_eq_true,takenS_none]
 intro x hx e
 have:=h.nums x hx
 omega
theorem open1_not {s:StV} (h:Rst s) {c:Int} (hn:s.num<2305843009213693952) (hc:clientF c=true) (hf:(findS s.ses c).2=false):openS s.ses c (s.num+1) s.time=if 5<=s.ses.length then ([],5) else (putS ⟨c,s.num+1,s.time⟩ s.ses,0):=by
 have hh:=h.num
 unfold openS
 rw[if_neg (by rw[hc,h.high,high_next s.num hh.1 hn];simp),if_neg,if_neg (by rw[hf];simp)]
 rw[Bool.not_eq_true,takenS_none]
 intro x hx e
 have:=h.nums x hx
 omega
theorem exec_eq {s:StV} (h:Rst s) (r:ReqV) (hc:clientF r.client=true) (hn:s.num<2305843009213693952):execA s r.client r.cmd=doesA s r:=by
 unfold execA doesA
 split
 ·unfold openA
  cases hf:(findS s.ses r.client).2 with
  | true=>
   have e:open1 s r.client=(s,7):=by unfold open1;rw[open1_has h hn hf,if_neg (by decide)]
   rw[e,if_pos rfl]
   dsimp only
   rw[tell_has hf]
  | false=>
   rw[if_neg (show ¬(false=true) by simp)]
   by_cases h5:5<=s.ses.length
   ·have e:(openS s.ses r.client (s.num+1) s.time).2=5:=by rw[open1_not h hn hc hf,if_pos h5]
    have e1:open1 s r.client=(s,5):=by unfold open1;rw[e,if_neg (by decide)]
    rw[e,e1,if_neg (by decide)]
    dsimp only
    rw[tell_not hf]
   ·have e:openS s.ses r.client (s.num+1) s.time=(putS ⟨r.client,s.num+1,s.time⟩ s.ses,0):=by rw[open1_not h hn hc hf,if_neg h5]
    have e2:(openS s.ses r.client (s.num+1) s.time).2=0:=by rw[e]
    have e1:open1 s r.client=(openedA s r.client,0):=by unfold open1;rw[e2,if_pos rfl]
    rw[e1,if_pos e2]
    dsimp only
    rw[tell_has]
    show(findS (openS s.ses r.client (s.num+1) s.time).1 r.client).2=true
    rw[e]
    exact(findS_some _ _).2 ⟨_,(putS_mem _ _ _).2 (.inl rfl),rfl⟩
 ·split
  ·rfl
  ·rename_i hq
   have hf:(findS s.ses r.client).2=true:=by
    cases q:(findS s.ses r.client).2 with
    | true=>rfl
    | false=>exact absurd (.inl q) hq
   have hr:hasA (renewedA s r.client) r.client=true:=by rw[has_renewed h hf];exact hf
   unfold execB cmdA
   split
   ·unfold take1
    dsimp only
    rw[tell_has (by exact hr)]
   ·split
    ·unfold free1
     dsimp only
     rw[tell_has (by exact hr)]
    ·split
     ·rw[tell_not]
      show(findS (closeAll (renewedA s r.client).ses [r.client]) r.client).2=false
      rw[closeAll_eq,findS_none]
      intro x hx e
      have:=(List.mem_filter.1 hx).2
      rw[e] at this
      simp [hasL] at this
     ·rw[tell_has hr]
end Cm
end Go.Proofs.YtclcgkpfcogcdaaGreat
