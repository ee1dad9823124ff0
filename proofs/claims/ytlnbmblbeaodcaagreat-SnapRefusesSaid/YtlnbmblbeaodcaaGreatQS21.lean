/- Texts laid together by program. -/
import Derived.Test.YtlnbmblbeaodcaaGreatQS20
/- Contracts: package reply's getGrant, getHeld, Get. -/
set_option linter.unusedVariables false
set_option maxRecDepth 8000
set_option linter.unusedSimpArgs false
namespace Go.Proofs.YtlnbmblbeaodcaaGreat
open Lib (hid)
open Go.RowKit
namespace Cm

def grantF (n:List UInt8) (e5 x t6 e6:Int):GrantV × Int × Int:=if e5≠0 then (⟨[],0⟩,0,e5) else if e6≠0 then (⟨[],0⟩,0,e6) else (⟨n,x⟩,t6,0)
def GetsG (r:GrantV × Int × Int) (w:World) (e:Ending) (w':World):Prop:=
 e= .returned (.tuple #[.agg #[.string (bstr r.1.name),.int .i64 r.1.token],.int .i64 r.2.1,.int .i64 r.2.2])/\Below w.heap.size w w'
theorem free2 {w w':World} {x y:Value} {t:TypeId} (h:Below (w.alloc (.cells #[x,y] t)).heap.size (w.alloc (.cells #[x,y] t)) w'):
  ∀k,w'.frozen? ⟨w.heap.size,k,none⟩=false:=by
 intro k
 have hl:w.heap.size<(w.alloc (.cells #[x,y] t)).heap.size :=by simp
 rw[h.frozen (p:=⟨w.heap.size,k,none⟩) hl]
 simp [go_sem]
theorem set2 {w w1:World} (h:Below w.heap.size w w1) (x y:Value):Below w.heap.size w ((w1.setCell ⟨w.heap.size,0,none⟩ x).setCell ⟨w.heap.size,1,none⟩ y):=
 (h.setCell (Nat.le_refl _) _).setCell (Nat.le_refl _) _
theorem getGrant_any (v:Value) (bs:List UInt8) (t:Int) (w:World) (h:Rd w v bs) (ht:t<=9223372036854775807) {n:List UInt8} {t5 e5 x t6 e6:Int} (hS:textOf bs t 12=(n,t5,e5)) (hM:numOf bs t5=(x,t6,e6)):
  Calls Tryz.prog 242 #[v,.int .i64 t] w (GetsG (grantF n e5 x t6 e6) w):=by
 have hlen:=Rd.len_le h
 unfold maxLen at hlen
 have b5:t5<=bs.length:=by have:=textOf_le bs t 12;rw[hS] at this;exact this
 have C1:Hid (∀w',Below w.heap.size w w'->Calls Tryz.prog 228 #[v,.int .i64 t,.int .i64 12] w' (TextTold (n,t5,e5) w')):=fun w' hb=>by rw[<-hS];exact Text_any v bs t 12 w' (h.later hb) ht
 have C2:Hid (∀w',Below w.heap.size w w'->Calls Tryz.prog 188 #[v,.int .i64 t5] w' (Three (x,t6,e6) w')):=fun w' hb=>by rw[<-hM];exact Num_any v bs t5 w' (h.later hb) (by omega)
 unfold grantF
 clear h hS hM b5 hlen ht
 by_cases z1:e5≠0
 ·have d1:(e5==0)=false:=by simpa using z1
  rw[if_pos z1]
  go_enter Tryz.func242,Tryz.ntmps242
  go_wp2_with (go_at_call 228;refine(C1.out _ (newAlloc _ _)).mono ?_;rintro e w1 ⟨rfl,hb1⟩;have B1:=step (newAlloc w _) hb1;obtain⟨c0,c1⟩:=box2 hb1;have f0:=free2 hb1)
  refine bodyPost_ret (by simp [results,Tryz.results242,go_sem,c0,c1]<;>rfl) rfl ⟨rfl,set2 B1 _ _⟩
 rw[if_neg z1]
 obtain rfl:e5=0:=by omega
 clear z1
 by_cases z2:e6≠0
 ·have d1:(e6==0)=false:=by simpa using z2
  rw[if_pos z2]
  go_enter Tryz.func242,Tryz.ntmps242
  go_wp2_with (first
   | (go_at_call 228;refine(C1.out _ (newAlloc _ _)).mono ?_;rintro e w1 ⟨rfl,hb1⟩;have B1:=step (newAlloc w _) hb1;obtain⟨c0,c1⟩:=box2 hb1;have f0:=free2 hb1)
   | (go_at_call 188;refine(C2.out _ B1).mono ?_;rintro e w2 ⟨rfl,hb2⟩;have B2:=step B1 hb2;have hb2:=step hb1 hb2;obtain⟨c0,c1⟩:=box2 hb2;have f0:=free2 hb2))
  refine bodyPost_ret (by simp [results,Tryz.results242,go_sem,c0,c1]<;>rfl) rfl ⟨rfl,set2 B2 _ _⟩
 rw[if_neg z2]
 obtain rfl:e6=0:=by omega
 clear z2
 go_enter Tryz.func242,Tryz.ntmps242
 go_wp2_with (first
  | (go_at_call 228;refine(C1.out _ (newAlloc _ _)).mono ?_;rintro e w1 ⟨rfl,hb1⟩;have B1:=step (newAlloc w _) hb1;obtain⟨c0,c1⟩:=box2 hb1;have f0:=free2 hb1)
  | (go_at_call 188;refine(C2.out _ B1).mono ?_;rintro e w2 ⟨rfl,hb2⟩;have B2:=step B1 hb2;have hb2:=step hb1 hb2;obtain⟨c0,c1⟩:=box2 hb2;have f0:=free2 hb2))
 refine bodyPost_ret (by simp [results,Tryz.results242,go_sem,c0,c1]<;>rfl) rfl ⟨rfl,set2 B2 _ _⟩
def heldF (bs:List UInt8) (t:Int):List GrantV × Int × Int:=
 if (byteOf bs t).2.2≠0 then ([],0,(byteOf bs t).2.2) else if 4<(byteOf bs t).1 then ([],0,4) else getHeld bs (byteOf bs t).1.toNat (byteOf bs t).2.1
theorem getHeld_err (bs:List UInt8): ∀(m:Nat) (T:Int),(getHeld bs m T).2.2≠0->getHeld bs m T=([],0,(getHeld bs m T).2.2):=by
 intro m
 cases m with
 | zero=>intro T h;exact absurd rfl h
 | succ m=>
  intro T h
  rw[getHeld_succ] at h ⊢
  split
  ·rfl
  ·split
   ·rfl
   ·split
    ·rfl
    ·rename_i q1 q2 q3
     rw[if_neg q1,if_neg q2,if_neg q3] at h
     exact absurd rfl h
def finH (bs:List UInt8) (G:List GrantV) (T:Int) (m:Nat):List GrantV × Int × Int:=
 if (getHeld bs m T).2.2≠0 then ([],0,(getHeld bs m T).2.2) else (G++(getHeld bs m T).1,(getHeld bs m T).2.1,0)
theorem finH_nil (bs:List UInt8) (T:Int) (m:Nat):getHeld bs m T=finH bs [] T m:=by
 unfold finH
 by_cases h:(getHeld bs m T).2.2≠0
 ·rw[if_pos h]
  exact getHeld_err bs m T h
 ·rw[if_neg h,List.nil_append]
  have:(getHeld bs m T).2.2=0:=by omega
  rw[<-this]
theorem finH_zero (bs:List UInt8) (G:List GrantV) (T:Int):finH bs G T 0=(G,T,0):=by
 unfold finH
 rw[show getHeld bs 0 T=([],T,0) from rfl]
 simp
theorem finH_bad (bs:List UInt8) (G:List GrantV) (T:Int) (m:Nat) {n:List UInt8} {t x u e f:Int} {g:GrantV} {p c:Int} (h:textOf bs T 12=(n,t,e)) (h2:numOf bs t=(x,u,f)) (hg:grantF n e x u f=(g,p,c)) (hc:c≠0):finH bs G T (m+1)=([],0,c):=by
 unfold finH
 rw[getHeld_succ,h]
 dsimp only
 rw[h2]
 unfold grantF at hg
 by_cases z1:e≠0
 ·rw[if_pos z1] at hg
  cases hg
  simp [z1]
 ·rw[if_neg z1] at hg
  by_cases z2:f≠0
  ·rw[if_pos z2] at hg
   cases hg
   simp [z1,z2]
  ·rw[if_neg z2] at hg
   cases hg
   exact absurd rfl hc
theorem finH_good (bs:List UInt8) (G:List GrantV) (T:Int) (m:Nat) {n:List UInt8} {t x u e f:Int} {g:GrantV} {p:Int} (h:textOf bs T 12=(n,t,e)) (h2:numOf bs t=(x,u,f)) (hg:grantF n e x u f=(g,p,0)):finH bs G T (m+1)=finH bs (G++ [g]) p m:=by
 unfold grantF at hg
 by_cases z1:e≠0
 ·rw[if_pos z1] at hg
  cases hg
  exact absurd rfl z1
 ·rw[if_neg z1] at hg
  by_cases z2:f≠0
  ·rw[if_pos z2] at hg
   cases hg
   exact absurd rfl z2
  ·rw[if_neg z2] at hg
   cases hg
   obtain rfl:e=0:=by omega
   obtain rfl:f=0:=by omega
   unfold finH
   rw[getHeld_step _ _ _ _ _ _ _ h h2]
   by_cases q:(getHeld bs m u).2.2≠0
   ·rw[if_pos q,if_pos q]
    simp [q]
   ·rw[if_neg q,if_neg q]
    simp
def GetsH (r:List GrantV × Int × Int) (w:World) (e:Ending) (w':World):Prop:=
 ∃v,e= .returned (.tuple #[v,.int .i64 r.2.1,.int .i64 r.2.2])/\w'.ownsRow w.heap.size 141 2 v r.1.length (gCells r.1)/\Below w.heap.size w w'
theorem GetsH.empty {w w':World} {e:Ending} {c:Int} (he:e= .returned (.tuple #[.slice none 0 0,.int .i64 0,.int .i64 c])) (hb:Below w.heap.size w w'):GetsH ([],0,c) w e w':=
 ⟨.slice none 0 0,he,World.ownsRow_nil _ _ _ _,hb⟩
theorem cells_set2 {w0 w1:World} {b:Nat} {x y x' y':Value} {t:TypeId} (h:w1.heap[b]?=some (.cells #[x,y] t)):((w1.setCell ⟨b,0,none⟩ x').setCell ⟨b,1,none⟩ y').heap[b]?=some (.cells #[x',y'] t):=by
 have hl:=get_lt h
 have h':w1.heap[b]= .cells #[x,y] t:=by simpa [hl] using h
 simp [World.setCell,h',hl,Array.getElem_modify]
theorem own_set2 {w1:World} {b base n:Nat} {e:TypeId} {v:Value} {xs:List Value} (h:w1.ownsRow base e 2 v n xs) (hb: ∀g,v.ownBlock=some g->g≠b) (x y:Value):((w1.setCell ⟨b,0,none⟩ x).setCell ⟨b,1,none⟩ y).ownsRow base e 2 v n xs:=by
 refine Rw.own_keep h fun g hg=>?_
 have h1:=hb g hg
 rw[Below.heap_setCell _ _ _ _ (by show g≠b;exact h1),Below.heap_setCell _ _ _ _ (by show g≠b;exact h1)]
theorem own_apart {w1:World} {base n:Nat} {e:TypeId} {v:Value} {xs:List Value} (h:w1.ownsRow base e 2 v n xs): ∀g,v.ownBlock=some g->g≠w1.heap.size:=fun g hg=>by
 have:=(Rw.own_lt h g hg).2
 omega
set_option maxHeartbeats 4000000 in
theorem getHeld_any (v:Value) (bs:List UInt8) (t:Int) (w:World) (h:Rd w v bs) (ht:t<=9223372036854775807):
  Calls Tryz.prog 240 #[v,.int .i64 t] w (GetsH (heldF bs t) w):=by
 have hlen:=Rd.len_le h
 unfold maxLen at hlen
 rcases hC:byteOf bs t with ⟨n,t4,e4⟩
 have b4:t4<=bs.length:=by have:=byteOf_le bs t;rw[hC] at this;exact this
 have hn0:0<=n:=by have:=byteOf_pos bs t;rw[hC] at this;exact this
 have C1:Hid (∀w',Below w.heap.size w w'->Calls Tryz.prog 227 #[v,.int .i64 t] w' (Three (n,t4,e4) w')):=fun w' hb=>by rw[<-hC];exact Byte_any v bs t w' (h.later hb) ht
 have CG:Hid (∀T n u e x p f,T<=(bs.length:Int)->textOf bs T 12=(n,u,e)->numOf bs u=(x,p,f)-> ∀w',Below w.heap.size w w'->Calls Tryz.prog 242 #[v,.int .i64 T] w' (GetsG (grantF n e x p f) w')):=fun T n u e x p f hT h1 h2 w' hb=>getGrant_any v bs T w' (h.later hb) (by omega) h1 h2
 unfold heldF
 rw[hC]
 dsimp only
 clear h hC ht
 by_cases z1:e4≠0
 ·have d1:(e4==0)=false:=by simpa using z1
  rw[if_pos z1]
  clear CG
  go_enter Tryz.func240,Tryz.ntmps240
  go_wp2_with (go_at_call 227;refine(C1.out _ (Below.refl _ _)).mono ?_;rintro e w1 ⟨rfl,hb1⟩)
  go_ret3
  exact GetsH.empty rfl hb1
 rw[if_neg z1]
 obtain rfl:e4=0:=by omega
 clear z1
 by_cases z5:4<n
 ·have d1:decide (4<n)=true:=decide_eq_true z5
  rw[if_pos z5]
  clear CG
  go_enter Tryz.func240,Tryz.ntmps240
  go_wp2_with (go_at_call 227;refine(C1.out _ (Below.refl _ _)).mono ?_;rintro e w1 ⟨rfl,hb1⟩)
  go_ret3
  exact GetsH.empty rfl hb1
 rw[if_neg z5]
 obtain⟨N,rfl⟩:=Int.eq_ofNat_of_zero_le hn0
 have d1:decide (4<(N:Int))=false:=decide_eq_false z5
 rw[Int.toNat_natCast,finH_nil]
 have hN4:N<=4:=by omega
 obtain⟨i0,hi,hz0,hz1,hz2⟩:=info_parts info49
 go_enter Tryz.func240,Tryz.ntmps240
 go_wp2_with (go_at_call 227;refine(C1.out _ (Below.refl _ _)).mono ?_;rintro e w1 ⟨rfl,hb1⟩)
 have HB1:=hid hb1
 clear hb1 C1 d1 hn0 z5
 go_loopw [1,9,24] (fun x s i wr=> ∃(j:Nat) (T:Int) (G:List GrantV),j<=N/\i= .int .i64 (j:Int)/\x= .int .i64 T/\G.length=j/\T<=(bs.length:Int)/\Hid (wr.ownsRow w.heap.size 141 2 s G.length (gCells G))/\Hid (Below w.heap.size w wr)/\Hid (finH bs [] t4 N=finH bs G T (N - j))) (fun _ _ i _=>N - (intOf i).toNat)
 case atStart=>exact⟨0,t4,[],by omega,rfl,rfl,rfl,b4,hid (World.ownsRow_nil _ _ _ _),HB1,hid rfl⟩
 case round=>
  obtain⟨j,T,G,hj,rfl,rfl,hGl,hT,HO,HB,HF⟩:=hrel
  by_cases hlt:j<N
  ·obtain⟨m,hm⟩: ∃m,N - j=m+1:=⟨N - j - 1,by omega⟩
   rcases hS:textOf bs T 12 with ⟨n5,t5,e5⟩
   rcases hM:numOf bs t5 with ⟨n6,t6,e6⟩
   have b6:t6<=bs.length:=by have:=numOf_le bs t5;rw[hM] at this;exact this
   have C5:=hid (CG.out T n5 t5 e5 n6 t6 e6 hT hS hM)
   rcases hgr:grantF n5 e5 n6 t6 e6 with ⟨⟨gn,gt⟩,p,c⟩
   have bp:p<=bs.length:=by
    unfold grantF at hgr
    split at hgr
    ·cases hgr;omega
    ·split at hgr
     ·cases hgr;omega
     ·cases hgr;omega
   rw[hgr] at C5
   unfold GetsG at C5
   dsimp only at C5
   have HF2:=HF.out
   rw[hm] at HF2
   have HBA:=hid (stepAlloc HB.out (.cells #[.string ⟨#[]⟩,.int .i64 0] 141))
   have HOA:=hid (Rw.own_below HO.out (newAlloc wr (.cells #[.string ⟨#[]⟩,.int .i64 0] 141)))
   have HNE:=hid (own_apart HO.out)
   have hBS:=HB.out.size
   by_cases z6:c≠0
   ·have d6:(c==0)=false:=by simpa using z6
    rw[finH_bad bs G T m hS hM hgr z6] at HF2
    have HF:=hid HF2
    clear HF2 hS hM hgr z6 CG
    go_wp2_with (go_at_call 242;refine(C5.out _ HBA.out).mono ?_;rintro e w5 ⟨rfl,hb5⟩;obtain⟨c0,c1⟩:=box2 hb5;have f0:=free2 hb5;have HB5:=hid (step HBA.out hb5))
    rw[HF.out]
    go_ret3
    exact GetsH.empty rfl ((HB5.out.setCell hBS _).setCell hBS _)
   obtain rfl:c=0:=by omega
   rw[finH_good bs G T m hS hM hgr] at HF2
   have HF:=hid HF2
   clear HF2 hS hM hgr z6 CG
   go_upto_region 11 with (go_at_call 242;refine(C5.out _ HBA.out).mono ?_;rintro e w5 ⟨rfl,hb5⟩;obtain⟨c0,c1⟩:=box2 hb5;have f0:=free2 hb5;have HB5:=hid (step HBA.out hb5))
   have hblk:w5.heap[wr.heap.size]?=some (.cells #[.string ⟨#[]⟩,.int .i64 0] 141):=(hb5.block _ (by simp)).trans (alloc_at _ _)
   have HB6:=hid ((HB5.out.setCell (p:=⟨wr.heap.size,0,none⟩) hBS (.string (bstr gn))).setCell (p:=⟨wr.heap.size,1,none⟩) hBS (.int .i64 gt))
   have HO6:=hid (own_set2 (Rw.own_below HOA.out hb5) HNE.out (.string (bstr gn)) (.int .i64 gt))
   have hk:=cells_set2 (w0:=w) (x':=.string (bstr gn)) (y':=.int .i64 gt) hblk
   generalize (w5.setCell ⟨wr.heap.size,0,none⟩ (.string (bstr gn))).setCell ⟨wr.heap.size,1,none⟩ (.int .i64 gt)=w6 at HB6 HO6 hk ⊢
   have g0:w6.cell? ⟨wr.heap.size,0,none⟩=some (.string (bstr gn)):=by simp [World.cell?,hk]
   have g1:w6.cell? ⟨wr.heap.size,1,none⟩=some (.int .i64 gt):=by simp [World.cell?,hk]
   have HZ6:=HB6.out.size
   have HO7:=hid (Rw.own_below HO6.out (newAlloc w6 (.cells #[.string (bstr gn),.int .i64 gt] 141)))
   clear c0 c1 f0 hk hblk hb5
   go_wp2_with (at_builtin;refine wpList_append_own_at (w6.alloc (.cells #[.string (bstr gn),.int .i64 gt] 141)) rfl (.tmp 36) (.tmp 38) 34 rfl w.heap.size 141 i0 _ 2 24 Tryz.underlying34 hi hz0 hz1 hz2 rfl (by omega) _ G.length _ rfl HO7.out ⟨w6.heap.size,0,none⟩ 1 1 [.string (bstr gn),.int .i64 gt] rfl rfl (World.news_of_block (cs:=#[.string (bstr gn),.int .i64 gt]) (t:=141) (fr:=(0,0)) (by show(w6.heap.push _)[w6.heap.size]?= _;simp)) (by simp [Value.oneCell']) (by unfold maxLen;omega) (by omega) (by simp;omega) ?_;intro v8 w8 hown8 hgrow8 _ _)
   have HB8:=hid ((HB6.out.alloc HZ6 (.cells #[.string (bstr gn),.int .i64 gt] 141)).grown hgrow8 (by simp;omega) (fun k hk=>(HO7.out.lt k hk).1))
   have ho8:w8.ownsRow w.heap.size 141 2 v8 (G++ [(⟨gn,gt⟩:GrantV)]).length (gCells (G++ [(⟨gn,gt⟩:GrantV)])):=by
    rw[List.length_append,gCells_snoc]
    exact hown8
   have HO8:=hid ho8
   clear ho8 hown8 hgrow8
   refine⟨⟨j+1,p,G++ [⟨gn,gt⟩],by omega,by go_num,rfl,by simp [hGl],bp,HO8,HB8,?_⟩,by simp [intOf];omega⟩
   rw[show N - (j+1)=m by omega]
   exact HF
  ·obtain rfl:j=N:=by omega
   have HF2:=HF.out
   rw[Nat.sub_self,finH_zero] at HF2
   have HF:=hid HF2
   clear HF2
   go_wp2
   go_ret3
   rw[HF.out]
   exact⟨_,rfl,HO.out,HB.out⟩
theorem getP_held (bs:List UInt8) (t:Int) {k t1 e1 s t2 e2 a t3 e3 u c:Int} {H:List GrantV} (h1:byteOf bs t=(k,t1,e1)) (h2:numOf bs t1=(s,t2,e2)) (h3:byteOf bs t2=(a,t3,e3)) (h4:heldF bs t3=(H,u,c)):
  getP bs t=if e1≠0 then (zeroP,0,e1) else if e2≠0 then (zeroP,0,e2) else if e3≠0 then (zeroP,0,e3) else if c≠0 then (zeroP,0,c) else if mayP ⟨k,s,a,H⟩ then (⟨k,s,a,H⟩,u,0) else (zeroP,0,4):=by
 rcases hC:byteOf bs t3 with ⟨n,t4,e4⟩
 rw[getP_told bs t h1 h2 h3 hC]
 unfold heldF at h4
 rw[hC] at h4
 dsimp only at h4
 by_cases z1:e1≠0
 ·rw[if_pos z1,if_pos z1]
 rw[if_neg z1,if_neg z1]
 by_cases z2:e2≠0
 ·rw[if_pos z2,if_pos z2]
 rw[if_neg z2,if_neg z2]
 by_cases z3:e3≠0
 ·rw[if_pos z3,if_pos z3]
 rw[if_neg z3,if_neg z3]
 by_cases z4:e4≠0
 ·rw[if_pos z4] at h4 ⊢
  cases h4
  rw[if_pos z4]
 rw[if_neg z4] at h4 ⊢
 by_cases z5:4<n
 ·rw[if_pos z5] at h4 ⊢
  cases h4
  rfl
 rw[if_neg z5] at h4 ⊢
 unfold finP
 rw[h4]
 simp only[List.nil_append]
theorem own_set4 {w w1:World} {base n:Nat} {e:TypeId} {v:Value} {xs:List Value} (h:w1.ownsRow base e 2 v n xs) (hb:w.heap.size<base) (x y z u:Value):
  ((((w1.setCell ⟨w.heap.size,0,none⟩ x).setCell ⟨w.heap.size,1,none⟩ y).setCell ⟨w.heap.size,2,none⟩ z).setCell ⟨w.heap.size,3,none⟩ u).ownsRow base e 2 v n xs:=by
 refine Rw.own_keep h fun g hg=>?_
 have h1:=(Rw.own_lt h g hg).1
 rw[Below.heap_setCell _ _ _ _ (by show g≠w.heap.size;omega),Below.heap_setCell _ _ _ _ (by show g≠w.heap.size;omega),Below.heap_setCell _ _ _ _ (by show g≠w.heap.size;omega),Below.heap_setCell _ _ _ _ (by show g≠w.heap.size;omega)]
set_option maxHeartbeats 8000000 in
theorem RepGet_any (v:Value) (bs:List UInt8) (t:Int) (w:World) (h:Rd w v bs) (ht:t<=9223372036854775807):
  Calls Tryz.prog 229 #[v,.int .i64 t] w (GetsP (getP bs t) w):=by
 have hlen:=Rd.len_le h
 unfold maxLen at hlen
 rcases hB:byteOf bs t with ⟨k,t1,e1⟩
 rcases hN:numOf bs t1 with ⟨s,t2,e2⟩
 rcases hD:byteOf bs t2 with ⟨d,t3,e3⟩
 rcases hH:heldF bs t3 with ⟨H,u,c⟩
 have b1:t1<=bs.length:=by have:=byteOf_le bs t;rw[hB] at this;exact this
 have b2:t2<=bs.length:=by have:=numOf_le bs t1;rw[hN] at this;exact this
 have b3:t3<=bs.length:=by have:=byteOf_le bs t2;rw[hD] at this;exact this
 have C1:Hid (∀w',Below w.heap.size w w'->Calls Tryz.prog 227 #[v,.int .i64 t] w' (Three (k,t1,e1) w')):=fun w' hb=>by rw[<-hB];exact Byte_any v bs t w' (h.later hb) ht
 have C2:Hid (∀w',Below w.heap.size w w'->Calls Tryz.prog 188 #[v,.int .i64 t1] w' (Three (s,t2,e2) w')):=fun w' hb=>by rw[<-hN];exact Num_any v bs t1 w' (h.later hb) (by omega)
 have C3:Hid (∀w',Below w.heap.size w w'->Calls Tryz.prog 227 #[v,.int .i64 t2] w' (Three (d,t3,e3) w')):=fun w' hb=>by rw[<-hD];exact Byte_any v bs t2 w' (h.later hb) (by omega)
 have C4:Hid (∀w',Below w.heap.size w w'->Calls Tryz.prog 240 #[v,.int .i64 t3] w' (fun e w''=> ∃a p,e= .returned (.tuple #[.slice a H.length p,.int .i64 u,.int .i64 c])/\w''.ownsRow w'.heap.size 141 2 (.slice a H.length p) H.length (gCells H)/\Below w'.heap.size w' w'')):=fun w' hb=>by
  have:=getHeld_any v bs t3 w' (h.later hb) (by omega)
  rw[hH] at this
  refine this.mono fun e w'' q=>?_
  obtain⟨x,q1,q2,q3⟩:=q
  obtain⟨a,p,rfl⟩:=Rw.own_form q2
  exact⟨a,p,q1,q2,q3⟩
 have C5:Hid (∀x w',RdH w' x H->Calls Tryz.prog 154 #[repVal ⟨k,s,d,H⟩ x] w' (SaysB (mayP ⟨k,s,d,H⟩) w')):=fun x w' hx=>RepMay_any _ x w' hx
 unfold repVal at C5
 dsimp only at C5
 rw[getP_held bs t hB hN hD hH]
 clear h hB hN hD hH b1 b2 b3 ht
 by_cases z1:e1≠0
 ·have d1:(e1==0)=false:=by simpa using z1
  rw[if_pos z1]
  go_enter Tryz.func229,Tryz.ntmps229
  go_wp2_with (first
   | (go_at_call 227;refine(C1.out _ (newAlloc _ _)).mono ?_;rintro e w1 ⟨rfl,hb1⟩;have B1:=step (newAlloc w _) hb1;obtain⟨c0,c1,c2,c3⟩:=box4 hb1;have f0:=free4 hb1))
  refine bodyPost_ret (by simp [results,Tryz.results229,go_sem,c0,c1,c2,c3]<;>rfl) rfl (GetsP.zeroed rfl (set4 B1 _ _ _ _))
 rw[if_neg z1]
 obtain rfl:e1=0:=by omega
 clear z1
 by_cases z2:e2≠0
 ·have d1:(e2==0)=false:=by simpa using z2
  rw[if_pos z2]
  go_enter Tryz.func229,Tryz.ntmps229
  go_wp2_with (first
   | (go_at_call 227;refine(C1.out _ (newAlloc _ _)).mono ?_;rintro e w1 ⟨rfl,hb1⟩;have B1:=step (newAlloc w _) hb1;obtain⟨c0,c1,c2,c3⟩:=box4 hb1;have f0:=free4 hb1)
   | (go_at_call 188;refine(C2.out _ B1).mono ?_;rintro e w2 ⟨rfl,hb2⟩;have B2:=step B1 hb2;have hb2:=step hb1 hb2;obtain⟨c0,c1,c2,c3⟩:=box4 hb2;have f0:=free4 hb2))
  refine bodyPost_ret (by simp [results,Tryz.results229,go_sem,c0,c1,c2,c3]<;>rfl) rfl (GetsP.zeroed rfl (set4 B2 _ _ _ _))
 rw[if_neg z2]
 obtain rfl:e2=0:=by omega
 clear z2
 by_cases z3:e3≠0
 ·have d1:(e3==0)=false:=by simpa using z3
  rw[if_pos z3]
  go_enter Tryz.func229,Tryz.ntmps229
  go_wp2_with (first
   | (go_at_call 227;refine(C3.out _ B2).mono ?_;rintro e w3 ⟨rfl,hb3⟩;have B3:=step B2 hb3;have hb3:=step hb2 hb3;obtain⟨c0,c1,c2,c3⟩:=box4 hb3;have f0:=free4 hb3)
   | (go_at_call 227;refine(C1.out _ (newAlloc _ _)).mono ?_;rintro e w1 ⟨rfl,hb1⟩;have B1:=step (newAlloc w _) hb1;obtain⟨c0,c1,c2,c3⟩:=box4 hb1;have f0:=free4 hb1)
   | (go_at_call 188;refine(C2.out _ B1).mono ?_;rintro e w2 ⟨rfl,hb2⟩;have B2:=step B1 hb2;have hb2:=step hb1 hb2;obtain⟨c0,c1,c2,c3⟩:=box4 hb2;have f0:=free4 hb2))
  refine bodyPost_ret (by simp [results,Tryz.results229,go_sem,c0,c1,c2,c3]<;>rfl) rfl (GetsP.zeroed rfl (set4 B3 _ _ _ _))
 rw[if_neg z3]
 obtain rfl:e3=0:=by omega
 clear z3
 by_cases z4:c≠0
 ·have d1:(c==0)=false:=by simpa using z4
  rw[if_pos z4]
  go_enter Tryz.func229,Tryz.ntmps229
  go_wp2_with (first
   | (go_at_call 227;refine(C3.out _ B2).mono ?_;rintro e w3 ⟨rfl,hb3⟩;have B3:=step B2 hb3;have hb3:=step hb2 hb3;obtain⟨c0,c1,c2,c3⟩:=box4 hb3;have f0:=free4 hb3)
   | (go_at_call 227;refine(C1.out _ (newAlloc _ _)).mono ?_;rintro e w1 ⟨rfl,hb1⟩;have B1:=step (newAlloc w _) hb1;obtain⟨c0,c1,c2,c3⟩:=box4 hb1;have f0:=free4 hb1)
   | (go_at_call 188;refine(C2.out _ B1).mono ?_;rintro e w2 ⟨rfl,hb2⟩;have B2:=step B1 hb2;have hb2:=step hb1 hb2;obtain⟨c0,c1,c2,c3⟩:=box4 hb2;have f0:=free4 hb2)
   | (go_at_call 240;refine(C4.out _ B3).mono ?_;rintro e w4 ⟨a4,p4,rfl,ho4,hb4⟩;have HO4:=hid ho4;have HR4:=hid (RdH.own ho4);clear ho4;have B4:=step B3 hb4;have hb4:=step hb3 hb4;obtain⟨c0,c1,c2,c3⟩:=box4 hb4;have f0:=free4 hb4))
  refine bodyPost_ret (by simp [results,Tryz.results229,go_sem,c0,c1,c2,c3]<;>rfl) rfl (GetsP.zeroed rfl (set4 B4 _ _ _ _))
 rw[if_neg z4]
 obtain rfl:c=0:=by omega
 clear z4
 cases hm:mayP ⟨k,s,d,H⟩
 ·have HM:=hid hm
  clear hm
  go_enter Tryz.func229,Tryz.ntmps229
  go_wp2_with (first
   | (go_at_call 154;refine(C5.out _ _ (HR4.out.later (newAlloc _ _))).mono ?_;rw[HM.out];rintro e w5 ⟨rfl,hb5⟩;have B5:=step (stepAlloc B4 _) hb5;obtain⟨g0,g1,g2,g3⟩:=box4 hb5;have hb5':=step (newAlloc _ _) hb5;have hb5:=step (stepAlloc hb4 _) hb5;obtain⟨c0,c1,c2,c3⟩:=box4 hb5;have f0:=free4 hb5)
   | (go_at_call 227;refine(C3.out _ B2).mono ?_;rintro e w3 ⟨rfl,hb3⟩;have B3:=step B2 hb3;have hb3:=step hb2 hb3;obtain⟨c0,c1,c2,c3⟩:=box4 hb3;have f0:=free4 hb3)
   | (go_at_call 240;refine(C4.out _ B3).mono ?_;rintro e w4 ⟨a4,p4,rfl,ho4,hb4⟩;have HO4:=hid ho4;have HR4:=hid (RdH.own ho4);clear ho4;have B4:=step B3 hb4;have hb4:=step hb3 hb4;obtain⟨c0,c1,c2,c3⟩:=box4 hb4;have f0:=free4 hb4)
   | (go_at_call 227;refine(C1.out _ (newAlloc _ _)).mono ?_;rintro e w1 ⟨rfl,hb1⟩;have B1:=step (newAlloc w _) hb1;obtain⟨c0,c1,c2,c3⟩:=box4 hb1;have f0:=free4 hb1)
   | (go_at_call 188;refine(C2.out _ B1).mono ?_;rintro e w2 ⟨rfl,hb2⟩;have B2:=step B1 hb2;have hb2:=step hb1 hb2;obtain⟨c0,c1,c2,c3⟩:=box4 hb2;have f0:=free4 hb2))
  refine bodyPost_ret (by simp [results,Tryz.results229,go_sem,c0,c1,c2,c3]<;>rfl) rfl (GetsP.zeroed rfl (set4 B5 _ _ _ _))
 ·have HM:=hid hm
  clear hm
  go_enter Tryz.func229,Tryz.ntmps229
  go_wp2_with (first
   | (go_at_call 154;refine(C5.out _ _ (HR4.out.later (newAlloc _ _))).mono ?_;rw[HM.out];rintro e w5 ⟨rfl,hb5⟩;have B5:=step (stepAlloc B4 _) hb5;obtain⟨g0,g1,g2,g3⟩:=box4 hb5;have hb5':=step (newAlloc _ _) hb5;have hb5:=step (stepAlloc hb4 _) hb5;obtain⟨c0,c1,c2,c3⟩:=box4 hb5;have f0:=free4 hb5)
   | (go_at_call 227;refine(C3.out _ B2).mono ?_;rintro e w3 ⟨rfl,hb3⟩;have B3:=step B2 hb3;have hb3:=step hb2 hb3;obtain⟨c0,c1,c2,c3⟩:=box4 hb3;have f0:=free4 hb3)
   | (go_at_call 240;refine(C4.out _ B3).mono ?_;rintro e w4 ⟨a4,p4,rfl,ho4,hb4⟩;have HO4:=hid ho4;have HR4:=hid (RdH.own ho4);clear ho4;have B4:=step B3 hb4;have hb4:=step hb3 hb4;obtain⟨c0,c1,c2,c3⟩:=box4 hb4;have f0:=free4 hb4)
   | (go_at_call 227;refine(C1.out _ (newAlloc _ _)).mono ?_;rintro e w1 ⟨rfl,hb1⟩;have B1:=step (newAlloc w _) hb1;obtain⟨c0,c1,c2,c3⟩:=box4 hb1;have f0:=free4 hb1)
   | (go_at_call 188;refine(C2.out _ B1).mono ?_;rintro e w2 ⟨rfl,hb2⟩;have B2:=step B1 hb2;have hb2:=step hb1 hb2;obtain⟨c0,c1,c2,c3⟩:=box4 hb2;have f0:=free4 hb2))
  have ho9:=Rw.own_below HO4.out hb5'
  have hlo:w.heap.size+1<=w3.heap.size:=by have:=hb3.size;simp at this;omega
  refine bodyPost_ret (by simp [results,Tryz.results229,go_sem,c0,c1,c2,c3]<;>rfl) rfl ⟨_,rfl,own_lower (own_set4 ho9 hlo _ _ _ _) hlo,set4 B5 _ _ _ _⟩
end Cm
end Go.Proofs.YtlnbmblbeaodcaaGreat
