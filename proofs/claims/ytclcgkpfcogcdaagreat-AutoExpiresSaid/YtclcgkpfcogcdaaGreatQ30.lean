/- Texts laid together by program. -/
import Derived.Test.YtclcgkpfcogcdaaGreatQ18
import Derived.Test.YtclcgkpfcogcdaaGreatQ29
import Derived.Deep.RegionHeld3
/- Right states stay right, as plain facts. -/
set_option linter.unusedVariables false
set_option maxRecDepth 8000
set_option linter.unusedSimpArgs false
namespace Go.Proofs.YtclcgkpfcogcdaaGreat
open Lib (hid)
open Go.RowKit
namespace Cm

/-! ### Who is there -/
theorem closeE_eq (l:List SesV) (c:Int):closeE l c=l.filter fun s=> !decide (s.client=c):=by
 unfold closeE closeS
 by_cases h:(findS l c).2=false
 ·rw[if_pos h,if_neg (by simp)]
  rw[findS_none] at h
  exact(List.filter_eq_self.2 fun s hs=>by simpa using h s hs).symm
 ·rw[if_neg h,if_pos rfl]
theorem closeAll_eq (G:List Int): ∀l:List SesV,closeAll l G=l.filter fun s=> !hasL G s.client:=by
 induction G with
 | nil=>intro l;exact(List.filter_eq_self.2 fun s hs=>rfl).symm
 | cons c G ih=>
  intro l
  show closeAll (closeE l c) G= _
  rw[ih,closeE_eq,List.filter_filter]
  congr 1
  funext s
  unfold hasL
  rw[List.any_cons]
  by_cases q:s.client=c
  ·rw[decide_eq_true q,decide_eq_true q.symm];simp
  ·rw[decide_eq_false q,decide_eq_false (fun e=>q e.symm)];simp
theorem findS_some (l:List SesV) (c:Int):(findS l c).2=true ↔ ∃s∈l,s.client=c:=by
 cases h:(findS l c).2 with
 | false=>
  rw[findS_none] at h
  constructor
  ·intro q;cases q
  ·rintro ⟨s,hs,e⟩;exact absurd e (h s hs)
 | true=>
  refine⟨fun _=>?_,fun _=>rfl⟩
  apply Decidable.byContradiction
  intro q
  have:(findS l c).2=false:=(findS_none l c).2 fun s hs e=>q ⟨s,hs,e⟩
  rw[h] at this
  cases this
theorem find_in {l:List SesV} {c:Int} (h:(findS l c).2=true):(findS l c).1∈l/\(findS l c).1.client =c:=by
 induction l with
 | nil=>simp [findS] at h
 | cons s l ih=>
  rw[findS] at h ⊢
  split
  ·rename_i q
   exact⟨List.mem_cons_self,q⟩
  ·rename_i q
   rw[if_neg q] at h
   exact⟨List.mem_cons_of_mem _ (ih h).1,(ih h).2⟩
theorem close_rs {l:List SesV} (h:rightS l=true) (p:SesV->Bool):rightS (l.filter p)=true:=by
 obtain⟨h1,h2⟩:=(rightS_iff l).1 h
 refine(rightS_iff _).2 ⟨Nat.le_trans (List.length_filter_le _ _) h1,⟨fun s hs=>h2.one s (List.mem_filter.1 hs).1,h2.up.filter p,h2.num.filter p⟩⟩
/-! ### Who holds, who waits -/
def InL (P:Int->Prop) (l:List LockV):Prop:= ∀k∈l,P k.holder/\ ∀c∈k.line,P c
theorem InL.imp {P Q:Int->Prop} {l:List LockV} (h:InL P l) (hq: ∀c,P c->Q c):InL Q l:=fun k hk=>⟨hq _ (h k hk).1,fun c hc=>hq _ ((h k hk).2 c hc)⟩
theorem InL.sub {P:Int->Prop} {l m:List LockV} (h:InL P l) (hs: ∀k∈m,k∈l):InL P m:=fun k hk=>h k (hs k hk)
theorem InL.set {P:Int->Prop} {l:List LockV} (h:InL P l) (i:Nat) (k:LockV) (hk:P k.holder/\ ∀c∈k.line,P c):InL P (l.set i k):=fun x hx=>by
 rcases List.mem_or_eq_of_mem_set hx with q | q
 ·exact h x q
 ·rw[q];exact hk
theorem getK_in {l:List LockV} {n:List UInt8} (h: ¬idxI (isNm n) l<0):getK l (idxI (isNm n) l)∈l:=by
 obtain⟨k,hk,e,_⟩:=idx_some n l h
 rw[e]
 unfold getK
 rw[Int.toNat_natCast,List.getD_eq_getElem?_getD,List.getElem?_eq_getElem hk,Option.getD_some]
 exact List.getElem_mem hk
theorem in_take {P:Int->Prop} {l:List LockV} (h:InL P l) (n:List UInt8) (c t:Int) (wt:Bool) (hc:P c):InL P (takeK l n c t wt).1:=by
 unfold takeK
 split
 ·split
  ·exact fun k hk=>by cases hk
  ·intro k hk
   rcases (putK_mem _ l k).1 hk with q | q
   ·rw[q];exact⟨hc,fun x hx=>by cases hx⟩
   ·exact h k q
 ·rename_i hi
  have hg:=h _ (getK_in hi)
  split
  ·exact fun k hk=>by cases hk
  ·split
   ·exact fun k hk=>by cases hk
   ·split
    ·exact h
    ·split
     ·exact fun k hk=>by cases hk
     ·refine h.set _ _ ⟨hg.1,fun x hx=>?_⟩
      rcases List.mem_append.1 hx with q | q
      ·exact hg.2 x q
      ·rw[List.mem_singleton] at q;rw[q];exact hc
theorem headD_in {l:List Int} (h:l≠ []):l.headD 0∈l:=by
 cases l with
 | nil=>exact absurd rfl h
 | cons x l=>exact List.mem_cons_self
theorem in_free {P:Int->Prop} {l:List LockV} (h:InL P l) (n:List UInt8) (c t:Int):InL P (freeK l n c t).1:=by
 unfold freeK
 split
 ·exact fun k hk=>by cases hk
 ·rename_i hi
  have hg:=h _ (getK_in hi)
  split
  ·split
   ·exact fun k hk=>by cases hk
   ·exact h.set _ _ ⟨hg.1,fun x hx=>hg.2 x (List.mem_filter.1 hx).1⟩
  ·split
   ·exact h.sub fun k hk=>by
     rcases List.mem_append.1 hk with q | q
     ·exact List.mem_of_mem_take q
     ·exact List.mem_of_mem_drop q
   ·rename_i hl
    exact h.set _ _ ⟨hg.2 _ (headD_in hl),fun x hx=>hg.2 x (List.mem_of_mem_drop hx)⟩
theorem in_drop {P:Int->Prop} (G:List Int): ∀(l:List LockV) (t:Int),InL P l->InL (fun c=>P c/\hasL G c=false) (dropK G l t).1
 | [],t,_=>by
  rw[dropK]
  exact fun k hk=>by cases hk
 | k::l,t,h=>by
  have hk:=h k List.mem_cons_self
  have hl:InL P l:=fun x hx=>h x (List.mem_cons_of_mem _ hx)
  have hline: ∀c∈(leftK G k).line,P c/\hasL G c=false:=fun c hc=>by
   have:c∈k.line/\(!hasL G c)=true:=List.mem_filter.1 hc
   exact⟨hk.2 c this.1,by simpa using this.2⟩
  rw[dropK]
  split
  ·rename_i q
   intro x hx
   rcases List.mem_cons.1 hx with e | e
   ·rw[e];exact⟨⟨hk.1,q⟩,hline⟩
   ·exact in_drop G l t hl x e
  ·split
   ·exact in_drop G l t hl
   ·rename_i q
    intro x hx
    rcases List.mem_cons.1 hx with e | e
    ·rw[e];exact⟨hline _ (headD_in q),fun c hc=>hline c (List.mem_of_mem_drop hc)⟩
    ·exact in_drop G l (t+1) hl x e
/-! ### Right states -/
structure Rst (s:StV):Prop where
 time:0<=s.time/\s.time<=2305843009213693952
 num:0<=s.num/\s.num<=2305843009213693952
 token:s.token<=2305843009213693952
 ses:rightS s.ses=true
 good:Good s.locks s.token
 memos:Rm s.memos
 nums: ∀x∈s.ses,x.num<=s.num
 has:InL (fun c=>hasA s c=true) s.locks
theorem Rst.zero:Rst zeroSt:=⟨by decide,by decide,by decide,rfl,Good.nil,Rm.nil,(fun x hx=>by cases hx),fun k hk=>by cases hk⟩
theorem rightA_iff (s:StV):rightA s=true ↔ Rst s:=by
 unfold rightA highF
 simp only[Bool.and_eq_true,decide_eq_true_eq,List.all_eq_true]
 constructor
 ·rintro ⟨⟨h1,h2,h3,h4,h5,h6⟩,h7,h8⟩
  obtain⟨g1,g2⟩:=(rightK_iff _).1 h5
  refine⟨h1,h2,h3.2,h4,⟨g2,g1,fun k hk=>?_,h3.1⟩,(rightM_iff _).1 h6,h7,fun k hk=>?_⟩
  ·have:=h8 k hk
   unfold fitA at this
   simp only[Bool.and_eq_true,decide_eq_true_eq] at this
   exact this.2.1
  ·have:=h8 k hk
   unfold fitA at this
   simp only[Bool.and_eq_true,decide_eq_true_eq,List.all_eq_true] at this
   exact⟨this.1,this.2.2⟩
 ·intro h
  refine⟨⟨h.time,h.num,⟨h.good.pos,h.token⟩,h.ses,h.good.right,(rightM_iff _).2 h.memos⟩,h.nums,fun k hk=>?_⟩
  unfold fitA
  simp only[Bool.and_eq_true,decide_eq_true_eq,List.all_eq_true]
  exact⟨(h.has k hk).1,h.good.tok k hk,(h.has k hk).2⟩
theorem dropA_right {s:StV} (h:Rst s) (G:List Int) (ht:s.token<2305843009213693900):Rst (dropA s G)/\s.token<=(dropA s G).token /\(dropA s G).token <=s.token+4:=by
 have hg:=good_drop h.good G ht
 have hc:=dropK_count G s.locks s.token
 have hl:=h.good.len
 refine⟨⟨h.time,h.num,?_,?_,hg,h.memos,?_,?_⟩,?_,?_⟩
 ·show s.token+(dropK G s.locks s.token).2<=_
  omega
 ·show rightS (closeAll s.ses G)=true
  rw[closeAll_eq]
  exact close_rs h.ses _
 ·intro x hx
  have hx':x∈closeAll s.ses G:=hx
  rw[closeAll_eq] at hx'
  exact h.nums x (List.mem_filter.1 hx').1
 ·refine(in_drop G s.locks s.token h.has).imp fun c hc=>?_
  obtain⟨h1,h2⟩:=hc
  show(findS (closeAll s.ses G) c).2=true
  rw[closeAll_eq]
  obtain⟨x,hx,e⟩:=(findS_some _ _).1 h1
  exact(findS_some _ _).2 ⟨x,List.mem_filter.2 ⟨hx,by rw[e,h2];rfl⟩,e⟩
 ·show s.token<=s.token+(dropK G s.locks s.token).2
  omega
 ·show s.token+(dropK G s.locks s.token).2<=_
  omega
theorem advA_right {s:StV} (h:Rst s) (t d:Int) (ht:s.token<2305843009213693900):Rst (advA s t d)/\s.token<=(advA s t d).token /\(advA s t d).token <=s.token+4:=by
 have h2:Rst ⟨timeA s t,s.num,s.token,s.ses,s.locks,s.memos⟩:=⟨by
  have:=h.time
  unfold timeA
  split
  ·dsimp only;omega
  ·exact this,h.num,h.token,h.ses,h.good,h.memos,h.nums,h.has⟩
 exact dropA_right h2 _ ht
end Cm
end Go.Proofs.YtclcgkpfcogcdaaGreat

/- Contract: package auto's without (made by tools/gen_aucb.py). -/
set_option linter.unusedVariables false
set_option maxRecDepth 8000
set_option linter.unusedSimpArgs false
namespace Go.Proofs.YtclcgkpfcogcdaaGreat
open Lib (hid)
open Go.RowKit Go.Shelf
namespace Cm

theorem filter_take_step {α:Type} (p:α->Bool) (l:List α) (j:Nat) (h:j<l.length):(l.take (j+1)).filter p=(l.take j).filter p++if p l[j] then [l[j]] else []:=by
 rw[List.take_succ_eq_append_getElem h,List.filter_append]
 congr 1
 simp [List.filter]
 split<;>rename_i q<;>simp [q]
set_option maxHeartbeats 8000000 in
theorem AutoWithout_any (x:StC) (u:Value) (G:List Int) (w:World) (h:RdSt w x) (hs:Small x) (hg:Good (vals x.K) x.token) (ht:x.token<2305843009213694000) (hG:RdI w u G) (h8:G.length<=1000):Calls Tryz.prog 69 #[stVal x,u] w (GetsSt (dropA x.v G) x w):=by
 obtain⟨W1,hW1⟩: ∃W1,W1=w.alloc (.cells #[.int .i64 x.time,.int .i64 x.num,.int .i64 x.token,x.sv,x.kv,x.mv] 26):=⟨_,rfl⟩
 have hb1:Below w.heap.size w W1:=by rw[hW1];exact newAlloc _ _
 have hB1:BoxS W1 w.heap.size x:=by rw[hW1];exact BoxS.new w x _
 have hs1:W1.heap.size=w.heap.size+1:=by rw[hW1];simp
 obtain⟨W2,hW2⟩: ∃W2,W2=W1.alloc (.cells #[.int .i64 0,.int .i64 0,.int .i64 0,.slice none 0 0,.slice none 0 0,.slice none 0 0] 26):=⟨_,rfl⟩
 have hb2:Below W1.heap.size W1 W2:=by rw[hW2];exact newAlloc _ _
 have hZ:BoxS W2 (w.heap.size+1) zeroC10:=by rw[<-hs1,hW2];exact BoxS.new W1 zeroC10 _
 have HX0:=hid (hB1.later hb2)
 have HZ0:=hid hZ
 have HB0:=hid (step hb1 hb2)
 have hs2:W2.heap.size=w.heap.size+2:=by rw[hW2];simp [hs1]
 have HRD:Hid (∀W,Below w.heap.size w W->RdSt W x):=hid fun W hb=>h.later hb
 have HSM:=hid hs
 obtain⟨HI,hHI'⟩: ∃HI,W2.heap.size=HI:=⟨_,rfl⟩
 obtain⟨nb,hnb⟩: ∃nb,w.heap.size=nb:=⟨_,rfl⟩
 have HNB:=hid hnb
 have hlt1:nb+1<HI:=by omega
 have hHI:w.heap.size<=HI:=by omega
 have hsz0:HI<=W2.heap.size:=Nat.le_of_eq hHI'.symm
 rw[hnb] at HX0 HZ0
 clear hnb h hs hb1 hb2 hB1 hZ hs1 hs2 hHI'
 have hm:=hG.len
 have hs1000:=HSM.out.s
 have hdg:=dropK_count G (vals x.K) x.token
 rw[vals_length] at hdg
 have hk5:=HSM.out.k
 have htk:=HSM.out.t
 have KD:=hid (fun W (hb:Below w.heap.size w W)=>LckDrop_any x.kv u x.K G x.token W (HRD.out W hb).k hg (hG.later hb) h8 ht)
 have KC:=hid (fun W (hb:Below w.heap.size w W) c=>Contains_num u G c W (hG.later hb))
 have HDV:Hid (dropA x.v G=⟨x.time,x.num,x.token+(dropK G (vals x.K) x.token).2,closeAll x.S G,(dropK G (vals x.K) x.token).1,valsM x.M⟩):=hid rfl
 have HCA:=hid (closeAll_eq G x.S)
 have HFT:=hid (fun j hj=>filter_take_step (fun s:SesV=> !hasL G s.client) x.S j hj)
 have HFL:Hid (∀j,((x.S.take j).filter fun s:SesV=> !hasL G s.client).length <=1000):=hid fun j=>Nat.le_trans (List.length_filter_le _ _) (by rw[List.length_take];omega)
 have HAT:=hid (fun i hi=>rds_at (HRD.out w (Below.refl _ _)).s i hi)
 obtain⟨ga,gc,rfl⟩:=hG.form
 clear hG hg
 obtain⟨d,hd⟩: ∃d,dropK G (vals x.K) x.token=d:=⟨_,rfl⟩
 rw[hd] at KD hdg HDV
 clear hd
 obtain⟨dl,dg⟩:=d
 dsimp only at hdg HDV
 obtain⟨N,hN⟩: ∃N,G.length=N:=⟨_,rfl⟩
 rw[hN] at hm KD KC h8 ⊢
 clear hN
 have HDVV:=HDV
 obtain⟨R,hR⟩: ∃R,dropA x.v G=R:=⟨_,rfl⟩
 rw[hR] at HDV ⊢
 clear hR HDVV
 obtain⟨xt,xn,xk,xS,sa,sc,xK,ka,kc,xM,ma,mc⟩:=x
 unfold stVal
 simp only[StC.sv,StC.kv,StC.mv] at hW1 KD KC HAT ⊢
 obtain⟨c0,c1,c2,c3,c4,c5,cf⟩:=HX0.out
 simp only[StC.sv,StC.kv,StC.mv] at c0 c1 c2 c3 c4 c5
 dsimp only at hs1000 hdg hk5 htk ht HDV HCA HFT HFL HAT
 have e1:IntKind.i64.wrap (xk+dg)=xk+dg:=by rw[IntKind.wrap_i64];omega
 obtain⟨i0,hi,hz0,hz1,hz2⟩:=info_parts infoS
 obtain⟨NS,hNS⟩: ∃NS,xS.length=NS:=⟨_,rfl⟩
 have HNS:=hid hNS
 rw[hNS] at hs1000 c3
 clear hNS
 go_enter Tryz.func69,Tryz.ntmps69
 go_upto_region 1 with fail
 rw[<-hW1,<-hW2]
 rw[HNB.out]
 clear hW1 hW2
 go_upto_region 2 with (go_at_call 131;refine(KD.out _ HB0.out).mono ?_;rintro e w3 ⟨v3,M3,rfl,hv3,ho3,hb3⟩;have HV3:=hid hv3;have HO3:=hid ho3;have HB3:=hid hb3;obtain⟨a3,p3,rfl⟩:=Rw.own_form ho3.row;clear hv3 ho3 hb3)
 have HX3:=hid (HX0.out.later HB3.out)
 have HZ3:=hid (HZ0.out.later HB3.out)
 have HBN3:=hid (step HB0.out HB3.out)
 have hsz3:HI<=w3.heap.size:=Nat.le_trans hsz0 HB3.out.size
 clear c0 c1 c2 c3 c4 c5 cf HX0 HZ0 KD
 obtain⟨c0,c1,c2,c3,c4,c5,cf⟩:=HX3.out
 simp only[StC.sv,StC.kv,StC.mv] at c0 c1 c2 c3 c4 c5
 rw[HNS.out] at c3
 go_wp2
 go_loopw [7,22] (fun m i wr=> ∃(k:Nat) (M:List SesV),k<=NS/\i= .int .i64 k/\M.length<=1000/\Hid (M=(xS.take k).filter fun s:SesV=> !hasL G s.client)/\Hid (wr.ownsRow w3.heap.size 46 3 m M.length (flatX cellsS M))/\Hid (Below w3.heap.size w3 wr)) (fun _ i _=>NS - (intOf i).toNat)
 case atStart=>exact⟨0,[],by omega,rfl,by simp,hid rfl,hid (World.ownsRow_nil _ _ _ _),hid (Below.refl _ _)⟩
 case round=>
  clear c0 c1 c2 c3 c4 c5 cf
  obtain⟨k,M,hk,rfl,hMl,HM,HO,HB⟩:=hrel
  obtain⟨c0,c1,c2,c3,c4,c5,cf⟩:=HX3.out.later HB.out
  simp only[StC.sv,StC.kv,StC.mv] at c0 c1 c2 c3 c4 c5
  rw[HNS.out] at c3
  have HBW:=hid (step HBN3.out HB.out)
  by_cases hlt:k<NS
  ·have hkl:k<xS.length:=by rw[HNS.out];exact hlt
   obtain⟨b,o,rfl,hc⟩:=HAT.out k hkl
   obtain⟨q0,q1,q2⟩:=hc wr HBW.out
   clear hc
   have hft:=HFT.out k hkl
   have hfl:=HFL.out (k+1)
   clear HAT HFT HFL
   generalize xS[k]=z at q0 q1 q2 hft
   obtain⟨gc',gn',gr'⟩:=z
   dsimp only at q0 q1 q2 hft
   rw[<-HM.out] at hft
   clear HM
   have f1:(0:Int)<=(k:Int):=by omega
   have f2:(k:Int)<(NS:Int):=by omega
   obtain⟨W1,hW1⟩: ∃W1,W1=wr.alloc (.cells #[.int .i64 gc',.int .i64 gn',.int .i64 gr'] 46):=⟨_,rfl⟩
   have HB1:Hid (Below w3.heap.size w3 W1):=hid (by rw[hW1];exact step HB.out (newAlloc _ _))
   have HO1:Hid (W1.ownsRow w3.heap.size 46 3 u7 M.length (flatX cellsS M)):=hid (by rw[hW1];exact Rw.own_alloc HO.out _)
   obtain⟨z0,z1,z2⟩:=box3s (Below.refl _ (wr.alloc (.cells #[.int .i64 gc',.int .i64 gn',.int .i64 gr'] 46)))
   rw[<-hW1] at z0 z1 z2
   have KCC:=hid (KC.out W1 (step HBN3.out HB1.out) gc')
   have HWW:=hid hW1
   clear hW1
   go_upto_region 6 with fail
   rw[<-HWW.out]
   clear HWW q0 q1 q2 c0 c1 c2 c3 c4 c5 cf
   cases hh:hasL G gc' with
   | false=>
    rw[hh] at KCC hft
    rw[show(if (!false)=true then [(⟨gc',gn',gr'⟩:SesV)] else [])= [⟨gc',gn',gr'⟩] from rfl] at hft
    rw[hft,List.length_append,List.length_singleton] at hfl
    have H:=hid hft
    have HFLL:=hid hfl
    clear hft hh
    go_wp2_with (first
     | (go_at_call 132;refine KCC.out.mono ?_;rintro e w2 ⟨rfl,rfl⟩)
     | (at_builtin;refine wpList_append_one cellsS_length (by omega) rfl (.tmp 31) (.tmp 33) 22 rfl 46 i0 _ 24 Tryz.underlying22 hi hz0 hz1 hz2 rfl #[.int .i64 gc',.int .i64 gn',.int .i64 gr'] ⟨gc',gn',gr'⟩ rfl (cellsS_one _) M w3.heap.size w3.heap.size w3 _ rfl rfl HO1.out (by unfold maxLen;omega) (by omega) HB1.out.size HB1.out (Nat.le_refl _) ?_;intro v5 w5 ho5 hb5 _;have HO5:=hid ho5;have HB5:=hid hb5;clear ho5 hb5))
    go_roundw
    case rel=>exact⟨k+1,M++ [⟨gc',gn',gr'⟩],by omega,by go_num,by simpa using HFLL.out,hid H.out.symm,HO5,HB5⟩
    case measure=>simp [intOf];omega
   | true=>
    rw[hh] at KCC hft
    rw[show(if (!true)=true then [(⟨gc',gn',gr'⟩:SesV)] else [])= [] from rfl,List.append_nil] at hft
    have H:=hid hft
    clear hft hh
    go_wp2_with (go_at_call 132;refine KCC.out.mono ?_;rintro e w2 ⟨rfl,rfl⟩)
    go_roundw
    case rel=>exact⟨k+1,M,by omega,by go_num,hMl,hid H.out.symm,HO1,HB1⟩
    case measure=>simp [intOf];omega
  ·obtain rfl:k=NS:=by omega
   have hM:=HM.out
   rw[<-HNS.out,List.take_length,<-HCA.out] at hM
   have HMM:=hid hM
   clear hM
   obtain⟨ua,uc,rfl⟩:=Rw.own_form HO.out
   have hX:=HX3.out.later HB.out
   have hX4:=((hX.set3 M ua uc).set4 M3 a3 p3).set2 (xk+dg)
   have hZ4:=(((HZ3.out.later HB.out).other (show nb≠nb+1 by omega) 3 (.slice ua M.length uc)).other (show nb≠nb+1 by omega) 4 (.slice a3 M3.length p3)).other (show nb≠nb+1 by omega) 2 (.int .i64 (xk+dg))
   have hF3:FromS HI wr ⟨xt,xn,xk,xS,sa,sc,xK,ka,kc,xM,ma,mc⟩ ⟨xt,xn,xk+dg,M,ua,uc,M3,a3,p3,xM,ma,mc⟩:=⟨.inr (own_lowerX HO.out hsz3),.inr ((HO3.out.lower hsz0).later HB.out),.inl ⟨rfl,rfl,rfl⟩⟩
   have hF4:=((hF3.setBelow (show nb<HI by omega) 3 (.slice ua M.length uc)).setBelow (show nb<HI by omega) 4 (.slice a3 M3.length p3)).setBelow (show nb<HI by omega) 2 (.int .i64 (xk+dg))
   have hB4:Below w.heap.size w (((wr.setCell ⟨nb,3,none⟩ (.slice ua M.length uc)).setCell ⟨nb,4,none⟩ (.slice a3 M3.length p3)).setCell ⟨nb,2,none⟩ (.int .i64 (xk+dg))):=((HBW.out.setCell (Nat.le_of_eq HNB.out) _).setCell (Nat.le_of_eq HNB.out) _).setCell (Nat.le_of_eq HNB.out) _
   go_upto_region 10 with fail
   obtain⟨W4,hW4⟩: ∃W4,W4=((wr.setCell ⟨nb,3,none⟩ (.slice ua M.length uc)).setCell ⟨nb,4,none⟩ (.slice a3 M3.length p3)).setCell ⟨nb,2,none⟩ (.int .i64 (xk+dg)):=⟨_,rfl⟩
   rw[<-hW4] at hX4 hZ4 hF4 hB4 ⊢
   have HVE:Hid ((⟨xt,xn,xk+dg,M,ua,uc,M3,a3,p3,xM,ma,mc⟩:StC).v =R):=hid (by
    rw[HDV.out]
    unfold StC.v
    dsimp only
    rw[HV3.out,HMM.out])
   have HE:=hid ((hF4.set6 hlt1 (.int .i64 xt) (.int .i64 xn) (.int .i64 (xk+dg)) (.slice ua M.length uc) (.slice a3 M3.length p3) (.slice ma xM.length mc)).lower hHI)
   have HBE:=hid (below_set6 hB4 (nb+1) (by have:=HNB.out;omega) (.int .i64 xt) (.int .i64 xn) (.int .i64 (xk+dg)) (.slice ua M.length uc) (.slice a3 M3.length p3) (.slice ma xM.length mc))
   clear c0 c1 c2 c3 c4 c5 cf hF3 hF4 hB4 hX HM HAT HFT HFL HCA KC
   obtain⟨c0,c1,c2,c3,c4,c5,cf⟩:=hX4
   simp only[StC.sv,StC.kv,StC.mv] at c0 c1 c2 c3 c4 c5
   obtain⟨z0,z1,z2,z3,z4,z5,zf⟩:=hZ4
   simp only[zeroC10,StC.sv,StC.kv,StC.mv,List.length_nil] at z0 z1 z2 z3 z4 z5
   clear hW4
   go_wp2
   refine bodyPost_ret (by simp [results,Tryz.results69,go_sem,z0,z1,z2,z3,z4,z5,zf]<;>rfl) rfl ?_
   exact⟨_,rfl,HVE.out,HE.out,HBE.out⟩
end Cm
end Go.Proofs.YtclcgkpfcogcdaaGreat
