/- Texts laid together by program. -/
import Derived.Test.YtclcgkpfcogcdaaGreatQ20
import Derived.Test.YtclcgkpfcogcdaaGreatQ34
import Derived.Deep.RegionHeld3
/- Contracts: package auto's open, take, free (made by tools/gen_aucd.py). -/
set_option linter.unusedVariables false
set_option maxRecDepth 8000
set_option linter.unusedSimpArgs false
namespace Go.Proofs.YtclcgkpfcogcdaaGreat
open Lib (hid)
open Go.RowKit Go.Shelf
namespace Cm

def GetsSC (r:StV × Int) (x:StC) (w:World) (e:Ending) (w':World):Prop:=
 ∃y:StC,e= .returned (.tuple #[stVal y,.int .i64 r.2])/\y.v=r.1/\FromS w.heap.size w' x y/\Below w.heap.size w w'
def GetsSIC (r:StV × Int × Int) (x:StC) (w:World) (e:Ending) (w':World):Prop:=
 ∃y:StC,e= .returned (.tuple #[stVal y,.int .i64 r.2.1,.int .i64 r.2.2])/\y.v=r.1/\FromS w.heap.size w' x y/\Below w.heap.size w w'
def open1 (s:StV) (c:Int):StV × Int:=(if (openS s.ses c (s.num+1) s.time).2=0 then openedA s c else s,(openS s.ses c (s.num+1) s.time).2)
def take1 (s:StV) (c:Int) (n:List UInt8) (wt:Bool):StV × Int × Int:=(takenA s n c wt,(takeK s.locks n c s.token wt).2.1,(takeK s.locks n c s.token wt).2.2)
def free1 (s:StV) (c:Int) (n:List UInt8):StV × Int:=(freedA s n c,(freeK s.locks n c s.token).2.2)
def tellA (s:StV) (c ahead code:Int):ReplyV:=if (findS s.ses c).2=false then onlyA code else toldA s c code ahead
set_option maxHeartbeats 8000000 in
theorem AutoOpen_any (x:StC) (c:Int) (w:World) (h:RdSt w x) (hs:Small x) (hn:x.num<=2305843009213693952/\0<=x.num):Calls Tryz.prog 115 #[stVal x,.int .i64 c] w (GetsSC (open1 x.v c) x w):=by
 obtain⟨W1,hW1⟩: ∃W1,W1=w.alloc (.cells #[.int .i64 x.time,.int .i64 x.num,.int .i64 x.token,x.sv,x.kv,x.mv] 26):=⟨_,rfl⟩
 have hb1:Below w.heap.size w W1:=by rw[hW1];exact newAlloc _ _
 have hB1:BoxS W1 w.heap.size x:=by rw[hW1];exact BoxS.new w x _
 have hs1:W1.heap.size=w.heap.size+1:=by rw[hW1];simp
 obtain⟨W2,hW2⟩: ∃W2,W2=W1.alloc (.cells #[.int .i64 0,.int .i64 0,.int .i64 0,.slice none 0 0,.slice none 0 0,.slice none 0 0] 26):=⟨_,rfl⟩
 have hb2:Below W1.heap.size W1 W2:=by rw[hW2];exact newAlloc _ _
 have hZ:BoxS W2 (w.heap.size+1) zeroC10:=by rw[<-hs1,hW2];exact BoxS.new W1 zeroC10 _
 have HX0:=hid (hB1.later hb2)
 have HZ0:=hid hZ
 have HB0:=hid (step hb1 hb2)
 have hs2:W2.heap.size=w.heap.size+2:=by rw[hW2];simp [hs1]
 have HRD:Hid (∀W,Below w.heap.size w W->RdSt W x):=hid fun W hb=>h.later hb
 have HSM:=hid hs
 obtain⟨HI,hHI'⟩: ∃HI,W2.heap.size=HI:=⟨_,rfl⟩
 obtain⟨nb,hnb⟩: ∃nb,w.heap.size=nb:=⟨_,rfl⟩
 have HNB:=hid hnb
 have hlt1:nb+1<HI:=by omega
 have hHI:w.heap.size<=HI:=by omega
 have hsz0:HI<=W2.heap.size:=Nat.le_of_eq hHI'.symm
 rw[hnb] at HX0 HZ0
 clear hnb h hs hb1 hb2 hB1 hZ hs1 hs2 hHI'
 have KO:=hid (fun W (hb:Below w.heap.size w W)=>SesOpen_any x.sv x.S c (x.num+1) x.time W (HRD.out W hb).s)
 have hnn:x.num<=2305843009213693952/\0<=x.num:=hn
 obtain⟨R,hR⟩: ∃R,open1 x.v c=R:=⟨_,rfl⟩
 have HRR:=hid hR
 rw[hR]
 clear hR hn
 obtain⟨xt,xn,xk,xS,sa,sc,xK,ka,kc,xM,ma,mc⟩:=x
 unfold stVal
 simp only[StC.sv,StC.kv,StC.mv] at hW1 KO ⊢
 obtain⟨c0,c1,c2,c3,c4,c5,cf⟩:=HX0.out
 simp only[StC.sv,StC.kv,StC.mv] at c0 c1 c2 c3 c4 c5
 dsimp only at hnn
 have e1:IntKind.i64.wrap (xn+1)=xn+1:=by rw[IntKind.wrap_i64];omega
 have HRV:Hid (R=(if (openS xS c (xn+1) xt).2=0 then ⟨xt,xn+1,xk,(openS xS c (xn+1) xt).1,vals xK,valsM xM⟩ else ⟨xt,xn,xk,xS,vals xK,valsM xM⟩,(openS xS c (xn+1) xt).2)):=hid HRR.out.symm
 clear HRR
 generalize openS xS c (xn+1) xt=o at KO HRV
 obtain⟨ol,oc⟩:=o
 dsimp only at HRV
 go_enter Tryz.func115,Tryz.ntmps115
 go_upto_region 1 with fail
 rw[<-hW1,<-hW2]
 rw[HNB.out]
 clear hW1 hW2
 go_upto_region 2 with (go_at_call 164;refine(KO.out _ HB0.out).mono ?_;rintro e w3 ⟨v3,rfl,ho3,hb3⟩;dsimp only at ho3;obtain⟨a3,p3,rfl⟩:=Rw.own_form ho3;have HO3:=hid ho3;have HB3:=hid hb3;clear ho3 hb3)
 have HX3:=hid (HX0.out.later HB3.out)
 have HZ3:=hid (HZ0.out.later HB3.out)
 have HB03:=hid (step HB0.out HB3.out)
 clear c0 c1 c2 c3 c4 c5 cf HX0 HZ0 KO
 obtain⟨c0,c1,c2,c3,c4,c5,cf⟩:=HX3.out
 simp only[StC.sv,StC.kv,StC.mv] at c0 c1 c2 c3 c4 c5
 by_cases hc:oc=0
 ·have g1:(oc==(0:Int))=true:=by simpa using hc
  have hrv:=HRV.out
  rw[if_pos hc] at hrv
  subst hrv
  have hF0:FromS HI w3 ⟨xt,xn,xk,xS,sa,sc,xK,ka,kc,xM,ma,mc⟩ ⟨xt,xn+1,xk,ol,a3,p3,xK,ka,kc,xM,ma,mc⟩:=⟨.inr (own_lowerX HO3.out hsz0),.inl ⟨rfl,rfl,rfl⟩,.inl ⟨rfl,rfl,rfl⟩⟩
  have hF:=(hF0.setBelow (show nb<HI by omega) 3 (.slice a3 ol.length p3)).setBelow (show nb<HI by omega) 1 (.int .i64 (xn+1))
  have hX:=(HX3.out.set3 ol a3 p3).set1 (xn+1)
  have hZ:=(HZ3.out.other (show nb≠nb+1 by omega) 3 (.slice a3 ol.length p3)).other (show nb≠nb+1 by omega) 1 (.int .i64 (xn+1))
  have hB:Below w.heap.size w ((w3.setCell ⟨nb,3,none⟩ (.slice a3 ol.length p3)).setCell ⟨nb,1,none⟩ (.int .i64 (xn+1))):=(HB03.out.setCell (Nat.le_of_eq HNB.out) _).setCell (Nat.le_of_eq HNB.out) _
  clear hc hF0
  go_upto_region 4 with fail
  obtain⟨W4,hW4⟩: ∃W4,W4=(w3.setCell ⟨nb,3,none⟩ (.slice a3 ol.length p3)).setCell ⟨nb,1,none⟩ (.int .i64 (xn+1)):=⟨_,rfl⟩
  rw[<-hW4] at hX hZ hF hB ⊢
  clear hW4 HX3 HZ3
  have HE:=hid ((hF.set6 hlt1 (.int .i64 xt) (.int .i64 (xn+1)) (.int .i64 xk) (.slice a3 ol.length p3) (.slice ka xK.length kc) (.slice ma xM.length mc)).lower hHI)
  have HBE:=hid (below_set6 hB (nb+1) (by have:=HNB.out;omega) (.int .i64 xt) (.int .i64 (xn+1)) (.int .i64 xk) (.slice a3 ol.length p3) (.slice ka xK.length kc) (.slice ma xM.length mc))
  have HXE:=hid hX
  have HZE:=hid hZ
  clear hF hB hX hZ c0 c1 c2 c3 c4 c5 cf
  obtain⟨c0,c1,c2,c3,c4,c5,cf⟩:=HXE.out
  simp only[StC.sv,StC.kv,StC.mv] at c0 c1 c2 c3 c4 c5
  obtain⟨z0,z1,z2,z3,z4,z5,zf⟩:=HZE.out
  simp only[zeroC10,StC.sv,StC.kv,StC.mv,List.length_nil] at z0 z1 z2 z3 z4 z5
  go_wp2
  refine bodyPost_ret (by simp [results,Tryz.results115,go_sem,z0,z1,z2,z3,z4,z5,zf]<;>rfl) rfl ?_
  exact⟨⟨xt,xn+1,xk,ol,a3,p3,xK,ka,kc,xM,ma,mc⟩,rfl,rfl,HE.out,HBE.out⟩
 ·have g1:(oc==(0:Int))=false:=by simpa using hc
  have hrv:=HRV.out
  rw[if_neg hc] at hrv
  subst hrv
  have hF:=FromS.refl HI w3 ⟨xt,xn,xk,xS,sa,sc,xK,ka,kc,xM,ma,mc⟩
  have hX:=HX3.out
  have hZ:=HZ3.out
  have hB:=HB03.out
  clear hc
  go_upto_region 4 with fail
  have HE:=hid ((hF.set6 hlt1 (.int .i64 xt) (.int .i64 xn) (.int .i64 xk) (.slice sa xS.length sc) (.slice ka xK.length kc) (.slice ma xM.length mc)).lower hHI)
  have HBE:=hid (below_set6 hB (nb+1) (by have:=HNB.out;omega) (.int .i64 xt) (.int .i64 xn) (.int .i64 xk) (.slice sa xS.length sc) (.slice ka xK.length kc) (.slice ma xM.length mc))
  have HXE:=hid hX
  have HZE:=hid hZ
  clear hF hB hX hZ c0 c1 c2 c3 c4 c5 cf
  obtain⟨c0,c1,c2,c3,c4,c5,cf⟩:=HXE.out
  simp only[StC.sv,StC.kv,StC.mv] at c0 c1 c2 c3 c4 c5
  obtain⟨z0,z1,z2,z3,z4,z5,zf⟩:=HZE.out
  simp only[zeroC10,StC.sv,StC.kv,StC.mv,List.length_nil] at z0 z1 z2 z3 z4 z5
  go_wp2
  refine bodyPost_ret (by simp [results,Tryz.results115,go_sem,z0,z1,z2,z3,z4,z5,zf]<;>rfl) rfl ?_
  exact⟨⟨xt,xn,xk,xS,sa,sc,xK,ka,kc,xM,ma,mc⟩,rfl,rfl,HE.out,HBE.out⟩
set_option maxHeartbeats 8000000 in
theorem AutoTake_any (x:StC) (c:Int) (n:List UInt8) (wt:Bool) (w:World) (h:RdSt w x) (hs:Small x) (hg:Good (vals x.K) x.token) (hn:nameF n=true) (hc:clientF c=true) (ht:x.token<2305843009213694000):Calls Tryz.prog 119 #[stVal x,.int .i64 c,.string (bstr n),.bool wt] w (GetsSIC (take1 x.v c n wt) x w):=by
 obtain⟨W1,hW1⟩: ∃W1,W1=w.alloc (.cells #[.int .i64 x.time,.int .i64 x.num,.int .i64 x.token,x.sv,x.kv,x.mv] 26):=⟨_,rfl⟩
 have hb1:Below w.heap.size w W1:=by rw[hW1];exact newAlloc _ _
 have hB1:BoxS W1 w.heap.size x:=by rw[hW1];exact BoxS.new w x _
 have hs1:W1.heap.size=w.heap.size+1:=by rw[hW1];simp
 obtain⟨W2,hW2⟩: ∃W2,W2=W1.alloc (.cells #[.int .i64 0,.int .i64 0,.int .i64 0,.slice none 0 0,.slice none 0 0,.slice none 0 0] 26):=⟨_,rfl⟩
 have hb2:Below W1.heap.size W1 W2:=by rw[hW2];exact newAlloc _ _
 have hZ:BoxS W2 (w.heap.size+1) zeroC10:=by rw[<-hs1,hW2];exact BoxS.new W1 zeroC10 _
 have HX0:=hid (hB1.later hb2)
 have HZ0:=hid hZ
 have HB0:=hid (step hb1 hb2)
 have hs2:W2.heap.size=w.heap.size+2:=by rw[hW2];simp [hs1]
 have HRD:Hid (∀W,Below w.heap.size w W->RdSt W x):=hid fun W hb=>h.later hb
 have HSM:=hid hs
 obtain⟨HI,hHI'⟩: ∃HI,W2.heap.size=HI:=⟨_,rfl⟩
 obtain⟨nb,hnb⟩: ∃nb,w.heap.size=nb:=⟨_,rfl⟩
 have HNB:=hid hnb
 have hlt1:nb+1<HI:=by omega
 have hHI:w.heap.size<=HI:=by omega
 have hsz0:HI<=W2.heap.size:=Nat.le_of_eq hHI'.symm
 rw[hnb] at HX0 HZ0
 clear hnb h hs hb1 hb2 hB1 hZ hs1 hs2 hHI'
 have KT:=hid (fun W (hb:Below w.heap.size w W)=>LckTake_any x.kv x.K n c x.token wt W (HRD.out W hb).k hg hn hc ht)
 have htk:=HSM.out.t
 obtain⟨R,hR⟩: ∃R,take1 x.v c n wt=R:=⟨_,rfl⟩
 have HRR:=hid hR
 rw[hR]
 clear hR hn hc hg
 obtain⟨xt,xn,xk,xS,sa,sc,xK,ka,kc,xM,ma,mc⟩:=x
 unfold stVal
 simp only[StC.sv,StC.kv,StC.mv] at hW1 KT ⊢
 obtain⟨c0,c1,c2,c3,c4,c5,cf⟩:=HX0.out
 simp only[StC.sv,StC.kv,StC.mv] at c0 c1 c2 c3 c4 c5
 dsimp only at htk ht
 have e1:IntKind.i64.wrap (xk+1)=xk+1:=by rw[IntKind.wrap_i64];omega
 have HRV:Hid (R=(⟨xt,xn,if (takeK (vals xK) n c xk wt).2.2=0 then xk+1 else xk,xS,if (takeK (vals xK) n c xk wt).2.2=0\/(takeK (vals xK) n c xk wt).2.2=10 then (takeK (vals xK) n c xk wt).1 else vals xK,valsM xM⟩,(takeK (vals xK) n c xk wt).2.1,(takeK (vals xK) n c xk wt).2.2)):=hid HRR.out.symm
 clear HRR
 generalize takeK (vals xK) n c xk wt=o at KT HRV
 obtain⟨ol,oa,oc⟩:=o
 dsimp only at HRV
 go_enter Tryz.func119,Tryz.ntmps119
 go_upto_region 1 with fail
 rw[<-hW1,<-hW2]
 rw[HNB.out]
 clear hW1 hW2
 go_upto_region 2 with (go_at_call 167;refine(KT.out _ HB0.out).mono ?_;rintro e w3 ⟨v3,M3,rfl,hv3,ho3,hb3⟩;dsimp only at hv3;obtain⟨a3,p3,rfl⟩:=Rw.own_form ho3.row;have HV3:=hid hv3;have HO3:=hid ho3;have HB3:=hid hb3;clear hv3 ho3 hb3)
 have HX3:=hid (HX0.out.later HB3.out)
 have HZ3:=hid (HZ0.out.later HB3.out)
 have HB03:=hid (step HB0.out HB3.out)
 clear c0 c1 c2 c3 c4 c5 cf HX0 HZ0 KT
 obtain⟨c0,c1,c2,c3,c4,c5,cf⟩:=HX3.out
 simp only[StC.sv,StC.kv,StC.mv] at c0 c1 c2 c3 c4 c5
 by_cases hc:oc=0
 ·have g1:(oc==(0:Int))=true:=by simpa using hc
  have hrv:=HRV.out
  rw[if_pos hc,if_pos (.inl hc)] at hrv
  subst hrv
  have hF0:FromS HI w3 ⟨xt,xn,xk,xS,sa,sc,xK,ka,kc,xM,ma,mc⟩ ⟨xt,xn,xk+1,xS,sa,sc,M3,a3,p3,xM,ma,mc⟩:=⟨.inl ⟨rfl,rfl,rfl⟩,.inr (HO3.out.lower hsz0),.inl ⟨rfl,rfl,rfl⟩⟩
  have hF:=(hF0.setBelow (show nb<HI by omega) 4 (.slice a3 M3.length p3)).setBelow (show nb<HI by omega) 2 (.int .i64 (xk+1))
  have hX:=(HX3.out.set4 M3 a3 p3).set2 (xk+1)
  have hZ:=(HZ3.out.other (show nb≠nb+1 by omega) 4 (.slice a3 M3.length p3)).other (show nb≠nb+1 by omega) 2 (.int .i64 (xk+1))
  have hB:Below w.heap.size w ((w3.setCell ⟨nb,4,none⟩ (.slice a3 M3.length p3)).setCell ⟨nb,2,none⟩ (.int .i64 (xk+1))):=(HB03.out.setCell (Nat.le_of_eq HNB.out) _).setCell (Nat.le_of_eq HNB.out) _
  clear hc hF0
  go_upto_region 7 with fail
  obtain⟨W4,hW4⟩: ∃W4,W4=(w3.setCell ⟨nb,4,none⟩ (.slice a3 M3.length p3)).setCell ⟨nb,2,none⟩ (.int .i64 (xk+1)):=⟨_,rfl⟩
  rw[<-hW4] at hX hZ hF hB ⊢
  clear hW4 HX3 HZ3
  have HE:=hid ((hF.set6 hlt1 (.int .i64 xt) (.int .i64 xn) (.int .i64 (xk+1)) (.slice sa xS.length sc) (.slice a3 M3.length p3) (.slice ma xM.length mc)).lower hHI)
  have HBE:=hid (below_set6 hB (nb+1) (by have:=HNB.out;omega) (.int .i64 xt) (.int .i64 xn) (.int .i64 (xk+1)) (.slice sa xS.length sc) (.slice a3 M3.length p3) (.slice ma xM.length mc))
  have HXE:=hid hX
  have HZE:=hid hZ
  clear hF hB hX hZ c0 c1 c2 c3 c4 c5 cf
  obtain⟨c0,c1,c2,c3,c4,c5,cf⟩:=HXE.out
  simp only[StC.sv,StC.kv,StC.mv] at c0 c1 c2 c3 c4 c5
  obtain⟨z0,z1,z2,z3,z4,z5,zf⟩:=HZE.out
  simp only[zeroC10,StC.sv,StC.kv,StC.mv,List.length_nil] at z0 z1 z2 z3 z4 z5
  go_wp2
  refine bodyPost_ret (by simp [results,Tryz.results119,go_sem,z0,z1,z2,z3,z4,z5,zf]<;>rfl) rfl ?_
  exact⟨⟨xt,xn,xk+1,xS,sa,sc,M3,a3,p3,xM,ma,mc⟩,rfl,(by unfold StC.v;dsimp only;rw[HV3.out]),HE.out,HBE.out⟩
 ·have g1:(oc==(0:Int))=false:=by simpa using hc
  by_cases hd:oc=10
  ·have g2:(oc==(10:Int))=true:=by simpa using hd
   have hrv:=HRV.out
   rw[if_neg hc,if_pos (.inr hd)] at hrv
   subst hrv
   have hF0:FromS HI w3 ⟨xt,xn,xk,xS,sa,sc,xK,ka,kc,xM,ma,mc⟩ ⟨xt,xn,xk,xS,sa,sc,M3,a3,p3,xM,ma,mc⟩:=⟨.inl ⟨rfl,rfl,rfl⟩,.inr (HO3.out.lower hsz0),.inl ⟨rfl,rfl,rfl⟩⟩
   have hF:=hF0.setBelow (show nb<HI by omega) 4 (.slice a3 M3.length p3)
   have hX:=HX3.out.set4 M3 a3 p3
   have hZ:=HZ3.out.other (show nb≠nb+1 by omega) 4 (.slice a3 M3.length p3)
   have hB:Below w.heap.size w (w3.setCell ⟨nb,4,none⟩ (.slice a3 M3.length p3)):=HB03.out.setCell (Nat.le_of_eq HNB.out) _
   clear hc hd hF0
   go_upto_region 7 with fail
   obtain⟨W4,hW4⟩: ∃W4,W4=w3.setCell ⟨nb,4,none⟩ (.slice a3 M3.length p3):=⟨_,rfl⟩
   rw[<-hW4] at hX hZ hF hB ⊢
   clear hW4 HX3 HZ3
   have HE:=hid ((hF.set6 hlt1 (.int .i64 xt) (.int .i64 xn) (.int .i64 xk) (.slice sa xS.length sc) (.slice a3 M3.length p3) (.slice ma xM.length mc)).lower hHI)
   have HBE:=hid (below_set6 hB (nb+1) (by have:=HNB.out;omega) (.int .i64 xt) (.int .i64 xn) (.int .i64 xk) (.slice sa xS.length sc) (.slice a3 M3.length p3) (.slice ma xM.length mc))
   have HXE:=hid hX
   have HZE:=hid hZ
   clear hF hB hX hZ c0 c1 c2 c3 c4 c5 cf
   obtain⟨c0,c1,c2,c3,c4,c5,cf⟩:=HXE.out
   simp only[StC.sv,StC.kv,StC.mv] at c0 c1 c2 c3 c4 c5
   obtain⟨z0,z1,z2,z3,z4,z5,zf⟩:=HZE.out
   simp only[zeroC10,StC.sv,StC.kv,StC.mv,List.length_nil] at z0 z1 z2 z3 z4 z5
   go_wp2
   refine bodyPost_ret (by simp [results,Tryz.results119,go_sem,z0,z1,z2,z3,z4,z5,zf]<;>rfl) rfl ?_
   exact⟨⟨xt,xn,xk,xS,sa,sc,M3,a3,p3,xM,ma,mc⟩,rfl,(by unfold StC.v;dsimp only;rw[HV3.out]),HE.out,HBE.out⟩
  ·have g2:(oc==(10:Int))=false:=by simpa using hd
   have hrv:=HRV.out
   rw[if_neg hc,if_neg (fun q=>q.elim hc hd)] at hrv
   subst hrv
   have hF:=FromS.refl HI w3 ⟨xt,xn,xk,xS,sa,sc,xK,ka,kc,xM,ma,mc⟩
   have hX:=HX3.out
   have hZ:=HZ3.out
   have hB:=HB03.out
   clear hc hd
   go_upto_region 7 with fail
   have HE:=hid ((hF.set6 hlt1 (.int .i64 xt) (.int .i64 xn) (.int .i64 xk) (.slice sa xS.length sc) (.slice ka xK.length kc) (.slice ma xM.length mc)).lower hHI)
   have HBE:=hid (below_set6 hB (nb+1) (by have:=HNB.out;omega) (.int .i64 xt) (.int .i64 xn) (.int .i64 xk) (.slice sa xS.length sc) (.slice ka xK.length kc) (.slice ma xM.length mc))
   have HXE:=hid hX
   have HZE:=hid hZ
   clear hF hB hX hZ c0 c1 c2 c3 c4 c5 cf
   obtain⟨c0,c1,c2,c3,c4,c5,cf⟩:=HXE.out
   simp only[StC.sv,StC.kv,StC.mv] at c0 c1 c2 c3 c4 c5
   obtain⟨z0,z1,z2,z3,z4,z5,zf⟩:=HZE.out
   simp only[zeroC10,StC.sv,StC.kv,StC.mv,List.length_nil] at z0 z1 z2 z3 z4 z5
   go_wp2
   refine bodyPost_ret (by simp [results,Tryz.results119,go_sem,z0,z1,z2,z3,z4,z5,zf]<;>rfl) rfl ?_
   exact⟨⟨xt,xn,xk,xS,sa,sc,xK,ka,kc,xM,ma,mc⟩,rfl,rfl,HE.out,HBE.out⟩
set_option maxHeartbeats 8000000 in
theorem AutoFree_any (x:StC) (c:Int) (n:List UInt8) (w:World) (h:RdSt w x) (hs:Small x) (hg:Good (vals x.K) x.token) (hn:nameF n=true) (hc:clientF c=true) (ht:x.token<2305843009213694000):Calls Tryz.prog 120 #[stVal x,.int .i64 c,.string (bstr n)] w (GetsSC (free1 x.v c n) x w):=by
 obtain⟨W1,hW1⟩: ∃W1,W1=w.alloc (.cells #[.int .i64 x.time,.int .i64 x.num,.int .i64 x.token,x.sv,x.kv,x.mv] 26):=⟨_,rfl⟩
 have hb1:Below w.heap.size w W1:=by rw[hW1];exact newAlloc _ _
 have hB1:BoxS W1 w.heap.size x:=by rw[hW1];exact BoxS.new w x _
 have hs1:W1.heap.size=w.heap.size+1:=by rw[hW1];simp
 obtain⟨W2,hW2⟩: ∃W2,W2=W1.alloc (.cells #[.int .i64 0,.int .i64 0,.int .i64 0,.slice none 0 0,.slice none 0 0,.slice none 0 0] 26):=⟨_,rfl⟩
 have hb2:Below W1.heap.size W1 W2:=by rw[hW2];exact newAlloc _ _
 have hZ:BoxS W2 (w.heap.size+1) zeroC10:=by rw[<-hs1,hW2];exact BoxS.new W1 zeroC10 _
 have HX0:=hid (hB1.later hb2)
 have HZ0:=hid hZ
 have HB0:=hid (step hb1 hb2)
 have hs2:W2.heap.size=w.heap.size+2:=by rw[hW2];simp [hs1]
 have HRD:Hid (∀W,Below w.heap.size w W->RdSt W x):=hid fun W hb=>h.later hb
 have HSM:=hid hs
 obtain⟨HI,hHI'⟩: ∃HI,W2.heap.size=HI:=⟨_,rfl⟩
 obtain⟨nb,hnb⟩: ∃nb,w.heap.size=nb:=⟨_,rfl⟩
 have HNB:=hid hnb
 have hlt1:nb+1<HI:=by omega
 have hHI:w.heap.size<=HI:=by omega
 have hsz0:HI<=W2.heap.size:=Nat.le_of_eq hHI'.symm
 rw[hnb] at HX0 HZ0
 clear hnb h hs hb1 hb2 hB1 hZ hs1 hs2 hHI'
 have KF:=hid (fun W (hb:Below w.heap.size w W)=>LckFree_any x.kv x.K n c x.token W (HRD.out W hb).k hg hn hc ht)
 have htk:=HSM.out.t
 have hfg:=free_givenA (vals x.K) n c x.token
 obtain⟨R,hR⟩: ∃R,free1 x.v c n=R:=⟨_,rfl⟩
 have HRR:=hid hR
 rw[hR]
 clear hR hn hc hg
 obtain⟨xt,xn,xk,xS,sa,sc,xK,ka,kc,xM,ma,mc⟩:=x
 unfold stVal
 simp only[StC.sv,StC.kv,StC.mv] at hW1 KF ⊢
 obtain⟨c0,c1,c2,c3,c4,c5,cf⟩:=HX0.out
 simp only[StC.sv,StC.kv,StC.mv] at c0 c1 c2 c3 c4 c5
 dsimp only at htk ht hfg
 have HRV:Hid (R=(⟨xt,xn,if (freeK (vals xK) n c xk).2.2=0 then xk+(freeK (vals xK) n c xk).2.1 else xk,xS,if (freeK (vals xK) n c xk).2.2=0 then (freeK (vals xK) n c xk).1 else vals xK,valsM xM⟩,(freeK (vals xK) n c xk).2.2)):=hid HRR.out.symm
 clear HRR
 generalize freeK (vals xK) n c xk=o at KF HRV hfg
 obtain⟨ol,oa,oc⟩:=o
 dsimp only at HRV hfg
 have e1:IntKind.i64.wrap (xk+oa)=xk+oa:=by rw[IntKind.wrap_i64];omega
 go_enter Tryz.func120,Tryz.ntmps120
 go_upto_region 1 with fail
 rw[<-hW1,<-hW2]
 rw[HNB.out]
 clear hW1 hW2
 go_upto_region 2 with (go_at_call 168;refine(KF.out _ HB0.out).mono ?_;rintro e w3 ⟨v3,M3,rfl,hv3,ho3,hb3⟩;dsimp only at hv3;obtain⟨a3,p3,rfl⟩:=Rw.own_form ho3.row;have HV3:=hid hv3;have HO3:=hid ho3;have HB3:=hid hb3;clear hv3 ho3 hb3)
 have HX3:=hid (HX0.out.later HB3.out)
 have HZ3:=hid (HZ0.out.later HB3.out)
 have HB03:=hid (step HB0.out HB3.out)
 clear c0 c1 c2 c3 c4 c5 cf HX0 HZ0 KF
 obtain⟨c0,c1,c2,c3,c4,c5,cf⟩:=HX3.out
 simp only[StC.sv,StC.kv,StC.mv] at c0 c1 c2 c3 c4 c5
 by_cases hc:oc=0
 ·have g1:(oc==(0:Int))=true:=by simpa using hc
  have hrv:=HRV.out
  rw[if_pos hc,if_pos hc] at hrv
  subst hrv
  have hF0:FromS HI w3 ⟨xt,xn,xk,xS,sa,sc,xK,ka,kc,xM,ma,mc⟩ ⟨xt,xn,xk+oa,xS,sa,sc,M3,a3,p3,xM,ma,mc⟩:=⟨.inl ⟨rfl,rfl,rfl⟩,.inr (HO3.out.lower hsz0),.inl ⟨rfl,rfl,rfl⟩⟩
  have hF:=(hF0.setBelow (show nb<HI by omega) 4 (.slice a3 M3.length p3)).setBelow (show nb<HI by omega) 2 (.int .i64 (xk+oa))
  have hX:=(HX3.out.set4 M3 a3 p3).set2 (xk+oa)
  have hZ:=(HZ3.out.other (show nb≠nb+1 by omega) 4 (.slice a3 M3.length p3)).other (show nb≠nb+1 by omega) 2 (.int .i64 (xk+oa))
  have hB:Below w.heap.size w ((w3.setCell ⟨nb,4,none⟩ (.slice a3 M3.length p3)).setCell ⟨nb,2,none⟩ (.int .i64 (xk+oa))):=(HB03.out.setCell (Nat.le_of_eq HNB.out) _).setCell (Nat.le_of_eq HNB.out) _
  clear hc hF0
  go_upto_region 4 with fail
  obtain⟨W4,hW4⟩: ∃W4,W4=(w3.setCell ⟨nb,4,none⟩ (.slice a3 M3.length p3)).setCell ⟨nb,2,none⟩ (.int .i64 (xk+oa)):=⟨_,rfl⟩
  rw[<-hW4] at hX hZ hF hB ⊢
  clear hW4 HX3 HZ3
  have HE:=hid ((hF.set6 hlt1 (.int .i64 xt) (.int .i64 xn) (.int .i64 (xk+oa)) (.slice sa xS.length sc) (.slice a3 M3.length p3) (.slice ma xM.length mc)).lower hHI)
  have HBE:=hid (below_set6 hB (nb+1) (by have:=HNB.out;omega) (.int .i64 xt) (.int .i64 xn) (.int .i64 (xk+oa)) (.slice sa xS.length sc) (.slice a3 M3.length p3) (.slice ma xM.length mc))
  have HXE:=hid hX
  have HZE:=hid hZ
  clear hF hB hX hZ c0 c1 c2 c3 c4 c5 cf
  obtain⟨c0,c1,c2,c3,c4,c5,cf⟩:=HXE.out
  simp only[StC.sv,StC.kv,StC.mv] at c0 c1 c2 c3 c4 c5
  obtain⟨z0,z1,z2,z3,z4,z5,zf⟩:=HZE.out
  simp only[zeroC10,StC.sv,StC.kv,StC.mv,List.length_nil] at z0 z1 z2 z3 z4 z5
  go_wp2
  refine bodyPost_ret (by simp [results,Tryz.results120,go_sem,z0,z1,z2,z3,z4,z5,zf]<;>rfl) rfl ?_
  exact⟨⟨xt,xn,xk+oa,xS,sa,sc,M3,a3,p3,xM,ma,mc⟩,rfl,(by unfold StC.v;dsimp only;rw[HV3.out]),HE.out,HBE.out⟩
 ·have g1:(oc==(0:Int))=false:=by simpa using hc
  have hrv:=HRV.out
  rw[if_neg hc,if_neg hc] at hrv
  subst hrv
  have hF:=FromS.refl HI w3 ⟨xt,xn,xk,xS,sa,sc,xK,ka,kc,xM,ma,mc⟩
  have hX:=HX3.out
  have hZ:=HZ3.out
  have hB:=HB03.out
  clear hc
  go_upto_region 4 with fail
  have HE:=hid ((hF.set6 hlt1 (.int .i64 xt) (.int .i64 xn) (.int .i64 xk) (.slice sa xS.length sc) (.slice ka xK.length kc) (.slice ma xM.length mc)).lower hHI)
  have HBE:=hid (below_set6 hB (nb+1) (by have:=HNB.out;omega) (.int .i64 xt) (.int .i64 xn) (.int .i64 xk) (.slice sa xS.length sc) (.slice ka xK.length kc) (.slice ma xM.length mc))
  have HXE:=hid hX
  have HZE:=hid hZ
  clear hF hB hX hZ c0 c1 c2 c3 c4 c5 cf
  obtain⟨c0,c1,c2,c3,c4,c5,cf⟩:=HXE.out
  simp only[StC.sv,StC.kv,StC.mv] at c0 c1 c2 c3 c4 c5
  obtain⟨z0,z1,z2,z3,z4,z5,zf⟩:=HZE.out
  simp only[zeroC10,StC.sv,StC.kv,StC.mv,List.length_nil] at z0 z1 z2 z3 z4 z5
  go_wp2
  refine bodyPost_ret (by simp [results,Tryz.results120,go_sem,z0,z1,z2,z3,z4,z5,zf]<;>rfl) rfl ?_
  exact⟨⟨xt,xn,xk,xS,sa,sc,xK,ka,kc,xM,ma,mc⟩,rfl,rfl,HE.out,HBE.out⟩
end Cm
end Go.Proofs.YtclcgkpfcogcdaaGreat
