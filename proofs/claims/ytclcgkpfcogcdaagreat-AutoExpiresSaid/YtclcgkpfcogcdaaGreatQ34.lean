/- Texts laid together by program. -/
import Derived.Test.YtclcgkpfcogcdaaGreatQ33
/- Contracts: package session's Open. -/
set_option linter.unusedVariables false
set_option maxRecDepth 8000
set_option linter.unusedSimpArgs false
namespace Go.Proofs.YtclcgkpfcogcdaaGreat
open Lib (hid)
open Go.RowKit Go.Shelf
namespace Cm

theorem putS_place (x:SesV) (l:List SesV):putS x l=l.take (placeI x.client l)++([x]++l.drop (placeI x.client l)):=by
 unfold placeI
 induction l with
 | nil=>rfl
 | cons s l ih=>
  unfold putS
  by_cases h:x.client<s.client
  ·rw[if_pos h,List.findIdx_cons]
   simp [h]
  ·rw[if_neg h,List.findIdx_cons,ih]
   simp [h]
theorem place_le (c:Int) (l:List SesV):placeI c l<=l.length:=List.findIdx_le_length
theorem find2_idx (l:List SesV) (c:Int):(idxI (isC c) l= -1/\(findS l c).2=false)\/ ∃k:Nat,idxI (isC c) l=k/\(findS l c).2=true:=by
 rcases idx_cases l c with e | ⟨k,e⟩
 ·exact .inl ⟨e,by rw[findS_miss l c e]⟩
 ·obtain⟨hk, -,hf⟩:=findS_hit l c k e
  exact .inr ⟨k,e,by rw[hf]⟩
def openW (w:World) (c n t:Int) (u x:Value):World:=
 ((w.alloc (.cells #[.int .i64 c,.int .i64 n,.int .i64 t] 46)).alloc (.cells #[u,.slice (some ⟨w.heap.size,0,none⟩) 1 1,x] 22)).drew
theorem openW_below (w:World) (c n t:Int) (u x:Value):Below w.heap.size w (openW w c n t u x):=(step (newAlloc _ _) (newAlloc _ _)).drew
theorem open_cat (w:World) (c n t:Int) (u x:Value) (A B:List SesV) (hl:A.length+1+B.length<=1000000) (hu:RdS w u A) (hx:RdS w x B):
  Calls Tryz.prog 199 #[.slice (some ⟨w.heap.size+1,0,none⟩) 3 3] (openW w c n t u x) (MadeL (A++([⟨c,n,t⟩]++B)) (openW w c n t u x)):=by
 have hb:=openW_below w c n t u x
 refine ConcatS_three (openW w c n t u x) (w.heap.size+1) u (.slice (some ⟨w.heap.size,0,none⟩) 1 1) x A [⟨c,n,t⟩] B (hu.later hb) ?_ (hx.later hb) ?_ ?_ ?_ (by simpa using hl)
 ·refine RdX.one (cs:=#[.int .i64 c,.int .i64 n,.int .i64 t]) (t:=46) ?_ rfl
  show((w.heap.push _).push _)[w.heap.size]?= _
  simp [Array.getElem?_push]
 all_goals (unfold openW;simp [go_sem])
set_option maxHeartbeats 4000000 in
theorem SesOpen_any (v:Value) (l:List SesV) (c n t:Int) (w:World) (h:RdS w v l):Calls Tryz.prog 164 #[v,.int .i64 c,.int .i64 n,.int .i64 t] w (GetsS (openS l c n t) w):=by
 have HR:=hid h
 obtain⟨a,cap,rfl⟩:=h.form
 have hcap:l.length<=cap/\cap<=maxLen:=by
  obtain⟨a',cap',hv,q1,q2,_⟩:=h.ex
  cases hv
  exact⟨q1,q2⟩
 unfold maxLen at hcap
 obtain⟨hc1,hc2⟩:=hcap
 have HB0:=hid (newAlloc w (.cells #[.int .i64 c,.int .i64 n,.int .i64 t] 46))
 obtain⟨y0,y1,y2⟩:=box3 (Below.refl _ (w.alloc (.cells #[.int .i64 c,.int .i64 n,.int .i64 t] 46)))
 have CR:Hid (∀w,Calls Tryz.prog 92 #[.agg #[.int .i64 c,.int .i64 n,.int .i64 t]] w (SaysB (oneS ⟨c,n,t⟩) w)):=fun w=>isRight_any ⟨c,n,t⟩ w
 have HT:=hid (fun w' (hb:Below w.heap.size w w')=>numOf_any _ l c n w' (h.later hb))
 have HI:=hid (fun w' (hb:Below w.heap.size w w')=>Index_any _ l c w' (h.later hb))
 have HP:=hid (fun w' (hb:Below w.heap.size w w')=>placeOf_any _ l c w' (h.later hb))
 clear h
 have hO:oneS ⟨c,n,t⟩=(clientF c && highF n 1 && highF t 0):=rfl
 cases n1:oneS ⟨c,n,t⟩
 case false=>
  have e:openS l c n t=([],1):=by unfold openS;rw[<-hO,n1];simp
  rw[e]
  rw[n1] at CR
  clear e n1 hO HR HT HI HP
  generalize l.length=L at*
  go_enter Tryz.func164,Tryz.ntmps164
  go_wp2_with (go_at_call 92;refine(CR.out _).mono ?_;rintro e w2 ⟨rfl,hb2⟩)
  go_ret2
  exact GetsS.empty rfl (step HB0.out hb2)
 rw[n1] at CR
 cases n2:takenS l c n
 case true=>
  have e:openS l c n t=([],1):=by unfold openS;rw[<-hO,n1,n2];simp
  rw[e]
  rw[n2] at HT
  clear e n1 hO HR HI HP n2
  generalize l.length=L at*
  go_enter Tryz.func164,Tryz.ntmps164
  go_wp2_with (first
   | (go_at_call 92;refine(CR.out _).mono ?_;rintro e w2 ⟨rfl,hb2⟩;have HB2:=hid (step HB0.out hb2))
   | (go_at_call 93;refine(HT.out _ HB2.out).mono ?_;rintro e w3 ⟨rfl,hb3⟩))
  go_ret2
  exact GetsS.empty rfl (step HB2.out hb3)
 rw[n2] at HT
 rcases find2_idx l c with ⟨e1,e2⟩ | ⟨k,e1,e2⟩
 case inr=>
  have e:openS l c n t=([],7):=by unfold openS;rw[<-hO,n1,n2,e2];simp
  rw[e]
  rw[e1] at HI
  have g1:(0:Int)<=(k:Int):=by omega
  clear e e1 e2 n1 hO HR HP n2
  generalize l.length=L at*
  go_enter Tryz.func164,Tryz.ntmps164
  go_wp2_with (first
   | (go_at_call 92;refine(CR.out _).mono ?_;rintro e w2 ⟨rfl,hb2⟩;have HB2:=hid (step HB0.out hb2))
   | (go_at_call 93;refine(HT.out _ HB2.out).mono ?_;rintro e w3 ⟨rfl,hb3⟩;have HB3:=hid (step HB2.out hb3))
   | (go_at_call 166;refine(HI.out _ HB3.out).mono ?_;rintro e w4 ⟨rfl,hb4⟩))
  go_ret2
  exact GetsS.empty rfl (step HB3.out hb4)
 rw[e1] at HI
 by_cases c5:5<=l.length
 ·have e:openS l c n t=([],5):=by unfold openS;rw[<-hO,n1,n2,e2];simp [c5]
  rw[e]
  have d5:decide ((5:Int)<=(l.length:Int))=true:=by simp;omega
  clear e e1 e2 n1 hO HR HP n2 c5
  generalize l.length=L at*
  go_enter Tryz.func164,Tryz.ntmps164
  go_wp2_with (first
   | (go_at_call 92;refine(CR.out _).mono ?_;rintro e w2 ⟨rfl,hb2⟩;have HB2:=hid (step HB0.out hb2))
   | (go_at_call 93;refine(HT.out _ HB2.out).mono ?_;rintro e w3 ⟨rfl,hb3⟩;have HB3:=hid (step HB2.out hb3))
   | (go_at_call 166;refine(HI.out _ HB3.out).mono ?_;rintro e w4 ⟨rfl,hb4⟩))
  go_ret2
  exact GetsS.empty rfl (step HB3.out hb4)
 have e:openS l c n t=(putS ⟨c,n,t⟩ l,0):=by unfold openS;rw[<-hO,n1,n2,e2,if_neg (by simp),if_neg (by simp),if_neg (by simp),if_neg c5]
 rw[e,putS_place]
 dsimp only
 have d5:decide ((5:Int)<=(l.length:Int))=false:=by simp;omega
 have hk:=place_le c l
 have HT1:=hid (HR.out.take (placeI c l) hk)
 have HD1:=hid (HR.out.drop (by omega) (placeI c l) hk)
 have HL:Hid ((l.take (placeI c l)).length +1+(l.drop (placeI c l)).length <=1000000):=hid (by rw[List.length_take,List.length_drop];omega)
 clear e e1 e2 n1 hO n2 HR
 generalize placeI c l=k at HT1 HD1 HL HP hk ⊢
 have g1:(0:Int)<=(k:Int):=by omega
 have g2:(k:Int)<=(cap:Int):=by omega
 have g3:(k:Int)<=(l.length:Int):=by omega
 have g4:(0:Int)<=(l.length:Int) - (k:Int):=by omega
 clear hk
 generalize l.take k=A at HT1 HL ⊢
 generalize l.drop k=B at HD1 HL ⊢
 generalize l.length=L at*
 clear hc1 hc2 c5
 by_cases hcp:cap=k
 ·rw[if_pos hcp] at HD1
  subst hcp
  rw[Nat.sub_self] at HD1
  clear g2
  go_enter Tryz.func164,Tryz.ntmps164
  go_upto_region 9 with (first
   | (go_at_call 92;refine(CR.out _).mono ?_;rintro e w2 ⟨rfl,hb2⟩;have z0:=(hb2.cell (lt_of_cell y0)).trans y0;have z1:=(hb2.cell (lt_of_cell y1)).trans y1;have z2:=(hb2.cell (lt_of_cell y2)).trans y2;have HB2:=hid (step HB0.out hb2))
   | (go_at_call 93;refine(HT.out _ HB2.out).mono ?_;rintro e w3 ⟨rfl,hb3⟩;have HB3:=hid (step HB2.out hb3))
   | (go_at_call 166;refine(HI.out _ HB3.out).mono ?_;rintro e w4 ⟨rfl,hb4⟩;have HB4:=hid (step HB3.out hb4))
   | (go_at_call 198;refine(HP.out _ HB4.out).mono ?_;rintro e w5 ⟨rfl,hb5⟩;have HB5:=hid (step HB4.out hb5)))
  have hh:Below (w.alloc (.cells #[.int .i64 c,.int .i64 n,.int .i64 t] 46)).heap.size (w.alloc (.cells #[.int .i64 c,.int .i64 n,.int .i64 t] 46)) w5:=step (step (step hb2 hb3) hb4) hb5
  have x0:=(hh.cell (lt_of_cell y0)).trans y0
  have x1:=(hh.cell (lt_of_cell y1)).trans y1
  have x2:=(hh.cell (lt_of_cell y2)).trans y2
  clear hb2 hb3 hb4 hb5 HB2 HB3 HB4 z0 z1 z2 hh y0 y1 y2 HT HI HP CR
  have HQ:Hid (∀w',Below w5.heap.size w5 w'->w'.cell? ⟨w.heap.size,0,none⟩=some (.int .i64 c)/\w'.cell? ⟨w.heap.size,1,none⟩=some (.int .i64 n)/\w'.cell? ⟨w.heap.size,2,none⟩=some (.int .i64 t)):=hid fun w' hb=>⟨(hb.cell (lt_of_cell x0)).trans x0,(hb.cell (lt_of_cell x1)).trans x1,(hb.cell (lt_of_cell x2)).trans x2⟩
  have HZ:=hid (open_cat w5 c n t _ _ A B HL.out (HT1.out.later HB5.out) (HD1.out.later HB5.out))
  clear HT1 HD1 HL
  go_region_held3 (fun w'=>w'.cell? ⟨w.heap.size,0,none⟩=some (.int .i64 c)/\w'.cell? ⟨w.heap.size,1,none⟩=some (.int .i64 n)/\w'.cell? ⟨w.heap.size,2,none⟩=some (.int .i64 t))
   (first | exact⟨x0,x1,x2⟩ | exact HQ.out _ (newAlloc _ _) | exact HQ.out _ (newAlloc _ _).drew | exact HQ.out _ (step (newAlloc _ _) (newAlloc _ _)) | exact HQ.out _ (step (newAlloc _ _) (newAlloc _ _)).drew | exact HQ.out _ (step (openW_below _ _ _ _ _ _) hb6))
   (first
    | (go_at_call 199;refine HZ.out.mono ?_;rintro e w6 ⟨v6,rfl,ho6,hb6⟩))
  go_wp2
  go_ret2
  exact⟨v6,rfl,own_lowerX ho6 (step HB5.out (openW_below _ _ _ _ _ _)).size,step (step HB5.out (openW_below _ _ _ _ _ _)) hb6⟩
 ·rw[if_neg hcp] at HD1
  go_enter Tryz.func164,Tryz.ntmps164
  go_upto_region 9 with (first
   | (go_at_call 92;refine(CR.out _).mono ?_;rintro e w2 ⟨rfl,hb2⟩;have z0:=(hb2.cell (lt_of_cell y0)).trans y0;have z1:=(hb2.cell (lt_of_cell y1)).trans y1;have z2:=(hb2.cell (lt_of_cell y2)).trans y2;have HB2:=hid (step HB0.out hb2))
   | (go_at_call 93;refine(HT.out _ HB2.out).mono ?_;rintro e w3 ⟨rfl,hb3⟩;have HB3:=hid (step HB2.out hb3))
   | (go_at_call 166;refine(HI.out _ HB3.out).mono ?_;rintro e w4 ⟨rfl,hb4⟩;have HB4:=hid (step HB3.out hb4))
   | (go_at_call 198;refine(HP.out _ HB4.out).mono ?_;rintro e w5 ⟨rfl,hb5⟩;have HB5:=hid (step HB4.out hb5)))
  have hh:Below (w.alloc (.cells #[.int .i64 c,.int .i64 n,.int .i64 t] 46)).heap.size (w.alloc (.cells #[.int .i64 c,.int .i64 n,.int .i64 t] 46)) w5:=step (step (step hb2 hb3) hb4) hb5
  have x0:=(hh.cell (lt_of_cell y0)).trans y0
  have x1:=(hh.cell (lt_of_cell y1)).trans y1
  have x2:=(hh.cell (lt_of_cell y2)).trans y2
  clear hb2 hb3 hb4 hb5 HB2 HB3 HB4 z0 z1 z2 hh y0 y1 y2 HT HI HP CR
  have HQ:Hid (∀w',Below w5.heap.size w5 w'->w'.cell? ⟨w.heap.size,0,none⟩=some (.int .i64 c)/\w'.cell? ⟨w.heap.size,1,none⟩=some (.int .i64 n)/\w'.cell? ⟨w.heap.size,2,none⟩=some (.int .i64 t)):=hid fun w' hb=>⟨(hb.cell (lt_of_cell x0)).trans x0,(hb.cell (lt_of_cell x1)).trans x1,(hb.cell (lt_of_cell x2)).trans x2⟩
  have HZ:=hid (open_cat w5 c n t _ _ A B HL.out (HT1.out.later HB5.out) (HD1.out.later HB5.out))
  clear HT1 HD1 HL
  go_region_held3 (fun w'=>w'.cell? ⟨w.heap.size,0,none⟩=some (.int .i64 c)/\w'.cell? ⟨w.heap.size,1,none⟩=some (.int .i64 n)/\w'.cell? ⟨w.heap.size,2,none⟩=some (.int .i64 t))
   (first | exact⟨x0,x1,x2⟩ | exact HQ.out _ (newAlloc _ _) | exact HQ.out _ (newAlloc _ _).drew | exact HQ.out _ (step (newAlloc _ _) (newAlloc _ _)) | exact HQ.out _ (step (newAlloc _ _) (newAlloc _ _)).drew | exact HQ.out _ (step (openW_below _ _ _ _ _ _) hb6))
   (first
    | (go_at_call 199;refine HZ.out.mono ?_;rintro e w6 ⟨v6,rfl,ho6,hb6⟩))
  go_wp2
  go_ret2
  exact⟨v6,rfl,own_lowerX ho6 (step HB5.out (openW_below _ _ _ _ _ _)).size,step (step HB5.out (openW_below _ _ _ _ _ _)) hb6⟩
end Cm
end Go.Proofs.YtclcgkpfcogcdaaGreat
