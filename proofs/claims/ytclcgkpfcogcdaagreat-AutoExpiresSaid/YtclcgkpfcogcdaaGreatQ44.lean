/- Texts laid together by program. -/
import Derived.Test.YtclcgkpfcogcdaaGreatQ43
/- Contracts: package auto's allHaveSessions, Right. -/
set_option linter.unusedVariables false
set_option maxRecDepth 8000
set_option linter.unusedSimpArgs false
namespace Go.Proofs.YtclcgkpfcogcdaaGreat
open Lib (hid)
open Go.RowKit Go.Shelf Go.Deep
namespace Cm

def haveA (s:StV):Bool:=s.locks.all fun k=>(k.holder::k.line).all (hasA s)
theorem all_two {α:Type} (p q r:α->Bool) (h: ∀x,r x=(p x && q x)): ∀l:List α,(l.all p && l.all q)=l.all r
 | []=>rfl
 | x::l=>by
  rw[List.all_cons,List.all_cons,List.all_cons,<-all_two p q r h l,h x]
  cases p x<;>cases q x<;>simp
theorem haveA_fit (s:StV):(givenA s && haveA s)=(s.ses.all (fun x=>decide (x.num<=s.num)) && s.locks.all (fitA s)):=by
 unfold givenA haveA
 rw[Bool.and_assoc]
 congr 1
 refine all_two _ _ _ (fun k=>?_) _
 unfold fitA
 rw[List.all_cons]
 cases hasA s k.holder<;>cases decide (k.token<=s.token)<;>simp
theorem box2s {w w':World} {x y:Value} {t:TypeId} (h:Below (w.alloc (.cells #[x,y] t)).heap.size (w.alloc (.cells #[x,y] t)) w'):w'.cell? ⟨w.heap.size,0,none⟩=some x/\w'.cell? ⟨w.heap.size,1,none⟩=some y:=by
 have hl:w.heap.size<(w.alloc (.cells #[x,y] t)).heap.size :=by simp
 refine⟨?_,?_⟩
 ·rw[h.cell (p:=⟨w.heap.size,0,none⟩) hl];simp [go_sem]
 ·rw[h.cell (p:=⟨w.heap.size,1,none⟩) hl];simp [go_sem]
set_option maxHeartbeats 8000000 in
theorem allHave_any (x:StC) (w:World) (h:RdSt w x) (h5:x.S.length<=1000) (h6:x.K.length<=9223372036854775807) (h7: ∀k∈x.K,k.line.length<=1000):Calls Tryz.prog 51 #[stVal x] w (SaysB (haveA x.v) w):=by
 obtain⟨W1,hW1⟩: ∃W1,W1=w.alloc (.cells #[.int .i64 x.time,.int .i64 x.num,.int .i64 x.token,x.sv,x.kv,x.mv] 26):=⟨_,rfl⟩
 have hb1:Below w.heap.size w W1:=by rw[hW1];exact newAlloc _ _
 have hB1:BoxS W1 w.heap.size x:=by rw[hW1];exact BoxS.new w x _
 have HX0:=hid hB1
 have HB0:=hid hb1
 have HAS:=hid (fun i hi=>rds_at h.s i hi)
 have HAK:=hid (fun i hi=>rdk_at h.k.row i hi)
 have HLI:=hid (fun i (hi:i<x.K.length) W (hb:Below w.heap.size w W)=>(h.k.line _ (List.getElem_mem hi)).later hb)
 have HLL:=hid (fun i (hi:i<x.K.length)=>h7 _ (List.getElem_mem hi))
 have HR:Hid (haveA x.v=x.K.all fun k=>(k.holder::k.line).all (hasA x.v)):=hid (by
  unfold haveA
  show(vals x.K).all _= _
  unfold vals
  rw[List.all_map]
  rfl)
 have HHA:Hid (∀c,hasA x.v c=(findS x.S c).2):=hid fun c=>rfl
 obtain⟨R,hR⟩: ∃R,haveA x.v=R:=⟨_,rfl⟩
 rw[hR] at HR ⊢
 clear hR
 obtain⟨nb,hnb⟩: ∃nb,w.heap.size=nb:=⟨_,rfl⟩
 have HNB:=hid hnb
 rw[hnb] at HX0
 clear hnb h h7 hb1 hB1
 generalize hasA x.v=A at HR HHA
 obtain⟨xt,xn,xk,xS,sa,sc,xK,ka,kc,xM,ma,mc⟩:=x
 unfold stVal
 simp only[StC.sv,StC.kv,StC.mv] at hW1 HAS HAK ⊢
 dsimp only at h5 h6 HR HHA HLI HLL ⊢
 obtain⟨NS,hNS⟩: ∃NS,xS.length=NS:=⟨_,rfl⟩
 obtain⟨NK,hNK⟩: ∃NK,xK.length=NK:=⟨_,rfl⟩
 have HNS:=hid hNS
 have HNK:=hid hNK
 obtain⟨c0,c1,c2,c3,c4,c5,cf⟩:=HX0.out
 simp only[StC.sv,StC.kv,StC.mv] at c0 c1 c2 c3 c4 c5
 rw[hNK] at c4 h6
 rw[hNS] at h5
 clear hNS hNK
 have hm2:NS<=9223372036854775807:=by omega
 go_enter Tryz.func51,Tryz.ntmps51
 go_upto_region 1 with fail
 rw[<-hW1]
 rw[HNB.out]
 clear hW1
 go_wp2
 go_loopg [12] NK (fun g i wx=> ∃(k:Nat),k+g=NK/\i= .int .i64 k/\Hid (((xK.take k).all fun z=>(z.holder::z.line).all A)=true)/\Hid (Below W1.heap.size W1 wx))
 case atStart=>exact⟨0,by omega,rfl,hid rfl,hid (Below.refl _ _)⟩
 case round=>
  obtain⟨k,hkg,rfl,HM,HB⟩:=hrel
  cases gk with
  | zero=>
   have hkz: ¬((k:Int)<(NK:Int)):=by omega
   have hk:k=NK:=by omega
   have hM:=HM.out
   rw[hk,<-HNK.out,List.take_length,<-HR.out] at hM
   have HMM:=hid hM
   clear hM HM hk
   go_wp2
   try rw[Exit.noGoto_ret]
   go_ret
   exact⟨by rw[HMM.out];rfl,step HB0.out HB.out⟩
  | succ g=>
   have hkz:(k:Int)<(NK:Int):=by omega
   have f1:(0:Int)<=(k:Int):=by omega
   have hkl:k<xK.length:=by rw[HNK.out];omega
   obtain⟨b,o,rfl,hc⟩:=HAK.out k hkl
   have HBW:=hid (step HB0.out HB.out)
   obtain⟨q0,q1,q2,q3⟩:=hc wr HBW.out
   have hta:((xK.take (k+1)).all fun z=>(z.holder::z.line).all A)=(((xK.take k).all fun z=>(z.holder::z.line).all A) && (xK[k].holder ::xK[k].line).all A):=by
    rw[List.take_succ_eq_append_getElem hkl,List.all_append]
    simp
   have hno:(xK[k].holder ::xK[k].line).all A=false->R=false:=fun q=>by
    rw[HR.out]
    exact List.all_eq_false.2 ⟨xK[k],List.getElem_mem hkl,by rw[q];simp⟩
   have hli:=HLI.out k hkl
   have hll:=HLL.out k hkl
   rw[HM.out,Bool.true_and] at hta
   clear hc HAK HLI HLL HM
   generalize xK[k]=z at q0 q1 q2 q3 hta hno hli hll
   obtain⟨zn,zh,zt,zl,za,zp⟩:=z
   unfold LockC.lv at q3 hli
   dsimp only at q0 q1 q2 q3 hta hno hli hll
   have HTA:=hid hta
   have HNO:=hid hno
   obtain⟨W3,hW3⟩: ∃W3,W3=wr.alloc (.cells #[.string (bstr zn),.int .i64 zh,.int .i64 zt,.slice za zl.length zp] 60):=⟨_,rfl⟩
   have hb3:Below wr.heap.size wr W3:=by rw[hW3];exact newAlloc _ _
   obtain⟨W4,hW4⟩: ∃W4,W4=W3.alloc (.cells #[.int .i64 zh] 3):=⟨_,rfl⟩
   have hb4:Below W3.heap.size W3 W4:=by rw[hW4];exact newAlloc _ _
   obtain⟨W5,hW5⟩: ∃W5,W5=W4.alloc (.cells #[.slice (some ⟨W3.heap.size,0,none⟩) 1 1,.slice za zl.length zp] 58):=⟨_,rfl⟩
   have hb5:Below W4.heap.size W4 W5:=by rw[hW5];exact newAlloc _ _
   have HB35:=hid (step hb3 (step hb4 hb5))
   have hu:RdI W5 (.slice (some ⟨W3.heap.size,0,none⟩) 1 1) [zh]:=RdX.later (by rw[hW4];exact rdi_one W3 zh) hb5
   obtain⟨e0,e1⟩:=box2s (Below.refl _ (W4.alloc (.cells #[.slice (some ⟨W3.heap.size,0,none⟩) 1 1,.slice za zl.length zp] 58)))
   rw[<-hW5] at e0 e1
   have KC:=hid (ConcatI_two W5 W4.heap.size _ _ [zh] zl hu (hli W5 (step HBW.out HB35.out)) e0 e1 (by simp;omega))
   obtain⟨y0,y1,y2,y3⟩:=box4 (Below.refl _ (wr.alloc (.cells #[.string (bstr zn),.int .i64 zh,.int .i64 zt,.slice za zl.length zp] 60)))
   rw[<-hW3] at y0 y1 y2 y3
   have x3:W4.cell? ⟨wr.heap.size,3,none⟩=some (.slice za zl.length zp):=(hb4.cell (lt_of_cell y3)).trans y3
   have hcl:([zh]++zl).length <=1001:=by simp;omega
   have HCL:Hid ([zh]++zl=zh::zl):=hid rfl
   generalize [zh]++zl=cl at KC hcl HCL
   have HW3:=hid hW3
   have HW4:=hid hW4
   have HW5:=hid hW5
   have HB5:=hid (step HB.out HB35.out)
   clear hb3 hb4 hb5 hu e0 e1 hta hno hli hW3 hW4 hW5
   obtain⟨ZN,hZN⟩: ∃ZN,zl.length=ZN:=⟨_,rfl⟩
   rw[hZN] at q3 y3 x3 HW3 HW5
   clear hZN
   have hs4:W4.heap.size=W3.heap.size+1:=by rw[HW4.out];simp
   rw[hs4] at KC
   rw[HW4.out] at x3
   go_upto_region 4 with fail
   rw[<-HW3.out]
   clear HW3 q0 q1 q2 q3 c0 c1 c2 c3 c4 c5 cf
   go_step3
   go_wp2
   go_step3
   go_upto_region 5 with (rw[<-HW4.out,<-HW5.out];go_at_call 101;refine KC.out.mono ?_;rintro e w6 ⟨v6,rfl,ho6,hb6⟩;obtain⟨a6,p6,rfl⟩:=Rw.own_form ho6;have HO6:=hid ho6;have HB6:=hid hb6;clear ho6 hb6)
   try rw[<-HW4.out]
   try rw[<-HW5.out]
   clear HW4 HW5 x3 y0 y1 y2 y3 hs4 KC
   have HBN6:=hid (step HB5.out HB6.out)
   have HBW6:=hid (step HB0.out HBN6.out)
   obtain⟨NC,hNC⟩: ∃NC,cl.length=NC:=⟨_,rfl⟩
   have HNC:=hid hNC
   have HAC:=hid (fun i hi=>rdi_at (RdX.own cellsI_length HO6.out) i hi)
   rw[hNC] at hcl ⊢
   clear hNC
   have hm3:NC<=9223372036854775807:=by omega
   obtain⟨wo,rfl⟩: ∃wo,wo=wr:=⟨_,rfl⟩
   go_wp2
   go_loopg [24] NC (fun g2 i wx=> ∃(j:Nat),j+g2=NC/\i= .int .i64 j/\Hid ((cl.take j).all A=true)/\Hid (Below w6.heap.size w6 wx))
   case atStart=>exact⟨0,by omega,rfl,hid rfl,hid (Below.refl _ _)⟩
   case round=>
    obtain⟨j,hjg,rfl,HJ,HB7⟩:=hrel
    have HB16:=hid (step HBN6.out HB7.out)
    cases gk with
    | zero=>
     have hjz: ¬((j:Int)<(NC:Int)):=by omega
     have hj:j=NC:=by omega
     have hJ:=HJ.out
     rw[hj,<-HNC.out,List.take_length,HCL.out] at hJ
     have HT:Hid (((xK.take (k+1)).all fun z=>(z.holder::z.line).all A)=true):=hid (by rw[HTA.out];exact hJ)
     clear hJ hj HJ
     go_wp2
     go_roundg g
     case measure=>omega
     case rel=>exact⟨k+1,by omega,by go_num,HT,HB16⟩
    | succ g2=>
     have hjz:(j:Int)<(NC:Int):=by omega
     have f3:(0:Int)<=(j:Int):=by omega
     have hjl:j<cl.length:=by rw[HNC.out];omega
     obtain⟨b2,o2,rfl,hc2⟩:=HAC.out j hjl
     have p0:=hc2 wr HB7.out
     have htj:(cl.take (j+1)).all A=((cl.take j).all A && A cl[j]):=by
      rw[List.take_succ_eq_append_getElem hjl,List.all_append]
      simp
     have hnj:A cl[j]=false->R=false:=fun q=>HNO.out (by rw[<-HCL.out];exact List.all_eq_false.2 ⟨cl[j],List.getElem_mem hjl,by rw[q];simp⟩)
     have hha:=HHA.out cl[j]
     rw[HJ.out,Bool.true_and] at htj
     clear hc2 HAC HJ
     generalize cl[j]=y at p0 htj hnj hha
     have HTJ:=hid htj
     have HNJ:=hid hnj
     have HHY:=hid hha
     clear htj hnj hha
     obtain⟨c0,c1,c2,c3,c4,c5,cf⟩:=HX0.out.later HB16.out
     simp only[StC.sv,StC.kv,StC.mv] at c0 c1 c2 c3 c4 c5
     rw[HNS.out] at c3
     obtain⟨wp,rfl⟩: ∃wp,wp=wr:=⟨_,rfl⟩
     go_wp2
     clear c0 c1 c2 c3 c4 c5 cf
     go_loopg [31] NS (fun g3 i wx=> ∃(m:Nat),m+g3=NS/\i= .int .i64 m/\Hid (∀s∈xS.take m,s.client≠y)/\Hid (Below wp.heap.size wp wx))
     case atStart=>exact⟨0,by omega,rfl,hid (fun s hs=>by simp at hs),hid (Below.refl _ _)⟩
     case round=>
      obtain⟨m,hmg,rfl,HN,HB8⟩:=hrel
      have HB18:=hid (step HB16.out HB8.out)
      cases gk with
      | zero=>
       have hz: ¬((m:Int)<(NS:Int)):=by omega
       have hmm:m=NS:=by omega
       have hN:=HN.out
       rw[hmm,<-HNS.out,List.take_length] at hN
       have HRF:Hid (R=false):=hid (HNJ.out (by rw[HHY.out];exact(findS_none xS y).2 hN))
       clear hN hmm HN
       go_wp2
       try rw[Exit.noGoto_ret]
       go_ret
       exact⟨by rw[HRF.out];rfl,step HB0.out HB18.out⟩
      | succ g3=>
       have hz:(m:Int)<(NS:Int):=by omega
       have f5:(0:Int)<=(m:Int):=by omega
       have hml:m<xS.length:=by rw[HNS.out];omega
       obtain⟨b3,o3,rfl,hc3⟩:=HAS.out m hml
       obtain⟨p1,p2,p3⟩:=hc3 wr (step HB0.out HB18.out)
       have htm: ∀s∈xS.take (m+1),s∈xS.take m\/s=xS[m]:=fun s hs=>by
        rw[List.take_succ_eq_append_getElem hml] at hs
        rcases List.mem_append.1 hs with q | q
        ·exact .inl q
        ·exact .inr (List.mem_singleton.1 q)
       have hfs:xS[m].client =y->(findS xS y).2=true:=fun q=>(findS_some xS y).2 ⟨xS[m],List.getElem_mem hml,q⟩
       clear hc3 HAS
       generalize xS[m]=s at p1 p2 p3 htm hfs
       obtain⟨sc',sn',sr'⟩:=s
       dsimp only at p1 p2 p3 hfs
       obtain⟨e0,e1,e2⟩:=box3s (Below.refl _ (wr.alloc (.cells #[.int .i64 sc',.int .i64 sn',.int .i64 sr'] 46)))
       have HB9:=hid (step HB8.out (newAlloc wr (.cells #[.int .i64 sc',.int .i64 sn',.int .i64 sr'] 46)))
       by_cases e:sc'=y
       ·have t1:(sc'==y)=true:=by simpa using e
        have HJ2:Hid ((cl.take (j+1)).all A=true):=hid (by rw[HTJ.out,HHY.out];exact hfs e)
        have HB79:=hid (step HB7.out HB9.out)
        clear hfs htm e HN
        go_wp2
        go_roundg g2
        case measure=>omega
        case rel=>exact⟨j+1,by omega,by go_num,HJ2,HB79⟩
       ·have t1:(sc'==y)=false:=by simpa using e
        have HN2:Hid (∀s∈xS.take (m+1),s.client≠y):=hid (fun s hs=>by
         rcases htm s hs with q | q
         ·exact HN.out s q
         ·rw[q];exact e)
        clear hfs htm e HN
        go_wp2
        go_roundg g3
        case measure=>omega
        case rel=>exact⟨m+1,by omega,by go_num,HN2,HB9⟩
end Cm
end Go.Proofs.YtclcgkpfcogcdaaGreat

/- Contract: package auto's Right (made by tools/gen_aucj.py). -/
set_option linter.unusedVariables false
set_option maxRecDepth 8000
set_option linter.unusedSimpArgs false
namespace Go.Proofs.YtclcgkpfcogcdaaGreat
open Lib (hid)
open Go.RowKit Go.Shelf Go.Deep
namespace Cm

theorem rightA_split (s:StV):rightA s=(highF s.time 0 && (highF s.num 0 && (highF s.token 0 && (rightS s.ses && (rightK s.locks && (rightM s.memos && (givenA s && haveA s))))))):=by
 unfold rightA
 rw[<-haveA_fit]
 simp only[Bool.and_assoc]
set_option maxHeartbeats 4000000 in
theorem AutoRight_any (x:StC) (w:World) (h:RdSt w x) (h5:x.S.length<=1000) (h6:x.K.length<=9223372036854775807) (h7: ∀k∈x.K,k.line.length<=1000) (hn: ∀k∈x.K,k.name.length<=maxLen):Calls Tryz.prog 12 #[stVal x] w (SaysB (rightA x.v) w):=by
 obtain⟨W1,hW1⟩: ∃W1,W1=w.alloc (.cells #[.int .i64 x.time,.int .i64 x.num,.int .i64 x.token,x.sv,x.kv,x.mv] 26):=⟨_,rfl⟩
 have hb1:Below w.heap.size w W1:=by rw[hW1];exact newAlloc _ _
 have HX:=hid (by rw[hW1];exact BoxS.new w x _:BoxS W1 w.heap.size x)
 have HB0:=hid hb1
 have KN:=hid (fun v W=>isNumberA_any v W)
 have KS:=hid (fun W (hb:Below w.heap.size w W)=>SesRight_any x.sv x.S W (h.later hb).s)
 have KK:=hid (fun W (hb:Below w.heap.size w W)=>LckRight_any x.kv x.K W (h.later hb).k hn)
 have KM:=hid (fun W (hb:Below w.heap.size w W)=>MemRight_any x.mv x.M W (h.later hb).m)
 have KG:=hid (fun W (hb:Below w.heap.size w W)=>allGiven_any x W (h.later hb))
 have KH:=hid (fun W (hb:Below w.heap.size w W)=>allHave_any x W (h.later hb) h5 h6 h7)
 rw[rightA_split]
 have HS1:Hid (highF x.v.time 0=highF x.time 0/\highF x.v.num 0=highF x.num 0/\highF x.v.token 0=highF x.token 0/\rightS x.v.ses=rightS x.S/\rightK x.v.locks=rightK (vals x.K)/\rightM x.v.memos=rightM (valsM x.M)):=hid ⟨rfl,rfl,rfl,rfl,rfl,rfl⟩
 obtain⟨s1,s2,s3,s4,s5,s6⟩:=HS1.out
 rw[s1,s2,s3,s4,s5,s6]
 clear s1 s2 s3 s4 s5 s6 HS1 h h5 h6 h7 hn hb1
 generalize rightS x.S=r4 at KS ⊢
 generalize rightK (vals x.K)=r5 at KK ⊢
 generalize rightM (valsM x.M)=r6 at KM ⊢
 generalize givenA x.v=r7 at KG ⊢
 generalize haveA x.v=r8 at KH ⊢
 obtain⟨nb,hnb⟩: ∃nb,w.heap.size=nb:=⟨_,rfl⟩
 have HNB:=hid hnb
 rw[hnb] at HX
 clear hnb
 obtain⟨xt,xn,xk,xS,sa,sc,xK,ka,kc,xM,ma,mc⟩:=x
 unfold stVal at KG KH ⊢
 simp only[StC.sv,StC.kv,StC.mv] at hW1 KS KK KM KG KH ⊢
 obtain⟨c0,c1,c2,c3,c4,c5,cf⟩:=HX.out
 simp only[StC.sv,StC.kv,StC.mv] at c0 c1 c2 c3 c4 c5
 go_enter Tryz.func12,Tryz.ntmps12
 go_upto_region 1 with fail
 rw[<-hW1]
 rw[HNB.out]
 clear hW1
 cases g0:highF xt 0 with
 | false=>
  go_wp2_with (first | (go_at_call 46;refine(KN.out _ _).mono ?_;rintro e w0 ⟨rfl,rfl⟩))
  go_ret
  exact⟨by simp [g0],HB0.out⟩
 | true=>
  cases g1:highF xn 0 with
  | false=>
   go_wp2_with (first | (go_at_call 46;refine(KN.out _ _).mono ?_;rintro e w0 ⟨rfl,rfl⟩))
   go_ret
   exact⟨by simp [g0,g1],HB0.out⟩
  | true=>
   cases g2:highF xk 0 with
   | false=>
    go_wp2_with (first | (go_at_call 46;refine(KN.out _ _).mono ?_;rintro e w0 ⟨rfl,rfl⟩))
    go_ret
    exact⟨by simp [g0,g1,g2],HB0.out⟩
   | true=>
    cases r4 with
    | false=>
     go_wp2_with (first | (go_at_call 46;refine(KN.out _ _).mono ?_;rintro e w0 ⟨rfl,rfl⟩) | (go_at_call 47;refine(KS.out W1 HB0.out).mono ?_;rintro e w2 ⟨rfl,hb2⟩;have HB2:=hid hb2;clear hb2;obtain⟨a0,a1,a2,a3,a4,a5,af⟩:=HX.out.later HB2.out;simp only[StC.sv,StC.kv,StC.mv] at a0 a1 a2 a3 a4 a5))
     go_ret
     exact⟨by simp [g0,g1,g2],step HB0.out HB2.out⟩
    | true=>
     cases r5 with
     | false=>
      go_wp2_with (first | (go_at_call 46;refine(KN.out _ _).mono ?_;rintro e w0 ⟨rfl,rfl⟩) | (go_at_call 47;refine(KS.out W1 HB0.out).mono ?_;rintro e w2 ⟨rfl,hb2⟩;have HB2:=hid hb2;clear hb2;obtain⟨a0,a1,a2,a3,a4,a5,af⟩:=HX.out.later HB2.out;simp only[StC.sv,StC.kv,StC.mv] at a0 a1 a2 a3 a4 a5) | (go_at_call 48;refine(KK.out w2 (step HB0.out HB2.out)).mono ?_;rintro e w3 ⟨rfl,hb3⟩;have HB3:=hid (step HB2.out hb3);clear hb3;obtain⟨b0,b1,b2,b3,b4,b5,bf⟩:=HX.out.later HB3.out;simp only[StC.sv,StC.kv,StC.mv] at b0 b1 b2 b3 b4 b5))
      go_ret
      exact⟨by simp [g0,g1,g2],step HB0.out HB3.out⟩
     | true=>
      cases r6 with
      | false=>
       go_wp2_with (first | (go_at_call 46;refine(KN.out _ _).mono ?_;rintro e w0 ⟨rfl,rfl⟩) | (go_at_call 47;refine(KS.out W1 HB0.out).mono ?_;rintro e w2 ⟨rfl,hb2⟩;have HB2:=hid hb2;clear hb2;obtain⟨a0,a1,a2,a3,a4,a5,af⟩:=HX.out.later HB2.out;simp only[StC.sv,StC.kv,StC.mv] at a0 a1 a2 a3 a4 a5) | (go_at_call 48;refine(KK.out w2 (step HB0.out HB2.out)).mono ?_;rintro e w3 ⟨rfl,hb3⟩;have HB3:=hid (step HB2.out hb3);clear hb3;obtain⟨b0,b1,b2,b3,b4,b5,bf⟩:=HX.out.later HB3.out;simp only[StC.sv,StC.kv,StC.mv] at b0 b1 b2 b3 b4 b5) | (go_at_call 49;refine(KM.out w3 (step HB0.out HB3.out)).mono ?_;rintro e w4 ⟨rfl,hb4⟩;have HB4:=hid (step HB3.out hb4);clear hb4;obtain⟨e0,e1,e2,e3,e4,e5,ef⟩:=HX.out.later HB4.out;simp only[StC.sv,StC.kv,StC.mv] at e0 e1 e2 e3 e4 e5))
       go_ret
       exact⟨by simp [g0,g1,g2],step HB0.out HB4.out⟩
      | true=>
       cases r7 with
       | false=>
        go_wp2_with (first | (go_at_call 46;refine(KN.out _ _).mono ?_;rintro e w0 ⟨rfl,rfl⟩) | (go_at_call 47;refine(KS.out W1 HB0.out).mono ?_;rintro e w2 ⟨rfl,hb2⟩;have HB2:=hid hb2;clear hb2;obtain⟨a0,a1,a2,a3,a4,a5,af⟩:=HX.out.later HB2.out;simp only[StC.sv,StC.kv,StC.mv] at a0 a1 a2 a3 a4 a5) | (go_at_call 48;refine(KK.out w2 (step HB0.out HB2.out)).mono ?_;rintro e w3 ⟨rfl,hb3⟩;have HB3:=hid (step HB2.out hb3);clear hb3;obtain⟨b0,b1,b2,b3,b4,b5,bf⟩:=HX.out.later HB3.out;simp only[StC.sv,StC.kv,StC.mv] at b0 b1 b2 b3 b4 b5) | (go_at_call 49;refine(KM.out w3 (step HB0.out HB3.out)).mono ?_;rintro e w4 ⟨rfl,hb4⟩;have HB4:=hid (step HB3.out hb4);clear hb4;obtain⟨e0,e1,e2,e3,e4,e5,ef⟩:=HX.out.later HB4.out;simp only[StC.sv,StC.kv,StC.mv] at e0 e1 e2 e3 e4 e5) | (go_at_call 50;refine(KG.out w4 (step HB0.out HB4.out)).mono ?_;rintro e w5 ⟨rfl,hb5⟩;have HB5:=hid (step HB4.out hb5);clear hb5;obtain⟨j0,j1,j2,j3,j4,j5,jf⟩:=HX.out.later HB5.out;simp only[StC.sv,StC.kv,StC.mv] at j0 j1 j2 j3 j4 j5))
        go_ret
        exact⟨by simp [g0,g1,g2],step HB0.out HB5.out⟩
       | true=>
        cases r8 with
        | false=>
         go_wp2_with (first | (go_at_call 46;refine(KN.out _ _).mono ?_;rintro e w0 ⟨rfl,rfl⟩) | (go_at_call 47;refine(KS.out W1 HB0.out).mono ?_;rintro e w2 ⟨rfl,hb2⟩;have HB2:=hid hb2;clear hb2;obtain⟨a0,a1,a2,a3,a4,a5,af⟩:=HX.out.later HB2.out;simp only[StC.sv,StC.kv,StC.mv] at a0 a1 a2 a3 a4 a5) | (go_at_call 48;refine(KK.out w2 (step HB0.out HB2.out)).mono ?_;rintro e w3 ⟨rfl,hb3⟩;have HB3:=hid (step HB2.out hb3);clear hb3;obtain⟨b0,b1,b2,b3,b4,b5,bf⟩:=HX.out.later HB3.out;simp only[StC.sv,StC.kv,StC.mv] at b0 b1 b2 b3 b4 b5) | (go_at_call 49;refine(KM.out w3 (step HB0.out HB3.out)).mono ?_;rintro e w4 ⟨rfl,hb4⟩;have HB4:=hid (step HB3.out hb4);clear hb4;obtain⟨e0,e1,e2,e3,e4,e5,ef⟩:=HX.out.later HB4.out;simp only[StC.sv,StC.kv,StC.mv] at e0 e1 e2 e3 e4 e5) | (go_at_call 50;refine(KG.out w4 (step HB0.out HB4.out)).mono ?_;rintro e w5 ⟨rfl,hb5⟩;have HB5:=hid (step HB4.out hb5);clear hb5;obtain⟨j0,j1,j2,j3,j4,j5,jf⟩:=HX.out.later HB5.out;simp only[StC.sv,StC.kv,StC.mv] at j0 j1 j2 j3 j4 j5) | (go_at_call 51;refine(KH.out w5 (step HB0.out HB5.out)).mono ?_;rintro e w6 ⟨rfl,hb6⟩;have HB6:=hid (step HB5.out hb6);clear hb6))
         go_ret
         exact⟨by simp [g0,g1,g2],step HB0.out HB6.out⟩
        | true=>
         go_wp2_with (first | (go_at_call 46;refine(KN.out _ _).mono ?_;rintro e w0 ⟨rfl,rfl⟩) | (go_at_call 47;refine(KS.out W1 HB0.out).mono ?_;rintro e w2 ⟨rfl,hb2⟩;have HB2:=hid hb2;clear hb2;obtain⟨a0,a1,a2,a3,a4,a5,af⟩:=HX.out.later HB2.out;simp only[StC.sv,StC.kv,StC.mv] at a0 a1 a2 a3 a4 a5) | (go_at_call 48;refine(KK.out w2 (step HB0.out HB2.out)).mono ?_;rintro e w3 ⟨rfl,hb3⟩;have HB3:=hid (step HB2.out hb3);clear hb3;obtain⟨b0,b1,b2,b3,b4,b5,bf⟩:=HX.out.later HB3.out;simp only[StC.sv,StC.kv,StC.mv] at b0 b1 b2 b3 b4 b5) | (go_at_call 49;refine(KM.out w3 (step HB0.out HB3.out)).mono ?_;rintro e w4 ⟨rfl,hb4⟩;have HB4:=hid (step HB3.out hb4);clear hb4;obtain⟨e0,e1,e2,e3,e4,e5,ef⟩:=HX.out.later HB4.out;simp only[StC.sv,StC.kv,StC.mv] at e0 e1 e2 e3 e4 e5) | (go_at_call 50;refine(KG.out w4 (step HB0.out HB4.out)).mono ?_;rintro e w5 ⟨rfl,hb5⟩;have HB5:=hid (step HB4.out hb5);clear hb5;obtain⟨j0,j1,j2,j3,j4,j5,jf⟩:=HX.out.later HB5.out;simp only[StC.sv,StC.kv,StC.mv] at j0 j1 j2 j3 j4 j5) | (go_at_call 51;refine(KH.out w5 (step HB0.out HB5.out)).mono ?_;rintro e w6 ⟨rfl,hb6⟩;have HB6:=hid (step HB5.out hb6);clear hb6))
         go_ret
         exact⟨by simp [g0,g1,g2],step HB0.out HB6.out⟩
end Cm
end Go.Proofs.YtclcgkpfcogcdaaGreat
