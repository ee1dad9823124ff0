/- Texts laid together by program. -/
import Derived.Test.YtlnbmblbeaodcaaGreatQS29
import Derived.Test.YtlnbmblbeaodcaaGreatQS37
/- Contract: package auto's Right (made by tools/gen_aucj.py). -/
set_option linter.unusedVariables false
set_option maxRecDepth 8000
set_option linter.unusedSimpArgs false
namespace Go.Proofs.YtlnbmblbeaodcaaGreat
open Lib (hid)
open Go.RowKit Go.Shelf Go.Deep
namespace Cm

theorem rightA_split (s:StV):rightA s=(highF s.time 0 && (highF s.num 0 && (highF s.token 0 && (rightS s.ses && (rightK s.locks && (rightM s.memos && (givenA s && haveA s))))))):=by
 unfold rightA
 rw[<-haveA_fit]
 simp only[Bool.and_assoc]
set_option maxHeartbeats 4000000 in
theorem AutoRight_any (x:StC) (w:World) (h:RdSt w x) (h5:x.S.length<=1000) (h6:x.K.length<=9223372036854775807) (h7: ∀k∈x.K,k.line.length<=1000) (hn: ∀k∈x.K,k.name.length<=maxLen):Calls Tryz.prog 11 #[stVal x] w (SaysB (rightA x.v) w):=by
 obtain⟨W1,hW1⟩: ∃W1,W1=w.alloc (.cells #[.int .i64 x.time,.int .i64 x.num,.int .i64 x.token,x.sv,x.kv,x.mv] 26):=⟨_,rfl⟩
 have hb1:Below w.heap.size w W1:=by rw[hW1];exact newAlloc _ _
 have HX:=hid (by rw[hW1];exact BoxS.new w x _:BoxS W1 w.heap.size x)
 have HB0:=hid hb1
 have KN:=hid (fun v W=>isNumberA_any v W)
 have KS:=hid (fun W (hb:Below w.heap.size w W)=>SesRight_any x.sv x.S W (h.later hb).s)
 have KK:=hid (fun W (hb:Below w.heap.size w W)=>LckRight_any x.kv x.K W (h.later hb).k hn)
 have KM:=hid (fun W (hb:Below w.heap.size w W)=>MemRight_any x.mv x.M W (h.later hb).m)
 have KG:=hid (fun W (hb:Below w.heap.size w W)=>allGiven_any x W (h.later hb))
 have KH:=hid (fun W (hb:Below w.heap.size w W)=>allHave_any x W (h.later hb) h5 h6 h7)
 rw[rightA_split]
 have HS1:Hid (highF x.v.time 0=highF x.time 0/\highF x.v.num 0=highF x.num 0/\highF x.v.token 0=highF x.token 0/\rightS x.v.ses=rightS x.S/\rightK x.v.locks=rightK (vals x.K)/\rightM x.v.memos=rightM (valsM x.M)):=hid ⟨rfl,rfl,rfl,rfl,rfl,rfl⟩
 obtain⟨s1,s2,s3,s4,s5,s6⟩:=HS1.out
 rw[s1,s2,s3,s4,s5,s6]
 clear s1 s2 s3 s4 s5 s6 HS1 h h5 h6 h7 hn hb1
 generalize rightS x.S=r4 at KS ⊢
 generalize rightK (vals x.K)=r5 at KK ⊢
 generalize rightM (valsM x.M)=r6 at KM ⊢
 generalize givenA x.v=r7 at KG ⊢
 generalize haveA x.v=r8 at KH ⊢
 obtain⟨nb,hnb⟩: ∃nb,w.heap.size=nb:=⟨_,rfl⟩
 have HNB:=hid hnb
 rw[hnb] at HX
 clear hnb
 obtain⟨xt,xn,xk,xS,sa,sc,xK,ka,kc,xM,ma,mc⟩:=x
 unfold stVal at KG KH ⊢
 simp only[StC.sv,StC.kv,StC.mv] at hW1 KS KK KM KG KH ⊢
 obtain⟨c0,c1,c2,c3,c4,c5,cf⟩:=HX.out
 simp only[StC.sv,StC.kv,StC.mv] at c0 c1 c2 c3 c4 c5
 go_enter Tryz.func11,Tryz.ntmps11
 go_upto_region 1 with fail
 rw[<-hW1]
 rw[HNB.out]
 clear hW1
 cases g0:highF xt 0 with
 | false=>
  go_wp2_with (first | (go_at_call 39;refine(KN.out _ _).mono ?_;rintro e w0 ⟨rfl,rfl⟩))
  go_ret
  exact⟨by simp [g0],HB0.out⟩
 | true=>
  cases g1:highF xn 0 with
  | false=>
   go_wp2_with (first | (go_at_call 39;refine(KN.out _ _).mono ?_;rintro e w0 ⟨rfl,rfl⟩))
   go_ret
   exact⟨by simp [g0,g1],HB0.out⟩
  | true=>
   cases g2:highF xk 0 with
   | false=>
    go_wp2_with (first | (go_at_call 39;refine(KN.out _ _).mono ?_;rintro e w0 ⟨rfl,rfl⟩))
    go_ret
    exact⟨by simp [g0,g1,g2],HB0.out⟩
   | true=>
    cases r4 with
    | false=>
     go_wp2_with (first | (go_at_call 39;refine(KN.out _ _).mono ?_;rintro e w0 ⟨rfl,rfl⟩) | (go_at_call 40;refine(KS.out W1 HB0.out).mono ?_;rintro e w2 ⟨rfl,hb2⟩;have HB2:=hid hb2;clear hb2;obtain⟨a0,a1,a2,a3,a4,a5,af⟩:=HX.out.later HB2.out;simp only[StC.sv,StC.kv,StC.mv] at a0 a1 a2 a3 a4 a5))
     go_ret
     exact⟨by simp [g0,g1,g2],step HB0.out HB2.out⟩
    | true=>
     cases r5 with
     | false=>
      go_wp2_with (first | (go_at_call 39;refine(KN.out _ _).mono ?_;rintro e w0 ⟨rfl,rfl⟩) | (go_at_call 40;refine(KS.out W1 HB0.out).mono ?_;rintro e w2 ⟨rfl,hb2⟩;have HB2:=hid hb2;clear hb2;obtain⟨a0,a1,a2,a3,a4,a5,af⟩:=HX.out.later HB2.out;simp only[StC.sv,StC.kv,StC.mv] at a0 a1 a2 a3 a4 a5) | (go_at_call 41;refine(KK.out w2 (step HB0.out HB2.out)).mono ?_;rintro e w3 ⟨rfl,hb3⟩;have HB3:=hid (step HB2.out hb3);clear hb3;obtain⟨b0,b1,b2,b3,b4,b5,bf⟩:=HX.out.later HB3.out;simp only[StC.sv,StC.kv,StC.mv] at b0 b1 b2 b3 b4 b5))
      go_ret
      exact⟨by simp [g0,g1,g2],step HB0.out HB3.out⟩
     | true=>
      cases r6 with
      | false=>
       go_wp2_with (first | (go_at_call 39;refine(KN.out _ _).mono ?_;rintro e w0 ⟨rfl,rfl⟩) | (go_at_call 40;refine(KS.out W1 HB0.out).mono ?_;rintro e w2 ⟨rfl,hb2⟩;have HB2:=hid hb2;clear hb2;obtain⟨a0,a1,a2,a3,a4,a5,af⟩:=HX.out.later HB2.out;simp only[StC.sv,StC.kv,StC.mv] at a0 a1 a2 a3 a4 a5) | (go_at_call 41;refine(KK.out w2 (step HB0.out HB2.out)).mono ?_;rintro e w3 ⟨rfl,hb3⟩;have HB3:=hid (step HB2.out hb3);clear hb3;obtain⟨b0,b1,b2,b3,b4,b5,bf⟩:=HX.out.later HB3.out;simp only[StC.sv,StC.kv,StC.mv] at b0 b1 b2 b3 b4 b5) | (go_at_call 42;refine(KM.out w3 (step HB0.out HB3.out)).mono ?_;rintro e w4 ⟨rfl,hb4⟩;have HB4:=hid (step HB3.out hb4);clear hb4;obtain⟨e0,e1,e2,e3,e4,e5,ef⟩:=HX.out.later HB4.out;simp only[StC.sv,StC.kv,StC.mv] at e0 e1 e2 e3 e4 e5))
       go_ret
       exact⟨by simp [g0,g1,g2],step HB0.out HB4.out⟩
      | true=>
       cases r7 with
       | false=>
        go_wp2_with (first | (go_at_call 39;refine(KN.out _ _).mono ?_;rintro e w0 ⟨rfl,rfl⟩) | (go_at_call 40;refine(KS.out W1 HB0.out).mono ?_;rintro e w2 ⟨rfl,hb2⟩;have HB2:=hid hb2;clear hb2;obtain⟨a0,a1,a2,a3,a4,a5,af⟩:=HX.out.later HB2.out;simp only[StC.sv,StC.kv,StC.mv] at a0 a1 a2 a3 a4 a5) | (go_at_call 41;refine(KK.out w2 (step HB0.out HB2.out)).mono ?_;rintro e w3 ⟨rfl,hb3⟩;have HB3:=hid (step HB2.out hb3);clear hb3;obtain⟨b0,b1,b2,b3,b4,b5,bf⟩:=HX.out.later HB3.out;simp only[StC.sv,StC.kv,StC.mv] at b0 b1 b2 b3 b4 b5) | (go_at_call 42;refine(KM.out w3 (step HB0.out HB3.out)).mono ?_;rintro e w4 ⟨rfl,hb4⟩;have HB4:=hid (step HB3.out hb4);clear hb4;obtain⟨e0,e1,e2,e3,e4,e5,ef⟩:=HX.out.later HB4.out;simp only[StC.sv,StC.kv,StC.mv] at e0 e1 e2 e3 e4 e5) | (go_at_call 43;refine(KG.out w4 (step HB0.out HB4.out)).mono ?_;rintro e w5 ⟨rfl,hb5⟩;have HB5:=hid (step HB4.out hb5);clear hb5;obtain⟨j0,j1,j2,j3,j4,j5,jf⟩:=HX.out.later HB5.out;simp only[StC.sv,StC.kv,StC.mv] at j0 j1 j2 j3 j4 j5))
        go_ret
        exact⟨by simp [g0,g1,g2],step HB0.out HB5.out⟩
       | true=>
        cases r8 with
        | false=>
         go_wp2_with (first | (go_at_call 39;refine(KN.out _ _).mono ?_;rintro e w0 ⟨rfl,rfl⟩) | (go_at_call 40;refine(KS.out W1 HB0.out).mono ?_;rintro e w2 ⟨rfl,hb2⟩;have HB2:=hid hb2;clear hb2;obtain⟨a0,a1,a2,a3,a4,a5,af⟩:=HX.out.later HB2.out;simp only[StC.sv,StC.kv,StC.mv] at a0 a1 a2 a3 a4 a5) | (go_at_call 41;refine(KK.out w2 (step HB0.out HB2.out)).mono ?_;rintro e w3 ⟨rfl,hb3⟩;have HB3:=hid (step HB2.out hb3);clear hb3;obtain⟨b0,b1,b2,b3,b4,b5,bf⟩:=HX.out.later HB3.out;simp only[StC.sv,StC.kv,StC.mv] at b0 b1 b2 b3 b4 b5) | (go_at_call 42;refine(KM.out w3 (step HB0.out HB3.out)).mono ?_;rintro e w4 ⟨rfl,hb4⟩;have HB4:=hid (step HB3.out hb4);clear hb4;obtain⟨e0,e1,e2,e3,e4,e5,ef⟩:=HX.out.later HB4.out;simp only[StC.sv,StC.kv,StC.mv] at e0 e1 e2 e3 e4 e5) | (go_at_call 43;refine(KG.out w4 (step HB0.out HB4.out)).mono ?_;rintro e w5 ⟨rfl,hb5⟩;have HB5:=hid (step HB4.out hb5);clear hb5;obtain⟨j0,j1,j2,j3,j4,j5,jf⟩:=HX.out.later HB5.out;simp only[StC.sv,StC.kv,StC.mv] at j0 j1 j2 j3 j4 j5) | (go_at_call 44;refine(KH.out w5 (step HB0.out HB5.out)).mono ?_;rintro e w6 ⟨rfl,hb6⟩;have HB6:=hid (step HB5.out hb6);clear hb6))
         go_ret
         exact⟨by simp [g0,g1,g2],step HB0.out HB6.out⟩
        | true=>
         go_wp2_with (first | (go_at_call 39;refine(KN.out _ _).mono ?_;rintro e w0 ⟨rfl,rfl⟩) | (go_at_call 40;refine(KS.out W1 HB0.out).mono ?_;rintro e w2 ⟨rfl,hb2⟩;have HB2:=hid hb2;clear hb2;obtain⟨a0,a1,a2,a3,a4,a5,af⟩:=HX.out.later HB2.out;simp only[StC.sv,StC.kv,StC.mv] at a0 a1 a2 a3 a4 a5) | (go_at_call 41;refine(KK.out w2 (step HB0.out HB2.out)).mono ?_;rintro e w3 ⟨rfl,hb3⟩;have HB3:=hid (step HB2.out hb3);clear hb3;obtain⟨b0,b1,b2,b3,b4,b5,bf⟩:=HX.out.later HB3.out;simp only[StC.sv,StC.kv,StC.mv] at b0 b1 b2 b3 b4 b5) | (go_at_call 42;refine(KM.out w3 (step HB0.out HB3.out)).mono ?_;rintro e w4 ⟨rfl,hb4⟩;have HB4:=hid (step HB3.out hb4);clear hb4;obtain⟨e0,e1,e2,e3,e4,e5,ef⟩:=HX.out.later HB4.out;simp only[StC.sv,StC.kv,StC.mv] at e0 e1 e2 e3 e4 e5) | (go_at_call 43;refine(KG.out w4 (step HB0.out HB4.out)).mono ?_;rintro e w5 ⟨rfl,hb5⟩;have HB5:=hid (step HB4.out hb5);clear hb5;obtain⟨j0,j1,j2,j3,j4,j5,jf⟩:=HX.out.later HB5.out;simp only[StC.sv,StC.kv,StC.mv] at j0 j1 j2 j3 j4 j5) | (go_at_call 44;refine(KH.out w5 (step HB0.out HB5.out)).mono ?_;rintro e w6 ⟨rfl,hb6⟩;have HB6:=hid (step HB5.out hb6);clear hb6))
         go_ret
         exact⟨by simp [g0,g1,g2],step HB0.out HB6.out⟩
end Cm
end Go.Proofs.YtlnbmblbeaodcaaGreat

/- Package snap's Put: any state. -/
set_option linter.unusedVariables false
set_option maxRecDepth 8000
set_option linter.unusedSimpArgs false
namespace Go.Proofs.YtlnbmblbeaodcaaGreat
open Lib (hid)
open Go.RowKit
namespace Cm
def putSt (s:StV):List UInt8 × Int:=if rightA s then (bytesSt s,0) else ([],1)
theorem WB.new (w:World) (g:Nat) (hg:w.heap.size=g):WB w g [] (w.alloc (.cells #[.slice none 0 0] 104)):=by
 subst hg
 refine⟨newAlloc w _,Nat.le_refl _,.slice none 0 0,?_,World.ownsRow_nil _ _ _ _⟩
 show(w.heap.push _)[w.heap.size]?= _
 simp
set_option maxHeartbeats 1000000 in
theorem SnapPut_any (x:StC) (w:World) (h:RdSt w x) (h5:x.S.length<=1000) (h6:x.K.length<=9223372036854775807) (h7: ∀k∈x.K,k.line.length<=1000) (hn: ∀k∈x.K,k.name.length<=maxLen):
  Calls Tryz.prog 21 #[stVal x] w (Made (putSt x.v) w):=by
 have CR:=hid (fun W hb=>AutoRight_any x W (h.later hb) h5 h6 h7 hn)
 have HR:=hid h
 unfold putSt
 have CP:Hid (rightA x.v=true-> ∀W W2 g,Below w.heap.size w W->WB W g [] W2->Calls Tryz.prog 69 #[.pointer (some ⟨g,0,none⟩),stVal x] W2 fun e w'=>e= .returned (.tuple #[])/\WB W g (bytesSt x.v) w'/\Kp W2 w'):=fun hx W W2 g hb hw=>by
  have:=SnapPutState W g [] W2 hw x hx (h.later hb) (by simp)
  rwa [List.nil_append] at this
 clear h h5 h6 h7 hn
 cases hx:rightA x.v
 case false=>
  rw[hx] at CR
  rw[if_neg (by simp)]
  have HX:=hid hx
  clear hx CP HR
  unfold stVal StC.sv StC.kv StC.mv at CR ⊢
  obtain⟨ti,nu,tk,S,sa,sc,K,ka,kc,M,ma,mc⟩:=x
  dsimp only at CR ⊢
  go_enter Tryz.func21,Tryz.ntmps21
  go_upto_region 1 with fail
  have hst:=newAlloc w (.cells #[.int .i64 ti,.int .i64 nu,.int .i64 tk,.slice sa S.length sc,.slice ka K.length kc,.slice ma M.length mc] 26)
  have hq:(w.alloc (.cells #[.int .i64 ti,.int .i64 nu,.int .i64 tk,.slice sa S.length sc,.slice ka K.length kc,.slice ma M.length mc] 26)).heap[w.heap.size]?=some (Obj.cells #[.int .i64 ti,.int .i64 nu,.int .i64 tk,.slice sa S.length sc,.slice ka K.length kc,.slice ma M.length mc] 26):=by show(w.heap.push _)[w.heap.size]?= _;simp
  have k0:=cell_atW hq 0
  have k1:=cell_atW hq 1
  have k2:=cell_atW hq 2
  have k3:=cell_atW hq 3
  have k4:=cell_atW hq 4
  have k5:=cell_atW hq 5
  simp only[List.getElem?_toArray,List.getElem?_cons_zero,List.getElem?_cons_succ] at k0 k1 k2 k3 k4 k5
  clear hq
  go_wp2_with (go_at_call 11;refine(CR.out _ hst).mono ?_;rintro e w2 ⟨rfl,hb2⟩)
  go_ret2
  exact⟨.slice none 0 0,rfl,World.ownsRow_nil _ _ _ _,step hst hb2⟩
 case true=>
  rw[hx] at CR
  rw[if_pos rfl]
  have CP:=hid (CP.out hx)
  clear hx HR
  generalize hB:bytesSt x.v=B at CP ⊢
  clear hB
  unfold stVal StC.sv StC.kv StC.mv at CR CP ⊢
  obtain⟨ti,nu,tk,S,sa,sc,K,ka,kc,M,ma,mc⟩:=x
  dsimp only at CR CP ⊢
  go_enter Tryz.func21,Tryz.ntmps21
  go_upto_region 1 with fail
  have hst:=newAlloc w (.cells #[.int .i64 ti,.int .i64 nu,.int .i64 tk,.slice sa S.length sc,.slice ka K.length kc,.slice ma M.length mc] 26)
  have hq:(w.alloc (.cells #[.int .i64 ti,.int .i64 nu,.int .i64 tk,.slice sa S.length sc,.slice ka K.length kc,.slice ma M.length mc] 26)).heap[w.heap.size]?=some (Obj.cells #[.int .i64 ti,.int .i64 nu,.int .i64 tk,.slice sa S.length sc,.slice ka K.length kc,.slice ma M.length mc] 26):=by show(w.heap.push _)[w.heap.size]?= _;simp
  have k0:=cell_atW hq 0
  have k1:=cell_atW hq 1
  have k2:=cell_atW hq 2
  have k3:=cell_atW hq 3
  have k4:=cell_atW hq 4
  have k5:=cell_atW hq 5
  simp only[List.getElem?_toArray,List.getElem?_cons_zero,List.getElem?_cons_succ] at k0 k1 k2 k3 k4 k5
  have HST:=hid hst
  have HQ:=hid hq
  generalize hW:w.alloc _=W at HST HQ hq k0 k1 k2 k3 k4 k5 ⊢
  generalize w.heap.size=xb at HQ hq k0 k1 k2 k3 k4 k5 ⊢
  clear hq hst hW
  go_upto_region 3 with (go_at_call 11;refine(CR.out _ HST.out).mono ?_;rintro e w2 ⟨rfl,hb2⟩)
  have HB:=hid (step HST.out hb2)
  have HQ:=hid ((hb2.block xb (get_ltW HQ.out)).trans HQ.out)
  clear hb2 k0 k1 k2 k3 k4 k5 CR HST
  go_upto_region 4 with fail
  have HW:Hid (WB w2 w2.heap.size [] (w2.alloc (.cells #[.slice none 0 0] 104))):=hid (WB.new w2 _ rfl)
  have hq:=((newAlloc w2 (.cells #[.slice none 0 0] 104)).block xb (get_ltW HQ.out)).trans HQ.out
  have k0:=cell_atW hq 0
  have k1:=cell_atW hq 1
  have k2:=cell_atW hq 2
  have k3:=cell_atW hq 3
  have k4:=cell_atW hq 4
  have k5:=cell_atW hq 5
  simp only[List.getElem?_toArray,List.getElem?_cons_zero,List.getElem?_cons_succ] at k0 k1 k2 k3 k4 k5
  clear hq HQ
  generalize hW:w2.alloc _=W2 at HW k0 k1 k2 k3 k4 k5 ⊢
  obtain⟨g,hg⟩: ∃g,w2.heap.size=g:=⟨_,rfl⟩
  have HG:=hid hg
  rw[hg] at HW ⊢
  clear hW hg
  go_wp2_with fail
  refine(CP.out _ _ _ HB.out HW.out).mono ?_
  rintro e w3 ⟨rfl,hw3,_⟩
  obtain⟨a,c,hbox,hown⟩:=WB.at (w2:=w3) hw3
  have HW:=hid hw3
  have HO:=hid hown
  have g0:=cell_atW hbox 0
  simp only[List.getElem?_toArray,List.getElem?_cons_zero] at g0
  clear hw3 hbox hown k0 k1 k2 k3 k4 k5 CP
  go_wp2_with fail
  go_ret2
  refine⟨_,rfl,own_lowerX HO.out (by have:=HB.out.size;have:=HG.out;omega),step HB.out HW.out.below⟩
end Cm
end Go.Proofs.YtlnbmblbeaodcaaGreat

/- Package snap's MaySnap, PutSnap: any snapshot. -/
set_option linter.unusedVariables false
set_option maxRecDepth 8000
set_option linter.unusedSimpArgs false
namespace Go.Proofs.YtlnbmblbeaodcaaGreat
open Lib (hid)
open Go.RowKit
namespace Cm

structure SnapC where
 done:Int
 tv:Int
 ts:Int
 st:StC
def snapVal (x:SnapC):Value:=.agg #[.int .i64 x.done,.int .i64 x.tv,.int .i64 x.ts,.int .i64 x.st.time,.int .i64 x.st.num,.int .i64 x.st.token,x.st.sv,x.st.kv,x.st.mv]
def maySn (x:SnapC):Bool:=highF x.done 0 && (highF x.tv 0 && (highF x.ts 0 && rightA x.st.v))
def bytesSn (x:SnapC):List UInt8:=be8 x.done.toNat++(be8 x.tv.toNat++(be8 x.ts.toNat++bytesSt x.st.v))
def putSn (x:SnapC):List UInt8 × Int:=if maySn x then (bytesSn x,0) else ([],1)
theorem isNumberSn_any (v:Int) (w:World):Calls Tryz.prog 80 #[.int .i64 v] w (Says (highF v 0) w):=by
  unfold highF
  by_cases h1:0<=v<;>by_cases h2:v<=2305843009213693952<;>
    (go_enter Tryz.func80,Tryz.ntmps80
     go_wp2
     go_ret
     exact⟨by simp [h1,h2]<;>omega,rfl⟩)
set_option maxHeartbeats 2000000 in
theorem MaySnap_any (x:SnapC) (w:World) (h:RdSt w x.st) (h5:x.st.S.length<=1000) (h6:x.st.K.length<=9223372036854775807) (h7: ∀k∈x.st.K,k.line.length<=1000) (hn: ∀k∈x.st.K,k.name.length<=maxLen):
    Calls Tryz.prog 29 #[snapVal x] w (SaysB (maySn x) w):=by
  have CR:=hid (fun W hb=>AutoRight_any x.st W (h.later hb) h5 h6 h7 hn)
  have KN:=hid (fun v W=>isNumberSn_any v W)
  clear h h5 h6 h7 hn
  unfold maySn
  generalize rightA x.st.v=R at CR ⊢
  unfold snapVal StC.sv StC.kv StC.mv
  unfold stVal StC.sv StC.kv StC.mv at CR
  obtain⟨d,v,s,ti,nu,tk,S,sa,sc,K,ka,kc,M,ma,mc⟩:=x
  dsimp only at CR ⊢
  have hst:=newAlloc w (.cells #[.int .i64 d,.int .i64 v,.int .i64 s,.int .i64 ti,.int .i64 nu,.int .i64 tk,.slice sa S.length sc,.slice ka K.length kc,.slice ma M.length mc] 46)
  have hq:(w.alloc (.cells #[.int .i64 d,.int .i64 v,.int .i64 s,.int .i64 ti,.int .i64 nu,.int .i64 tk,.slice sa S.length sc,.slice ka K.length kc,.slice ma M.length mc] 46)).heap[w.heap.size]?=some (Obj.cells #[.int .i64 d,.int .i64 v,.int .i64 s,.int .i64 ti,.int .i64 nu,.int .i64 tk,.slice sa S.length sc,.slice ka K.length kc,.slice ma M.length mc] 46):=by show(w.heap.push _)[w.heap.size]?= _;simp
  have k0:=cell_atW hq 0
  have k1:=cell_atW hq 1
  have k2:=cell_atW hq 2
  have k3:=cell_atW hq 3
  have k4:=cell_atW hq 4
  have k5:=cell_atW hq 5
  have k6:=cell_atW hq 6
  have k7:=cell_atW hq 7
  have k8:=cell_atW hq 8
  simp only[List.getElem?_toArray,List.getElem?_cons_zero,List.getElem?_cons_succ] at k0 k1 k2 k3 k4 k5 k6 k7 k8
  clear hq
  have HST:=hid hst
  clear hst
  cases hd:highF d 0<;>cases hv:highF v 0<;>cases hs:highF s 0<;>
    (go_enter Tryz.func29,Tryz.ntmps29
     go_wp2_with (first
       | (go_at_call 80;refine(KN.out _ _).mono ?_;rintro e w' ⟨rfl,rfl⟩;simp only[hd,hv,hs])
       | (go_at_call 11;refine(CR.out _ HST.out).mono ?_;rintro e w2 ⟨rfl,hb2⟩))
     go_ret
     first
       | exact⟨rfl,HST.out⟩
       | exact⟨rfl,step HST.out hb2⟩)
end Cm
end Go.Proofs.YtlnbmblbeaodcaaGreat

/- Package snap, as plain functions: what is read in the end; how much a state that was read has. No program is named here. -/
set_option linter.unusedVariables false
set_option maxRecDepth 8000
set_option linter.unusedSimpArgs false
namespace Go.Proofs.YtlnbmblbeaodcaaGreat
open Lib (hid)
open Go.RowKit
namespace Cm
variable {α β : Type}

theorem thenR_inv {f:Rdr α} {g:α->Rdr β} {bs:List UInt8} {t:Int} {r:β × Int} (h:thenR f g bs t= .ok r): ∃x t1,f bs t= .ok (x,t1)/\g x bs t1= .ok r:=by
 unfold thenR at h
 split at h
 ·cases h
 ·rename_i p hp
  exact⟨p.1,p.2,hp,h⟩
theorem rowR_inv {f:Rdr α} {P:α->Prop} {bs:List UInt8} (hf: ∀t x t',f bs t= .ok (x,t')->P x): ∀(n:Nat) (G:List α) (t:Int) (r:List α × Int),(∀y∈G,P y)->rowR f G n bs t= .ok r->r.1.length=G.length+n/\ ∀y∈r.1,P y
 | 0,G,t,r,hG,h=>by
  injection h with h
  subst h
  exact⟨rfl,hG⟩
 | n+1,G,t,r,hG,h=>by
  obtain⟨x,t1,h1,h2⟩:=thenR_inv h
  obtain⟨a,b⟩:=rowR_inv hf n (G++ [x]) t1 r (fun y hy=>by
   rcases List.mem_append.1 hy with q | q
   ·exact hG y q
   ·rw[List.mem_singleton] at q;subst q;exact hf t y t1 h1) h2
  exact⟨by rw[a];simp;omega,b⟩
theorem toldR_inv {f:List UInt8->Int->α × Int × Int} {bs:List UInt8} {t:Int} {x:α} {t':Int} (h:toldR f bs t= .ok (x,t')):f bs t=(x,t',0):=by
 unfold toldR at h
 split at h
 ·rename_i h0
  injection h with h
  have h1:=congrArg Prod.fst h
  have h2:=congrArg Prod.snd h
  dsimp only at h1 h2
  rw[<-h1,<-h2,<-h0]
 ·cases h
theorem countR_inv {m:Int} {bs:List UInt8} {t n t':Int} (h:countR m bs t= .ok (n,t')):0<=n/\n<=m:=by
 obtain⟨x,t1,h1,h2⟩:=thenR_inv h
 have hb:=toldR_inv h1
 try dsimp only at h2
 split at h2
 ·cases h2
 ·injection h2 with h2
  have h3:x=n:=congrArg Prod.fst h2
  have h4:(byteOf bs t).1=x:=by rw[hb]
  have h5:0<=(byteOf bs t).1:=by
   unfold byteOf
   split
   ·exact Int.le_refl _
   ·exact Int.natCast_nonneg _
  omega
theorem textR_inv {m:Int} {bs:List UInt8} {t:Int} {s:List UInt8} {t':Int} (h:textR m bs t= .ok (s,t')):(s.length:Int)<=max m 0:=by
 have hb:=toldR_inv h
 try dsimp only at hb
 have hs:(textOf bs t m).1=s:=by rw[hb]
 rw[<-hs]
 unfold textOf
 split
 ·simp;omega
 ·split
  ·simp;omega
  ·rename_i h1
   split
   ·simp;omega
   ·rename_i h2 h3
    dsimp only
    rw[sub_length _ _ _ (by omega)]
    omega
def FewK (k:LockV):Prop:=k.name.length<=12/\k.line.length<=3
theorem lockR_inv {bs:List UInt8} {t:Int} {k:LockV} {t':Int} (h:lockR bs t= .ok (k,t')):FewK k:=by
 obtain⟨n,t1,h1,h⟩:=thenR_inv h
 obtain⟨ho,t2,h2,h⟩:=thenR_inv h
 obtain⟨tk,t3,h3,h⟩:=thenR_inv h
 obtain⟨m,t4,h4,h⟩:=thenR_inv h
 obtain⟨l,t5,h5,h⟩:=thenR_inv h
 injection h with h
 have hk:=congrArg Prod.fst h
 dsimp only at hk
 subst hk
 have q1:=textR_inv h1
 have q4:=countR_inv h4
 have q5:=rowR_inv (P:=fun _=>True) (fun _ _ _ _=>trivial) _ _ _ _ (fun _ _=>trivial) h5
 refine⟨by show n.length<=12;omega,?_⟩
 have:=q5.1
 dsimp only at this ⊢
 rw[this]
 simp
 omega
theorem getA_may {bs:List UInt8} {t:Int} (h:(getA bs t).2.2=0):mayA (getA bs t).1=true:=by
 unfold getA at h ⊢
 split at h
 ·rename_i q;exact absurd h q
 split at h
 ·rename_i q;exact absurd h q
 split at h
 ·rename_i q;exact absurd h q
 split at h
 ·rename_i q0 q1 q2 q3
  rw[if_neg q0,if_neg q1,if_neg q2,if_pos q3]
  exact q3
 ·cases h
structure FewSt (s:StV):Prop where
 ses:s.ses.length<=5
 locks:s.locks.length<=4
 lock: ∀k∈s.locks,FewK k
 memos:s.memos.length<=8
 memo: ∀m∈s.memos,mayA m=true
theorem stateR_inv {bs:List UInt8} {t:Int} {s:StV} {t':Int} (h:stateR bs t= .ok (s,t')):FewSt s:=by
 obtain⟨a1,t1,h1,h⟩:=thenR_inv h
 obtain⟨a2,t2,h2,h⟩:=thenR_inv h
 obtain⟨a3,t3,h3,h⟩:=thenR_inv h
 obtain⟨n1,t4,h4,h⟩:=thenR_inv h
 obtain⟨l1,t5,h5,h⟩:=thenR_inv h
 obtain⟨n2,t6,h6,h⟩:=thenR_inv h
 obtain⟨l2,t7,h7,h⟩:=thenR_inv h
 obtain⟨n3,t8,h8,h⟩:=thenR_inv h
 obtain⟨l3,t9,h9,h⟩:=thenR_inv h
 injection h with h
 have hk:=congrArg Prod.fst h
 dsimp only at hk
 subst hk
 have q4:=countR_inv h4
 have q6:=countR_inv h6
 have q8:=countR_inv h8
 have q5:=rowR_inv (P:=fun _=>True) (fun _ _ _ _=>trivial) _ _ _ _ (fun _ _=>trivial) h5
 have q7:=rowR_inv (P:=FewK) (fun _ _ _ q=>lockR_inv q) _ _ _ _ (fun _ q=>by cases q) h7
 have q9:=rowR_inv (P:=fun m=>mayA m=true) (fun t x t' q=>by
  have:=toldR_inv q
  have h0:(getA bs t).2.2=0:=by rw[this]
  have:=getA_may h0
  rw[toldR_inv q] at this
  exact this) _ _ _ _ (fun _ q=>by cases q) h9
 refine⟨?_,?_,q7.2,?_,q9.2⟩
 ·have:=q5.1;dsimp only at this ⊢;rw[this];simp;omega
 ·have:=q7.1;dsimp only at this ⊢;rw[this];simp;omega
 ·have:=q9.1;dsimp only at this ⊢;rw[this];simp;omega
def getSt (bs:List UInt8) (t:Int):StV × Int × Int:=match stateR bs t with
 | .error c=>(zeroSt,0,c)
 | .ok p=>if rightA p.1 then (p.1,p.2,0) else (zeroSt,0,4)
structure SnV where
 done:Int
 tv:Int
 ts:Int
 st:StV
def zeroSn:SnV:=⟨0,0,0,zeroSt⟩
def maySV (x:SnV):Bool:=highF x.done 0 && (highF x.tv 0 && (highF x.ts 0 && rightA x.st))
def snapR:Rdr SnV:=thenR numR fun d=>thenR numR fun v=>thenR numR fun s=>thenR stateR fun x=>pureR ⟨d,v,s,x⟩
def getSn (bs:List UInt8) (t:Int):SnV × Int × Int:=match snapR bs t with
 | .error c=>(zeroSn,0,c)
 | .ok p=>if maySV p.1 then (p.1,p.2,0) else (zeroSn,0,4)
end Cm
end Go.Proofs.YtlnbmblbeaodcaaGreat
