/- Texts laid together by program. -/
import Derived.Test.YtbpmfjjbfiiiaaaQ23
/- LeadQuorum of layer 17, as a contract. -/
set_option linter.unusedVariables false
set_option maxRecDepth 8000
set_option linter.unusedSimpArgs false
namespace Go.Proofs.Ytbpmfjjbfiiiaaa
open Lib (hid)
open Go.RowKit
namespace Ld
open Cm Ac Pl Vw

theorem in_cell {w:World} {h:Nat} {l:List Bool} (k:w.heap[h]?=some (.cells #[.bool (hb l 0),.bool (hb l 1),.bool (hb l 2),.bool (hb l 3),.bool (hb l 4),.bool (hb l 5),.bool (hb l 6)] 61)) (K:Nat) (hK:K<7):w.cell? ⟨h,K,none⟩=some (.bool (hb l K)):=by
 rw[cell_at k]
 match K,hK with
 | 0,_=>rfl
 | 1,_=>rfl
 | 2,_=>rfl
 | 3,_=>rfl
 | 4,_=>rfl
 | 5,_=>rfl
 | 6,_=>rfl
theorem in_set {w:World} {h:Nat} {l:List Bool} (k:w.heap[h]?=some (.cells #[.bool (hb l 0),.bool (hb l 1),.bool (hb l 2),.bool (hb l 3),.bool (hb l 4),.bool (hb l 5),.bool (hb l 6)] 61)) (h7:l.length=7) (K:Nat) (hK:K<7):(w.setCell ⟨h,K,none⟩ (.bool true)).heap[h]?=some (.cells #[.bool (hb (l.set K true) 0),.bool (hb (l.set K true) 1),.bool (hb (l.set K true) 2),.bool (hb (l.set K true) 3),.bool (hb (l.set K true) 4),.bool (hb (l.set K true) 5),.bool (hb (l.set K true) 6)] 61):=by
 rw[set_atB k]
 match l,h7 with
 | [a0,a1,a2,a3,a4,a5,a6],_=>
  match K,hK with
  | 0,_=>rfl
  | 1,_=>rfl
  | 2,_=>rfl
  | 3,_=>rfl
  | 4,_=>rfl
  | 5,_=>rfl
  | 6,_=>rfl
theorem told_okC {w:World} {x:ToldC} (ho:ToldOk w x):ToldB x.val:=by
 refine⟨ho.d.1,ho.v.1,ho.s.1,ho.t.1,ho.t.2,fun v hv=>?_⟩
 obtain⟨y,hy,rfl⟩:=List.mem_map.1 hv
 exact⟨(ho.rd.ok y hy).b0,(ho.rd.ok y hy).b1⟩
theorem zeroIn:(Try.prog.info? 61).map (fun i=>i.zero)=some (some (.agg #[.bool false,.bool false,.bool false,.bool false,.bool false,.bool false,.bool false])):=by kernel_rfl
theorem HasL.far {w w':World} {g m h:Nat} {s:LedV} {pv bv:Value} {cs:Array Value} {t:TypeId} (k:HasL w g m s pv bv) (hg:w.grownBy w' (some h)) (hx:w.heap[h]?=some (.cells cs t)) (n1:79≠t) (n2:59≠t) (n3:48≠t) (n4:42≠t) (n5:71≠t):HasL w' g m s pv bv:=by
 obtain⟨P,h1,h2⟩:=k.ps
 obtain⟨B,h3,h4⟩:=k.bs
 refine⟨(hg.block g k.lt (fun q=>?_)).trans k.ex,⟨P,h1,OwnPs.far h2 hg hx n2 n3 n5⟩,⟨B,h3,OwnB.far h4 hg hx n4 n5⟩,k.gm⟩
 injection q with q
 subst q
 have e:=k.ex
 rw[hx] at e
 injection e with e
 injection e with _ e
 exact n1 e.symm
theorem QS.pre {k view:Int} {s:LedV} (h:QS k view s):okS [] s.ps=true/\(∀q∈s.ps,hb s.hd q.who.toNat=true)/\s.ps.length<=6:=by
 have hk:=h.some_
 by_cases q:k<2*(cntH s.hd:Int)
 ·rw[(h.lead q).2]
  exact⟨rfl,(fun z hz=>by cases hz),Nat.zero_le _⟩
 ·obtain⟨_,a2,a3,a4,_⟩:=h.ask (by omega)
  exact⟨a2,a3,by omega⟩
theorem QS.phase {k view:Int} {s:LedV} (h:QS k view s):(s.ph==2)=decide (k<2*(cntH s.hd:Int)):=by
 by_cases q:k<2*(cntH s.hd:Int)
 ·rw[(h.lead q).1,decide_eq_true q];rfl
 ·rw[(h.ask (by omega)).1,decide_eq_false q];rfl
theorem Chg.box {w w':World} {g m h:Nat} {s s':LedV} {pv bv:Value} {cs:Array Value} {t:TypeId} (hd:DidL g m s' pv bv w w') (k:HasL w g m s pv bv) (hx:w.heap[h]?=some (.cells cs t)) (n1:t≠79) (n2:t≠59) (n3:t≠42):w'.heap[h]?=some (.cells cs t):=by
 obtain⟨_,_,_,hc,_,_⟩:=hd
 exact hc.at_ hx (k.ty hx n1 n2 n3)
def kOf (n:Int):Int:=if n % 4=0 then 1 else if n % 4=1 then 3 else if n % 4=2 then 5 else 7
theorem kOf_odd (n:Int):kOf n=1\/kOf n=3\/kOf n=5\/kOf n=7:=by
 unfold kOf
 by_cases h0:n % 4=0
 ·rw[if_pos h0];simp
 ·rw[if_neg h0]
  by_cases h1:n % 4=1
  ·rw[if_pos h1];simp
  ·rw[if_neg h1]
   by_cases h2:n % 4=2
   ·rw[if_pos h2];simp
   ·rw[if_neg h2];simp
theorem k_cell {w:World} {b:Nat} (n:Int) (r:Nat) (hr:n % 4=(r:Int)) (h:w.heap[b]?=some (.cells #[.int .i64 1,.int .i64 3,.int .i64 5,.int .i64 7] 3)) (h4:r<4):w.cell? ⟨b,r,none⟩=some (.int .i64 (kOf n)):=by
 rw[cell_at h]
 unfold kOf
 match r,h4,hr with
 | 0,_,hr=>rw[if_pos (show n % 4=0 from hr)];rfl
 | 1,_,hr=>rw[if_neg (by omega),if_pos (show n % 4=1 from hr)];rfl
 | 2,_,hr=>rw[if_neg (by omega),if_neg (by omega),if_pos (show n % 4=2 from hr)];rfl
 | 3,_,hr=>rw[if_neg (by omega),if_neg (by omega),if_neg (by omega)];rfl
set_option maxHeartbeats 16000000 in
theorem Quorum17_any (n view:Int) (a:Option Addr) (len cap:Nat) (z:List Int) (t:ToldC) (w:World) (hn:0<=n/\n<256) (hv:0<=view/\view<256) (hz:IsRow .u8 w a len cap z) (ht:ToldOk w t):
  Calls Try.prog 4 #[.int .u8 n,.slice a len cap,.int .u8 view,toldV t] w (SaysB true w):=by
 obtain⟨K,hK⟩: ∃K,kOf n=K:=⟨_,rfl⟩
 have hKo:=kOf_odd n
 rw[hK] at hKo
 have HKO:=hid hKo
 have HTB:Hid (ToldB t.val):=hid (told_okC ht)
 have HZ:=hid hz
 have CPR:=hid (fun W who (hb:Below w.heap.size w W)=>Promise_any who t.done t.view t.slot t.time t.u t.votes W (ht.rd.later hb) ht.d ht.v ht.s ht.t)
 rw[show(⟨t.done,t.view,t.slot,t.time,valsN t.votes⟩:ToldV)=t.val from rfl] at CPR
 obtain⟨T,hT⟩: ∃T,t.val=T:=⟨_,rfl⟩
 rw[hT] at CPR HTB
 clear hT
 have hbx:=newAlloc w (.cells #[.int .u8 t.done,.int .u8 t.view,.int .u8 t.slot,.int .u8 t.time,t.u] 24)
 have kx:=alloc_atB w (.cells #[.int .u8 t.done,.int .u8 t.view,.int .u8 t.slot,.int .u8 t.time,t.u] 24) _ rfl
 clear ht hz
 obtain⟨td,tw,ts,tm,tl,ta,tc⟩:=t
 unfold toldV ToldC.u
 unfold ToldC.u at CPR hbx kx
 dsimp only at CPR hbx kx ⊢
 generalize tl.length=tn at CPR hbx kx ⊢
 have HB1:=hid hbx
 have HX1:=hid kx
 go_enter Try.func4,Try.ntmps4
 go_upto_region 1 with fail
 generalize w.alloc (.cells #[.int .u8 td,.int .u8 tw,.int .u8 ts,.int .u8 tm,.slice ta tn tc] 24)=W1 at HB1 HX1 ⊢
 clear hbx kx
 have hbr:=newAlloc W1 (.cells #[.int .i64 1,.int .i64 3,.int .i64 5,.int .i64 7] 3)
 have kr:=alloc_atB W1 (.cells #[.int .i64 1,.int .i64 3,.int .i64 5,.int .i64 7] 3) _ rfl
 have HX2:=hid (cells_later HX1.out hbr)
 have HB2:=hid (step HB1.out hbr)
 obtain⟨r,hr⟩: ∃r:Nat,n % 4=(r:Int):=⟨(n % 4).toNat,by omega⟩
 have hr4:r<4:=by omega
 have ck:=k_cell n r hr kr hr4
 rw[hK] at ck
 have hr0:(0:Int)<=(r:Int):=by omega
 have hr5:(r:Int)<4:=by omega
 have hn0:0<=n:=hn.1
 clear hK kr
 go_upto_region 2 with fail
 generalize W1.alloc (.cells #[.int .i64 1,.int .i64 3,.int .i64 5,.int .i64 7] 3)=W2 at HX2 HB2 ck hbr ⊢
 clear hbr ck hr0 hr5 hn0 hr hr4 hn HB1 HX1 hKo
 have hK1:someF K=true:=by rcases HKO.out with q | q | q | q<;>rw[q]<;>rfl
 have CN:=hid (LNew_yes hK1 W2)
 clear hK1
 have HWW:Hid (W2.heap.size=W2.heap.size):=hid rfl
 obtain⟨hrd,hrl⟩:=HZ.out.rd
 generalize bytesOf z len=O at hrd hrl
 have HRD:=hid hrd
 have HRL:=hid hrl
 clear hrd hrl
 obtain⟨_,_,_,hv',hl',hc',hm', -⟩:=HRD.out.ex
 have hlen63:len<=9223372036854775807:=by
  cases hv'
  unfold maxLen at hm'
  omega
 clear hv' hl' hc' hm'
 go_upto_region 3 with (go_at_call 17;refine CN.out.mono ?_;rintro e w3 ⟨rfl,h3,hb3⟩;have H3:=hid h3;have HB3:=hid hb3;clear h3 hb3)
 have HG2:Hid (W2.heap.size=W2.heap.size):=hid rfl
 obtain⟨g,hg⟩: ∃g,W2.heap.size=g:=⟨_,rfl⟩
 rw[hg] at H3 HB3 ⊢
 have HGE:=hid hg
 clear hg HG2 HWW CN
 by_cases hbig:20<len
 ·have d:decide (20<(len:Int))=true:=decide_eq_true (by omega)
  have CA:=hid (fun W=>awake17_ok W)
  clear hlen63 hbig
  go_wp2_with (go_at_call 16;refine(CA.out _).mono ?_;rintro e w4 ⟨rfl,hb4⟩;have HB4:=hid hb4;clear hb4)
  go_ret
  exact⟨rfl,step (step HB2.out (by have:=HB3.out;rw[<-HGE.out] at this;exact this)) HB4.out⟩
 have d:decide (20<(len:Int))=false:=decide_eq_false (by omega)
 have hl20:len<=20:=by omega
 clear hbig hlen63
 go_upto_region 5 with fail
 clear d
 have CE:=hid (fun W pv bv (h:HasL W g g (idleL K 0) pv bv)=>LHear_any g g (idleL K 0) ⟨0,0,0,0,0,[],none,0⟩ pv bv W h (RdV.nil _) ⟨(fun k hk=>by cases hk),(fun x hx=>by cases hx)⟩ rfl (by rcases HKO.out with q | q | q | q<;>rw[q]<;>decide) rfl (fun q hq=>by cases hq) (by show(0:Nat)<=6;omega))
 unfold HearL at CE
 rw[show ∀p,hearF (idleL K 0) p=(idleL K 0,false,11) from fun p=>rfl] at CE
 unfold promVal PromC.u at CE
 dsimp only[List.length_nil] at CE
 go_upto_region 6 with (go_at_call 18;refine(CE.out _ _ _ H3.out).mono ?_;rintro e w4 ⟨rfl,hd⟩;have HB4:=hid (hd.below H3.out (show Below g W2 w3 from HB3.out) (Nat.le_refl _));obtain⟨pv4,bv4,h4, -⟩:=hd;have H4:=hid h4;clear h4)
 clear CE
 have hv1:highF view 0=true:=by unfold highF;simp;omega
 have CB:=hid (fun W pv bv (h:HasL W g g (idleL K 0) pv bv)=>LBegin_any g g (idleL K 0) view pv bv W h)
 unfold BeginL beginF at CB
 rw[hv1] at CB
 simp only[if_true] at CB
 rw[show(idleL K 0).n =K from rfl] at CB
 have HV:=hid hv
 have ewv:IntKind.i64.wrap view=view:=by rw[IntKind.wrap_i64];omega
 clear hv1 hv
 go_upto_region 8 with (go_at_call 19;refine(CB.out _ _ _ H4.out).mono ?_;rintro e w5 ⟨rfl,hd⟩;have HB5:=hid (hd.below H4.out HB4.out (Nat.le_refl _));obtain⟨pv5,bv5,h5, -⟩:=hd;have H5:=hid h5;clear h5)
 clear CB
 have hz:=fun w=>run_zero zeroIn w
 have hbi:=newAlloc w5 (.cells #[.bool false,.bool false,.bool false,.bool false,.bool false,.bool false,.bool false] 61)
 have ki:=alloc_atB w5 (.cells #[.bool false,.bool false,.bool false,.bool false,.bool false,.bool false,.bool false] 61) _ rfl
 have HHG:Hid (g<=w5.heap.size):=hid (by have:=HB5.out.size;have:=HGE.out;omega)
 have H6:=hid (H5.out.later hbi)
 have HB6:=hid (HB5.out.trans (hbi.mono (by have:=HB5.out.size;have:=HGE.out;omega)))
 have HI6:=hid ki
 have HXG:Hid (HeapAt W2 w.heap.size (.cells #[.int .u8 td,.int .u8 tw,.int .u8 ts,.int .u8 tm,.slice ta tn tc] 24)):=HX2
 have HQ0:=hid (QS.start (view:=view) HKO.out)
 go_upto_region 9 with fail
 generalize w5.alloc (.cells #[.bool false,.bool false,.bool false,.bool false,.bool false,.bool false,.bool false] 61)=w6 at H6 HB6 HI6 ⊢
 generalize w5.heap.size=hh at HI6 HHG ⊢
 clear hbi ki hz HX2 HB3 HB4 HB5 H3 H4 H5
 have hK0: ∀x:Int,0<=x->x.tmod K=x % K:=fun x hx=>Int.tmod_eq_emod_of_nonneg hx
 have HK0:=hid hK0
 clear hK0
 go_wp2
 go_loopw [14,15,16,17,18] (fun c i _ _ _ wr=> ∃(q:Nat) (M:Int) (s:LedV) (pv bv:Value),q<=len/\i= .int .i64 (q:Int)/\c= .int .i64 M/\Hid (M=(cntH s.hd:Int))/\Hid (QS K view s)/\Hid (HasL wr g g s pv bv)/\Hid (Below g W2 wr)/\Hid (HeapAt wr hh (.cells #[.bool (hb s.hd 0),.bool (hb s.hd 1),.bool (hb s.hd 2),.bool (hb s.hd 3),.bool (hb s.hd 4),.bool (hb s.hd 5),.bool (hb s.hd 6)] 61))) (fun _ i _ _ _ _=>len - (intOf i).toNat)
 case atStart=>exact⟨0,0,_,_,_,by omega,rfl,rfl,hid rfl,HQ0,H6,HB6,HI6⟩
 case round=>
  obtain⟨q,M,s,pv,bv,hq,rfl,rfl,HM,HQS,HL,HBR,HIN⟩:=hrel
  clear H6 HB6 HI6 HQ0
  have hM0:0<=M/\M<=7:=by have:=HM.out;have:=cntH_le s.hd;omega
  have HM0:=hid hM0
  have ewM:IntKind.i64.wrap (2*M)=2*M:=by rw[IntKind.wrap_i64];omega
  by_cases hlt:q<len
  case neg=>
   obtain rfl:q=len:=by omega
   have CW:=hid (fun W=>awake17_ok W)
   have CD:=hid (LAdd_any g g s 0 0 (.slice none 0 0) [] pv bv wr HL.out (RdX.nil _) (by have:=HQS.out.few.1;omega) (by have:=HQS.out.few.2.1;omega))
   unfold AddL at CD
   by_cases hA:K<2*M
   ·have dA:decide (K<2*M)=true:=decide_eq_true hA
    generalize addF s 0 0 []=R at CD
    clear hA
    go_upto_region 28 with (go_at_call 9;refine CD.out.mono ?_;rintro e w8 ⟨rfl,hd⟩;have HB8:=hid (hd.below HL.out HBR.out (Nat.le_refl _));clear hd)
    go_wp2_with (go_at_call 16;refine(CW.out _).mono ?_;rintro e w9 ⟨rfl,hb9⟩;have HB9:=hid hb9;clear hb9)
    go_ret
    exact⟨rfl,step (HB2.out.trans (HB8.out.mono (by have:=HB2.out.size;have:=HGE.out;omega))) HB9.out⟩
   have dA:decide (K<2*M)=false:=decide_eq_false hA
   obtain⟨a1,a2,a3,a4,a5,a6⟩:=HQS.out.ask (by have:=HM.out;omega)
   have HN0:=hid a6
   have HS0:Hid (slotsF s 0= []):=hid (by unfold slotsF;rw[a6];rfl)
   rw[show addF s 0 0 []=(s,0,11) from by unfold addF;rw[if_neg (by rw[a1];decide)]] at CD
   clear hA a1 a2 a3 a4 a6
   have HBT:=hid a5
   clear a5
   have HFW:=hid HQS.out.few
   go_upto_region 28 with (go_at_call 9;refine CD.out.mono ?_;rintro e w8 ⟨rfl,hd⟩;have HB8:=hid (hd.below HL.out HBR.out (Nat.le_refl _));obtain⟨pv8,bv8,h8, -⟩:=hd;have H8:=hid h8;clear h8)
   have CX:=hid (LNext_any g g s pv8 bv8 w8 H8.out)
   have CS:=hid (LSlots_any g g s 0 pv8 bv8 w8 H8.out HFW.out.2.1 HFW.out.2.2 (by omega) (by omega) (fun b hb=>by rw[HBT.out] at hb;cases hb))
   rw[HS0.out] at CS
   rw[HN0.out] at CX
   go_wp2_with fail
   go_at_call 8
   refine CX.out.mono ?_
   rintro e w9 ⟨rfl,rfl⟩
   go_wp2_with fail
   go_at_call 13
   refine CS.out.mono ?_
   rintro e w9 ⟨va,vc,G,rfl,hG, -,hb9⟩
   have hG0:G.length=0:=by have:=congrArg List.length hG;rw[valsV_length] at this;exact this
   rw[hG0]
   have HB9:=hid hb9
   clear hG hG0 hb9
   go_wp2_with fail
   go_at_call 16
   refine(CW.out _).mono ?_
   rintro e w10 ⟨rfl,hb10⟩
   have HB10:=hid hb10
   clear hb10
   go_wp2
   go_ret
   exact⟨rfl,step (step (HB2.out.trans (HB8.out.mono (by have:=HB2.out.size;have:=HGE.out;omega))) HB9.out) HB10.out⟩
  have hj0:(0:Int)<=(q:Int):=by omega
  have hj1:(q:Int)<(len:Int):=by omega
  obtain⟨_,_,_,hv',hl',hc',hm',hn',hx'⟩:=HRD.out.ex
  cases hv'
  obtain⟨ob,oo,rfl⟩: ∃b o,a=some ⟨b,o,none⟩:=by
   match a,hn',hx' with
   | none,hn',_=>have:=(hn' rfl).1;omega
   | some ⟨b,o,sp⟩,_,hx'=>
    obtain⟨hs, -⟩:=hx' _ rfl (by omega)
    simp only at hs
    subst hs
    exact⟨b,o,rfl⟩
  have co:=(hx' _ rfl (by omega)).2 q hlt
  dsimp only at co
  have HBW:Hid (Below w.heap.size w wr):=hid (HB2.out.trans (HBR.out.mono (by have:=HB2.out.size;have:=HGE.out;omega)))
  have co:wr.cell? ⟨ob,oo+q,none⟩=some (.int .u8 ((O.getD q 0).toNat :Int)):=(HBW.out.cell (lt_of_cell co)).trans co
  clear hl' hc' hm' hn' hx'
  obtain⟨ov,hov⟩: ∃ov:Nat,(O.getD q 0).toNat =ov:=⟨_,rfl⟩
  rw[hov] at co
  have hov8:ov<256:=by rw[<-hov];exact(O.getD q 0).toNat_lt
  clear hov
  have hKp:1<=K/\K<=7:=HQS.out.some_
  obtain⟨fr,hfr⟩: ∃fr:Nat,(ov:Int) % K=(fr:Int):=⟨((ov:Int) % K).toNat,by have:=Int.emod_nonneg (ov:Int) (show K≠0 by omega);omega⟩
  have hfk:(fr:Int)<K:=by rw[<-hfr];exact Int.emod_lt_of_pos _ (by omega)
  have htm:((ov:Int)).tmod K=(fr:Int):=by rw[HK0.out _ (by omega)];exact hfr
  have hK0: ¬K=0:=by omega
  have ewo:IntKind.i64.wrap (ov:Int)=(ov:Int):=by rw[IntKind.wrap_i64];omega
  have ewf:IntKind.i64.wrap (fr:Int)=(fr:Int):=by rw[IntKind.wrap_i64];omega
  have hov0:(0:Int)<=(ov:Int):=by omega
  have HF:=hid hfk
  have HKP:=hid hKp
  have hfr7:fr<7:=by omega
  have HF7:=hid hfr7
  clear hfk hKp hov8 hq hM0
  go_upto_region 14 with fail
  clear co htm hfr hov0 ewo ewf hj0 hj1 hK0
  have hxx:wr.heap[w.heap.size]?= _:=(HBR.out.block _ (by have:=get_ltB HXG.out;have:=HGE.out;omega)).trans HXG.out
  have x0:=cell_at hxx 0
  have x1:=cell_at hxx 1
  have x2:=cell_at hxx 2
  have x3:=cell_at hxx 3
  have x4:=cell_at hxx 4
  simp at x0 x1 x2 x3 x4
  clear hxx
  have HMAY:Hid (mayP (promN (fr:Int) T)=true):=hid (promN_may hfr7 HTB.out)
  have HWHO:Hid ((promN (fr:Int) T).who.toNat =fr):=hid rfl
  have HWLT:Hid ((promN (fr:Int) T).who <K):=hid HF.out
  obtain⟨PN,hPN⟩: ∃PN,promN (fr:Int) T=PN:=⟨_,rfl⟩
  have CP:=hid (CPR.out wr (fr:Int) HBW.out)
  rw[hPN] at CP HMAY HWHO HWLT
  clear hPN
  go_wp2_with fail
  go_at_call 20
  refine CP.out.mono ?_
  rintro e w7 ⟨p,rfl,hpv,hpo,hb7⟩
  have HL7:=hid (HL.out.later hb7)
  have HIN7:=hid (cells_later HIN.out hb7)
  have HBR7:=hid (HBR.out.trans (hb7.mono (by have:=HBR.out.size;have:=HGE.out;omega)))
  have hpre:=HQS.out.pre
  have CH:=hid (LHear_any g g s p pv bv w7 HL7.out hpo.rd (OwnV.sep hpo HL7.out.ex) HQS.out.h7 (by rw[HQS.out.n];exact HKP.out.2) hpre.1 hpre.2.1 hpre.2.2)
  unfold HearL at CH
  rw[hpv] at CH
  clear hpre hpv hpo hb7 HL HIN HBR x0 x1 x2 x3 x4 CP
  have hfr0:(0:Int)<=(fr:Int):=by omega
  have hfr9:(fr:Int)<7:=by omega
  by_cases hA:K<2*M
  case' pos=>
   have dA:decide (K<2*M)=true:=decide_eq_true hA
   rw[HQS.out.late (p:=PN) (by have:=HM.out;omega)] at CH
   go_wp2_with fail
   go_at_call 18
   refine CH.out.mono ?_
   rintro e w8 ⟨rfl,hd⟩
   have HB8:=hid (hd.below HL7.out HBR7.out (Nat.le_refl _))
   have HI8:=hid (Chg.box hd HL7.out HIN7.out (by decide) (by decide) (by decide))
   obtain⟨pv2,bv2,h8, -⟩:=hd
   have HL8:=hid h8
   clear h8 hA CH HL7 HIN7 HBR7
   obtain⟨s2,rfl⟩: ∃x,x=s:=⟨_,rfl⟩
   obtain⟨M2,rfl⟩: ∃x,x=M:=⟨_,rfl⟩
   go_upto_region 25 with fail
   obtain⟨w9,rfl⟩: ∃x,x=w8:=⟨_,rfl⟩
   clear dA
  case' neg=>
   have dA:decide (K<2*M)=false:=decide_eq_false hA
   obtain⟨hbv,hhb⟩: ∃b,hb s.hd fr=b:=⟨_,rfl⟩
   have ci:=in_cell HIN7.out fr HF7.out
   rw[hhb] at ci
   cases hbv
   case' true=>
    rw[HQS.out.twice (p:=PN) (by have:=HM.out;omega) HMAY.out HWLT.out (by rw[HWHO.out];exact hhb)] at CH
    go_wp2_with fail
    go_at_call 18
    refine CH.out.mono ?_
    rintro e w8 ⟨rfl,hd⟩
    have HB8:=hid (hd.below HL7.out HBR7.out (Nat.le_refl _))
    have HI8:=hid (Chg.box hd HL7.out HIN7.out (by decide) (by decide) (by decide))
    obtain⟨pv2,bv2,h8, -⟩:=hd
    have HL8:=hid h8
    clear ci
    have ci:=in_cell HI8.out fr HF7.out
    rw[hhb] at ci
    clear h8 hA hhb CH HL7 HIN7 HBR7
    obtain⟨s2,rfl⟩: ∃x,x=s:=⟨_,rfl⟩
    obtain⟨M2,rfl⟩: ∃x,x=M:=⟨_,rfl⟩
    go_upto_region 25 with fail
    obtain⟨w9,rfl⟩: ∃x,x=w8:=⟨_,rfl⟩
    clear dA ci
   case' false=>
    obtain⟨s2,he,hqs,hhd,hcn⟩:=HQS.out.next_ (p:=PN) (by have:=HM.out;omega) HMAY.out HWLT.out (by rw[HWHO.out];exact hhb)
    rw[he] at CH
    have HQ2:=hid hqs
    have HM2:Hid (M+1=(cntH s2.hd:Int)):=hid (by rw[hcn];have:=HM.out;push_cast;omega)
    rw[HWHO.out] at hhd
    obtain⟨D,hD⟩: ∃D,decide (K<2*(M+1))=D:=⟨_,rfl⟩
    rw[<-HM.out,hD] at CH
    have ew1:IntKind.i64.wrap (M+1)=M+1:=by have:=HM0.out;rw[IntKind.wrap_i64];omega
    have ew2:IntKind.i64.wrap (2*(M+1))=2*(M+1):=by have:=HM0.out;rw[IntKind.wrap_i64];omega
    go_wp2_with fail
    go_at_call 18
    refine CH.out.mono ?_
    rintro e w8 ⟨rfl,hd⟩
    have HB8:=hid (hd.below HL7.out HBR7.out (Nat.le_refl _))
    have HI8:=hid (Chg.box hd HL7.out HIN7.out (by decide) (by decide) (by decide))
    obtain⟨pv2,bv2,h8, -⟩:=hd
    have HL8:=hid h8
    clear ci
    have ci:=in_cell HI8.out fr HF7.out
    have cif:=frozen_at HI8.out
    rw[hhb] at ci
    clear h8 hA hhb CH HL7 HIN7 HBR7 he hqs hcn
    have hne:(D != D)=false:=by cases D<;>rfl
    go_upto_region 16 with fail
    have hg:=grown_set1 w8 hh fr (.bool true)
    have HL9:=hid (HasL.far HL8.out hg HI8.out (by decide) (by decide) (by decide) (by decide) (by decide))
    have HB9:=hid (HB8.out.grown hg (by have:=HB8.out.size;have:=HGE.out;omega) (fun k e=>by cases e;exact HHG.out))
    have hi9:=in_set HI8.out HQS.out.h7 fr HF7.out
    rw[<-hhd] at hi9
    have HI9:=hid hi9
    generalize w8.setCell ⟨hh,fr,none⟩ (.bool true)=w9 at HL9 HB9 HI9 ⊢
    clear hg hi9 hhd ci cif HL8 HB8 HI8 HQS HM
    have HQS:=HQ2
    have HM:=HM2
    have HL8:=HL9
    have HB8:=HB9
    have HI8:=HI9
    clear HQ2 HM2 HL9 HB9 HI9 ewM
    go_upto_region 25 with fail
    clear ew1 ew2 hD hne dA
    generalize M+1=M2 at HM ⊢
  all_goals
   have hM7:0<=M2/\M2<=7:=by have:=HM.out;have:=cntH_le s2.hd;omega
   have ew2:IntKind.i64.wrap (2*M2)=2*M2:=by rw[IntKind.wrap_i64];omega
   obtain⟨D2,hD2⟩: ∃D,decide (K<2*M2)=D:=⟨_,rfl⟩
   have hph:(s2.ph==2)=D2:=by rw[<-hD2,HQS.out.phase,HM.out]
   have hne2:(D2 != D2)=false:=by cases D2<;>rfl
   have CPh:=hid (LPhase_any g g s2 pv2 bv2 w9 HL8.out)
   have CHd:=hid (LHeard_any g g s2 pv2 bv2 w9 HL8.out)
   clear hM7
   obtain⟨N,hN⟩: ∃N,heardK s2.hd 7=N:=⟨_,rfl⟩
   have hnm:(((N.length:Nat):Int) != M2)=false:=by rw[<-hN];have:=HM.out;unfold cntH at this;simp [this]
   rw[hN] at CHd
   clear hN
   go_wp2_with fail
   go_at_call 21
   refine CPh.out.mono ?_
   rintro e w10 ⟨rfl,rfl⟩
   go_wp2_with fail
   go_at_call 22
   refine CHd.out.mono ?_
   rintro e w10 ⟨na,nc,rfl, -,hb10⟩
   have HL10:=hid (HL8.out.later hb10)
   have HB10:=hid (HB8.out.trans (hb10.mono (by have:=HB8.out.size;have:=HGE.out;omega)))
   have HI10:=hid (HeapAt.later (show HeapAt w9 hh _ from HI8.out) hb10)
   have CV:=hid (LView_any g g s2 pv2 bv2 w10 HL10.out)
   rw[HQS.out.view] at CV
   clear hb10 CPh CHd
   go_wp2_with fail
   go_at_call 23
   refine CV.out.mono ?_
   rintro e w11 ⟨rfl,rfl⟩
   go_wp2_with fail
   go_roundw
   case rel=>exact⟨q+1,M2,s2,pv2,bv2,by omega,by go_num,rfl,HM,HQS,HL10,HB10,HI10⟩
   case measure=>simp [intOf];omega
end Ld
end Go.Proofs.Ytbpmfjjbfiiiaaa
