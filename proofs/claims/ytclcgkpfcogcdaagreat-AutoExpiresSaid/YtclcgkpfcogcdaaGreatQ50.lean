/- Texts laid together by program. -/
import Derived.Test.YtclcgkpfcogcdaaGreatQ49
import Derived.Deep.RegionHeld3
import Derived.Deep.RegionWith
/- AutoExpires, as a contract (made by tools/gen_expires.py). -/
set_option linter.unusedVariables false
set_option maxRecDepth 8000
set_option linter.unusedSimpArgs false
namespace Go.Proofs.YtclcgkpfcogcdaaGreat
open Lib (hid)
open List (getElem_toArray getElem_cons_succ getElem_cons_zero setIfInBounds_toArray set_cons_zero set_cons_succ)
open Go.RowKit Go.Shelf
namespace Cm

theorem stay_first {L:List Act10} {c:Int} {s:StV} (hs:madeA 60 (L.take 60)=s) (hf:(findS s.ses c).2=true):Stay c (findS s.ses c).1.num (heldK s.locks c) 0 (lastM s.memos c).1.seq s:=by
 have h1:=made_few 60 L
 obtain⟨h2,h3⟩:=made_time 60 L
 rw[hs] at h1 h2 h3
 have:=h1.tok
 have:=h1.num
 exact⟨h1.right,by omega,by omega,by omega,hf,rfl,h3 _ (find_in hf).1,rfl,fun g hg=>hg⟩
theorem held_namesR {s:StV} (h:Rst s) (c:Int):(heldK s.locks c).Pairwise fun a b=>a.name≠b.name:=held_names h.good.rk.names c
set_option maxRecDepth 100000 in
set_option maxHeartbeats 32000000 in
theorem Expires_any (v:Value) (L:List Act10) (C U T:Nat) (hC:C<256) (hU:U<256) (hT:T<256) (w:World) (h:RdA w v L):
  Calls Tryz.prog 4 #[v,.int .u8 (C:Int),.int .u8 (U:Int),.int .u8 (T:Int)] w (SaysB true w):=by
 have C0:=hid (fun W=>awake10_ok W)
 obtain⟨s,hs⟩: ∃s,madeA 60 (L.take 60)=s:=⟨_,rfl⟩
 have KM:=hid (Made_any10 v L w h)
 rw[hs] at KM
 have hfew:=made_few 60 L
 rw[hs] at hfew
 have HST:=hid (fun c (hf:(findS s.ses c).2=true)=>stay_first hs hf)
 obtain⟨c8,hc8⟩: ∃c8:Int,((C % 8:Nat):Int)=c8:=⟨_,rfl⟩
 have hcr:0<=c8/\c8<8:=by omega
 have htm:(C:Int).tmod 8=c8:=by rw[Int.tmod_eq_emod_of_nonneg (by omega)];omega
 have hwC:IntKind.i64.wrap (C:Int)=(C:Int):=by rw[IntKind.wrap_i64];omega
 have hwU:IntKind.i64.wrap (U:Int)=(U:Int):=by rw[IntKind.wrap_i64];omega
 have hwT:IntKind.i64.wrap (T:Int)=(T:Int):=by rw[IntKind.wrap_i64];omega
 obtain⟨d,hd⟩: ∃d:Int,2+(U:Int)=d:=⟨_,rfl⟩
 have hdr:2<=d/\d<=257:=by omega
 have hwd:IntKind.i64.wrap (2+(U:Int))=d:=by rw[IntKind.wrap_i64];omega
 obtain⟨t5,ht5⟩: ∃t5:Nat,T % 5=t5:=⟨_,rfl⟩
 have ht4:t5<=4:=by omega
 have htmT:(T:Int).tmod 5=(t5:Int):=by rw[Int.tmod_eq_emod_of_nonneg (by omega)];omega
 have HR:=hid hfew.right
 have HLB:=hid (fun c=>by have:=made_last 60 L c;rw[hs] at this;exact this)
 clear hs hfew hc8 hd ht5 h
 obtain⟨⟨⟨fc,fn,fe⟩,fb⟩,hfs⟩: ∃l,findS s.ses c8=l:=⟨_,rfl⟩
 have HFS:=hid hfs
 clear hfs
 unfold stVal at KM
 simp only[StC.sv,StC.kv,StC.mv] at KM
 go_enter Tryz.func4,Tryz.ntmps4
 go_upto_region 2 with (go_at_call 21;refine KM.out.mono ?_;rintro e w9 ⟨⟨yt,yn,yk,yS,ya,yc,yK,yka,ykc,yM,yma,ymc⟩,he,hv9,hf9,hb9⟩;simp only[StC.sv,StC.kv,StC.mv] at he;subst he;have HV9:=hid hv9;have HF9:=hid hf9;have HB9:=hid hb9;clear hv9 hf9 hb9)
 obtain⟨W9,hW9⟩: ∃W9,W9=w9.alloc (.cells #[.int .i64 yt,.int .i64 yn,.int .i64 yk,.slice ya yS.length yc,.slice yka yK.length ykc,.slice yma yM.length ymc] 26):=⟨_,rfl⟩
 have hx9:BoxS W9 w9.heap.size ⟨yt,yn,yk,yS,ya,yc,yK,yka,ykc,yM,yma,ymc⟩:=by rw[hW9];exact BoxS.new w9 ⟨yt,yn,yk,yS,ya,yc,yK,yka,ykc,yM,yma,ymc⟩ _
 have hg9:Tag W9 w9.heap.size 26:=by rw[hW9];exact Tag.new _ _ _
 have hn9:Below w9.heap.size w9 W9:=by rw[hW9];exact newAlloc _ _
 obtain⟨b9,hbk9⟩: ∃b,w9.heap.size=b:=⟨_,rfl⟩
 rw[<-hW9]
 rw[hbk9] at hx9 hg9 ⊢
 have HX9:=hid hx9
 have HF9:=hid (HF9.out.later hn9)
 have HB9:=hid (step HB9.out hn9)
 have HR9:=hid (HF9.out.rd (RdSt.zero W9))
 clear hW9 hx9 hg9 hn9 hbk9 KM
 have KF:=Find_any (.slice ya yS.length yc) yS c8 W9 HR9.out.s
 rw[show yS=s.ses from congrArg StV.ses HV9.out] at KF
 rw[HFS.out] at KF
 unfold Found sesVal at KF
 try dsimp only at KF
 rw[show s.ses=yS from(congrArg StV.ses HV9.out).symm] at KF
 have KF:=hid KF
 obtain⟨c0,c1,c2,c3,c4,c5,cf⟩:=HX9.out
 simp only[StC.sv,StC.kv,StC.mv] at c0 c1 c2 c3 c4 c5
 go_upto_region 4 with (go_at_call 22;refine KF.out.mono ?_;rintro e w11 ⟨rfl,hb11⟩;have HB11:=hid hb11;clear hb11)
 obtain⟨W11,hW11⟩: ∃W11,W11=w11.alloc (.cells #[.int .i64 fc,.int .i64 fn,.int .i64 fe] 46):=⟨_,rfl⟩
 have hx11:BoxE W11 w11.heap.size ⟨fc,fn,fe⟩:=by rw[hW11];exact BoxE.new w11 ⟨fc,fn,fe⟩ _
 have hn11:Below w11.heap.size w11 W11:=by rw[hW11];exact newAlloc _ _
 obtain⟨b11,hbk11⟩: ∃b,w11.heap.size=b:=⟨_,rfl⟩
 rw[<-hW11]
 rw[hbk11] at hx11 ⊢
 have HE11:=hid hx11
 have HN11:=hid (step HB11.out hn11)
 have HX11:=hid (HX9.out.later HN11.out)
 have HF11:=hid (HF9.out.later HN11.out)
 have HB11:=hid (step HB9.out HN11.out)
 clear hW11 hx11 hn11 hbk11 KF HN11 HX9 HF9 HB9 HR9 c0 c1 c2 c3 c4 c5 cf
 cases fb with
 | false=>
  go_wp2_with (go_at_call 11;refine(C0.out _).mono ?_;rintro e wx ⟨rfl,hbx⟩)
  go_ret
  exact⟨rfl,step HB11.out hbx⟩
 | true=>
  have hfin:(findS s.ses c8).2=true:=by rw[HFS.out]
  have hst:=HST.out c8 hfin
  obtain⟨H,hH⟩: ∃H,heldK s.locks c8=H:=⟨_,rfl⟩
  obtain⟨⟨⟨lc,ls,⟨lk,ln,ld,lh⟩⟩,lb⟩,hlm⟩: ∃l,lastM s.memos c8=l:=⟨_,rfl⟩
  rw[hH,hlm,HFS.out] at hst
  dsimp only at hst
  have hfc:fc=c8:=by have:=(find_in hfin).2;rw[HFS.out] at this;exact this
  subst hfc
  have hls:0<=ls/\ls<=66:=⟨by have:=(last_bounds HR.out fc).2;rw[hlm] at this;exact this,by have:=HLB.out fc;rw[hlm] at this;exact this⟩
  have hren:fe<=yt:=by have:=hst.ren;rw[HFS.out] at this;have e:s.time=yt:=(congrArg StV.time HV9.out).symm;rw[<-e];exact this
  have HRY:Hid (RdSt W11 ⟨yt,yn,yk,yS,ya,yc,yK,yka,ykc,yM,yma,ymc⟩):=hid (HF11.out.rd (RdSt.zero W11))
  have KH:=Held_any (.slice yka yK.length ykc) yK fc W11 HRY.out.k.row (by have q:=hst.right.good.len;rw[<-HV9.out] at q;have q:(vals yK).length <=4:=q;rw[vals_length] at q;omega)
  rw[show vals yK=s.locks from congrArg StV.locks HV9.out,hH] at KH
  have KH:=hid KH
  have KL:=hid (fun W (hb:Below W11.heap.size W11 W)=>by
   have:=(RefLast_any (.slice yma yM.length ymc) yM fc W (HRY.out.later hb).m).mono fun e w' q=>GetsM.s q
   rw[show valsM yM=s.memos from congrArg StV.memos HV9.out,hlm] at this
   exact this)
  dsimp only at KL
  unfold GetsHK at KH
  have hst2:Stay fc fn H 0 ls (StC.v ⟨yt,yn,yk,yS,ya,yc,yK,yka,ykc,yM,yma,ymc⟩):=by rw[HV9.out];exact hst
  have HS0:=hid hst2
  have HH0:Hid (heldK (StC.v ⟨yt,yn,yk,yS,ya,yc,yK,yka,ykc,yM,yma,ymc⟩).locks fc=H):=hid (by rw[HV9.out];exact hH)
  have HHN:=hid (show H.Pairwise (fun a b=>a.name≠b.name) by rw[<-hH];exact held_namesR HR.out fc)
  clear hst hst2 hH hlm hfin HST
  obtain⟨c0,c1,c2,c3,c4,c5,cf⟩:=HX11.out
  simp only[StC.sv,StC.kv,StC.mv] at c0 c1 c2 c3 c4 c5
  obtain⟨x0,x1,x2,xf⟩:=HE11.out
  dsimp only at x0 x1 x2
  go_upto_region 7 with (go_at_call 23;refine KH.out.mono ?_;rintro e w12 ⟨ha,hcp,rfl,hr12,hb12⟩;have HRH:=hid hr12;have HB12:=hid hb12;clear hr12 hb12)
  clear c0 c1 c2 c3 c4 c5 cf x0 x1 x2 xf KH
  obtain⟨c0,c1,c2,c3,c4,c5,cf⟩:=HX11.out.later HB12.out
  simp only[StC.sv,StC.kv,StC.mv] at c0 c1 c2 c3 c4 c5
  obtain⟨x0,x1,x2,xf⟩:=HE11.out.later HB12.out
  dsimp only at x0 x1 x2
  go_upto_region 8 with (go_at_call 24;refine(KL.out _ HB12.out).mono ?_;rintro e w14 ⟨la,lp,rfl,hr14,hb14⟩;have HB14:=hid (step HB12.out hb14);have HRH:=hid (HRH.out.later hb14);clear hr14 hb14)
  obtain⟨W14,hW14⟩: ∃W14,W14=w14.alloc (.cells #[.int .i64 lc,.int .i64 ls,.int .i64 lk,.int .i64 ln,.int .i64 ld,.slice la lh.length lp] 51):=⟨_,rfl⟩
  have hm14:W14.cell? ⟨w14.heap.size,1,none⟩=some (.int .i64 ls):=by rw[hW14];exact(box6 (Below.refl _ _)).2.1
  have hn14:Below w14.heap.size w14 W14:=by rw[hW14];exact newAlloc _ _
  obtain⟨b14,hbk14⟩: ∃b,w14.heap.size=b:=⟨_,rfl⟩
  rw[<-hW14]
  rw[hbk14] at hm14 ⊢
  have HM14:=hid hm14
  have HN14:=hid (step HB14.out hn14)
  have HRH:=hid (HRH.out.later hn14)
  have HX14:=hid (HX11.out.later HN14.out)
  have HE14:=hid (HE11.out.later HN14.out)
  have HF14:=hid (HF11.out.later HN14.out)
  have HB14:=hid (step HB11.out HN14.out)
  clear hW14 hm14 hn14 hbk14 KL HN14 HX11 HE11 HF11 HB11 HB12 HRY c0 c1 c2 c3 c4 c5 cf x0 x1 x2 xf
  obtain⟨c0,c1,c2,c3,c4,c5,cf⟩:=HX14.out
  simp only[StC.sv,StC.kv,StC.mv] at c0 c1 c2 c3 c4 c5
  go_upto_region 9 with fail
  obtain⟨W16,hW16⟩: ∃W16,W16=W14.alloc (.cells #[.int .i64 yt,.int .i64 yn,.int .i64 yk,.slice ya yS.length yc,.slice yka yK.length ykc,.slice yma yM.length ymc] 26):=⟨_,rfl⟩
  have hx16:BoxS W16 W14.heap.size ⟨yt,yn,yk,yS,ya,yc,yK,yka,ykc,yM,yma,ymc⟩:=by rw[hW16];exact BoxS.new W14 ⟨yt,yn,yk,yS,ya,yc,yK,yka,ykc,yM,yma,ymc⟩ _
  have hg16:Tag W16 W14.heap.size 26:=by rw[hW16];exact Tag.new _ _ _
  have hn16:Below W14.heap.size W14 W16:=by rw[hW16];exact newAlloc _ _
  have hsz16:W16.heap.size=W14.heap.size+1:=by rw[hW16];simp
  obtain⟨b16,hbk16⟩: ∃b,W14.heap.size=b:=⟨_,rfl⟩
  rw[<-hW16]
  rw[hbk16] at hx16 hg16 hsz16 ⊢
  have HK16:=hid hbk16
  have HX16:=hid hx16
  have HE16:=hid (HE14.out.later hn16)
  have hm16:=(hn16.cell (lt_of_cell HM14.out)).trans HM14.out
  have HF16:=hid (HF14.out.later hn16)
  obtain⟨x0,x1,x2,xf⟩:=HE16.out
  dsimp only at x0 x1 x2
  clear hW16 hx16 c0 c1 c2 c3 c4 c5 cf
  obtain⟨c0,c1,c2,c3,c4,c5,cf⟩:=HX16.out
  simp only[StC.sv,StC.kv,StC.mv] at c0 c1 c2 c3 c4 c5
  have hmax:(if yt<fe then fe else yt)=yt:=by rw[if_neg (by omega)]
  go_upto_region 10 with fail
  obtain⟨W17,hW17⟩: ∃W17,W17=W16.setCell ⟨b16,0,none⟩ (.int .i64 yt):=⟨_,rfl⟩
  have hx17:BoxS W17 b16 ⟨yt,yn,yk,yS,ya,yc,yK,yka,ykc,yM,yma,ymc⟩:=by rw[hW17];exact HX16.out.set0 yt
  have hg17:Tag W17 b16 26:=by rw[hW17];exact hg16.set _ _ _
  have hb17:Below b16 W14 W17:=by rw[hW17];exact(by rw[<-hbk16];exact hn16:Below b16 W14 W16).setCell (Nat.le_refl b16) _
  have hf17:FromS w.heap.size W17 zeroC10 ⟨yt,yn,yk,yS,ya,yc,yK,yka,ykc,yM,yma,ymc⟩:=by rw[hW17];exact HF16.out.tag hg16 notRow_state 0 _
  have hm17:W17.cell? ⟨b14,1,none⟩=some (.int .i64 ls):=by
   have hlt:b14<W14.heap.size:=lt_of_cell HM14.out
   have q:=hb17.cell (p:=⟨b14,1,none⟩) (by show b14<b16;omega)
   rw[q];exact HM14.out
  have hs17:W17.heap.size=b16+1:=by rw[hW17];simp [hsz16]
  rw[<-hW17]
  have HX17:=hid hx17
  have HG17:=hid hg17
  have HB17:=hid hb17
  have HF17:=hid hf17
  have hwb:w.heap.size<=b16:=by rw[<-hbk16];exact HB14.out.size
  clear hW17 hx17 hg17 hb17 hf17 hg16 hn16 hsz16 hbk16 hm16 c0 c1 c2 c3 c4 c5 cf x0 x1 x2 xf HX14 HF14 HF16 HE16 hmax
  go_upto_region 11 with fail
  clear hm17
  have hlt16:b16<W17.heap.size:=by omega
  go_wp2
  go_loopw [17,18] (fun qv i wr=> ∃(k:Nat) (y:StC),k<=t5+1/\i= .int .i64 k/\qv= .int .i64 (ls+(k:Int))/\b16<wr.heap.size/\Hid (BoxS wr b16 y)/\Hid (Tag wr b16 26)/\Hid (Stay fc fn H k (ls+(k:Int)) y.v)/\Hid (k=0->heldK y.v.locks fc=H)/\Hid (k≠0->(findS y.v.ses fc).1.ren +d=y.v.time+1)/\Hid (FromS w.heap.size wr zeroC10 y)/\Hid (Below b16 W14 wr)) (fun _ i _=>t5+1 - (intOf i).toNat)
  case atStart=>exact⟨0,⟨yt,yn,yk,yS,ya,yc,yK,yka,ykc,yM,yma,ymc⟩,by omega,rfl,by simp,hlt16,HX17,HG17,hid (by simpa using HS0.out),hid (fun _=>HH0.out),hid (fun q=>absurd rfl q),HF17,HB17⟩
  case round=>
   obtain⟨k,⟨gt,gn,gk,gS,ga,gc,gK,gka,gkc,gM,gma,gmc⟩,hk,rfl,rfl,hlt,HX,HG,HS,HH,HRN,HF,HB⟩:=hrel
   have hpe: ∀W,Below wr.heap.size wr W->Below b16 W14 W:=fun W hb=>HB.out.trans (hb.mono (by omega))
   have HPE:=hid hpe
   have HEX:Hid (∀W,Below b16 W14 W->BoxE W b11 ⟨fc,fn,fe⟩):=hid fun W hb=>HE14.out.later (by rw[HK16.out];exact hb)
   have HHX:Hid (∀W,Below b16 W14 W->RdH W (.slice ha H.length hcp) H):=hid fun W hb=>HRH.out.later (by rw[HK16.out];exact hb)
   have HRG:=hid (HF.out.rd (RdSt.zero wr))
   clear hpe
   by_cases hgo:k<=t5
   ·have e1:decide ((k:Int)<=(t5:Int))=true:=decide_eq_true (by omega)
    have e11:decide (k<=t5)=true:=decide_eq_true hgo
    have hwq:IntKind.i64.wrap (ls+(k:Int)+1)=ls+(k:Int)+1:=by rw[IntKind.wrap_i64];omega
    obtain⟨k1,k2,k3,k4⟩:=stay_keep HS.out hcr (by omega) (by omega)
    have hgb:gn<2305843009213693900/\gk<2305843009213693900:=⟨by have q:gn<=60:=HS.out.num;omega,by have q:gk<=480+8*(k:Int):=HS.out.tok;omega⟩
    have KA:=hid (AutoApply_any ⟨gt,gn,gk,gS,ga,gc,gK,gka,gkc,gM,gma,gmc⟩ (reqK fc (ls+(k:Int)+1) fn) wr HRG.out HS.out.right hgb.1 hgb.2)
    obtain⟨⟨US,⟨uc',us',ua',uh'⟩,ud'⟩,hA⟩: ∃R,applyA (StC.v ⟨gt,gn,gk,gS,ga,gc,gK,gka,gkc,gM,gma,gmc⟩) (reqK fc (ls+(k:Int)+1) fn)=R:=⟨_,rfl⟩
    rw[hA] at KA k1 k2 k3 k4
    dsimp only at k1 k2 k3 k4
    subst k1
    obtain⟨rfl,rfl,rfl,hh'⟩:uc'=0/\fn=us'/\ua'=0/\uh'=heldK (StC.v ⟨gt,gn,gk,gS,ga,gc,gK,gka,gkc,gM,gma,gmc⟩).locks fc:=by injection k2 with q1 q2 q3 q4;exact⟨q1,q2.symm,q3,q4⟩
    have HHU:=hid hh'
    have HKP:=hid k3
    have HTU:=hid k4
    have HSN:=hid (stay_next k3 (by omega) d hdr)
    unfold reqK reqVal GetsAp stVal at KA
    simp only[StC.sv,StC.kv,StC.mv] at KA
    try dsimp only at KA
    try unfold stVal at KA
    try simp only[StC.sv,StC.kv,StC.mv] at KA
    clear k2 k3 k4 hA hh' hgb
    obtain⟨c0,c1,c2,c3,c4,c5,cf⟩:=HX.out
    simp only[StC.sv,StC.kv,StC.mv] at c0 c1 c2 c3 c4 c5
    obtain⟨x0,x1,x2,xf⟩:=(HEX.out wr HB.out)
    dsimp only at x0 x1 x2
    go_upto_region 16 with (go_at_call 15;refine KA.out.mono ?_;rintro e w19 ⟨⟨ut,un,uk,uS,ua,uc,uK,uka,ukc,uM,uma,umc⟩,h19,p19,he,hv19,hf19,hh19,hb19⟩;simp only[StC.sv,StC.kv,StC.mv] at he;subst he;have HV19:=hid hv19;have HF19:=hid hf19;have HBA:=hid hb19;have HH19:=hid hh19;have HB19:=hid hb19;clear hv19 hf19 hh19 hb19)
    have hbx19:=two_boxes w19 ⟨ut,un,uk,uS,ua,uc,uK,uka,ukc,uM,uma,umc⟩ ⟨0,fn,0,uh'⟩ (.slice h19 uh'.length p19) 26 36 (b:=w19.heap.size) rfl
    simp only[StC.sv,StC.kv,StC.mv] at hbx19
    obtain⟨W19,hW19⟩: ∃W19,W19=(w19.alloc (.cells #[.int .i64 ut,.int .i64 un,.int .i64 uk,.slice ua uS.length uc,.slice uka uK.length ukc,.slice uma uM.length umc] 26)).alloc (.cells #[.int .i64 0,.int .i64 fn,.int .i64 0,.slice h19 uh'.length p19] 36):=⟨_,rfl⟩
    rw[<-hW19] at hbx19 ⊢
    obtain⟨t19,ht19⟩: ∃t,w19.heap.size=t:=⟨_,rfl⟩
    have hn19:=hbx19.2.2
    rw[ht19] at hbx19 ⊢
    have HX19:=hid hbx19.1
    have HP19:=hid hbx19.2.1
    have HF19:=hid (((HF.out.later HB19.out).trans (HF19.out.lower (Nat.le_trans hwb (Nat.le_of_lt hlt)))).later hn19)
    have HFW:Hid (FromS w.heap.size W19 zeroC10 ⟨ut,un,uk,uS,ua,uc,uK,uka,ukc,uM,uma,umc⟩):=hid HF19.out
    have HH19:=hid (HH19.out.later hn19)
    have HB19:=hid (step HB19.out hn19)
    have HXT:=hid (HX.out.later HB19.out)
    have HGT:=hid (HG.out.later HB19.out)
    have HBT:=hid (HPE.out _ HB19.out)
    have hl19:b16<W19.heap.size:=Nat.lt_of_lt_of_le hlt HB19.out.size
    have ht16:b16<t19:=by rw[<-ht19];exact Nat.lt_of_lt_of_le hlt HBA.out.size
    clear hW19 hbx19 hn19 ht19 KA c0 c1 c2 c3 c4 c5 cf x0 x1 x2 xf HX HG HF HRG HB
    obtain⟨r0,r1,r2,r3⟩:=HP19.out
    dsimp only at r0 r1 r2 r3
    obtain⟨x0,x1,x2,xf⟩:=(HEX.out W19 HBT.out)
    dsimp only at x0 x1 x2
    have KG:=hid (fun W (hb:Below W19.heap.size W19 W) (q:uh'=H)=>by
     have:=SameGrants_any _ _ uh' H W (HH19.out.later hb) (HHX.out W (HBT.out.trans (hb.mono (by omega))))
     rw[(sameH_iff _ _).2 q] at this
     exact this)
    go_cut [114] from 90 to 114 (fun s wc=>s= .bool false/\Hid (Below W19.heap.size W19 wc))
    case first=>
     by_cases hk0:k=0
     ·have hq:uh'=H:=by rw[HHU.out];exact HH.out hk0
      have KG0:=hid (KG.out W19 (Below.refl _ _) hq)
      have d1:decide ((k:Int)=0)=true:=decide_eq_true (by omega)
      have d2:((k:Int)==0)=true:=by rw[beq_iff_eq];omega
      have d22:(k==0)=true:=by rw[beq_iff_eq];exact hk0
      clear hq hk0
      go_wp2_with (go_at_call 25;refine KG0.out.mono ?_;rintro e w20 ⟨rfl,hb20⟩;have HB20:=hid hb20;clear hb20)
      go_meet
      case rel=>exact⟨rfl,HB20⟩
     ·have d1:decide ((k:Int)=0)=false:=decide_eq_false (by omega)
      have d2:((k:Int)==0)=false:=by rw[beq_eq_false_iff_ne];omega
      have d22:(k==0)=false:=by rw[beq_eq_false_iff_ne];exact hk0
      clear hk0
      go_wp2
      go_meet
      case rel=>exact⟨rfl,hid (Below.refl _ _)⟩
    case rest=>
     obtain⟨rfl,HBC⟩:=hcut
     obtain⟨w20,rfl⟩: ∃w20,w20=wc:=⟨_,rfl⟩
     clear r0 r1 r2 r3 x0 x1 x2 xf
     obtain⟨HN,hHN⟩: ∃HN,H.length=HN:=⟨_,rfl⟩
     have HHN2:=hid hHN
     have HHXN:Hid (∀W,Below b16 W14 W->RdH W (.slice ha HN hcp) H):=hid fun W hb=>by have:=HHX.out W hb;rw[hHN] at this;exact this
     have hB20:Below b16 W14 w20:=HBT.out.trans (HBC.out.mono (by omega))
     have hm20:HN<=9223372036854775807:=by have:=(HHXN.out w20 hB20).ex;obtain⟨a9,cap9,hv9,q1,q2,_⟩:=this;injection hv9 with _ _ q9;subst q9;rw[hHN] at q1;unfold maxLen at q2;omega
     rw[hHN]
     clear hHN
     go_wp2
     obtain⟨wo,rfl⟩: ∃wo,wo=wr:=⟨_,rfl⟩
     go_loopw [22] (fun i wq=> ∃(j:Nat),j<=HN/\i= .int .i64 j/\Hid (Below w20.heap.size w20 wq)) (fun i _=>HN - (intOf i).toNat)
     case atStart=>exact⟨0,by omega,rfl,hid (Below.refl _ _)⟩
     case round=>
      obtain⟨j,hj,rfl,HBQ⟩:=hrel
      obtain⟨wq,rfl⟩: ∃wq,wq=wr:=⟨_,rfl⟩
      have HQW:=hid (hB20.trans (HBQ.out.mono (by have:=HBC.out.size;omega)))
      have HQC:=hid (step HBC.out HBQ.out)
      by_cases hlj:j<HN
      ·have hjc:j<H.length:=by rw[HHN2.out];exact hlj
       have f1:(0:Int)<=(j:Int):=by omega
       have f2:(j:Int)<(HN:Int):=by omega
       have e3:decide ((j:Int)<(HN:Int))=true:=decide_eq_true f2
       have e33:decide (j<HN)=true:=decide_eq_true hlj
       obtain⟨ab,ao,rfl,g0,g1⟩:=(HHXN.out wq HQW.out).at j hjc wq (Below.refl _ _)
       have HGC:Hid (∀W,Below wq.heap.size wq W->W.cell? ⟨ab,ao+j*2,none⟩=some (.string (bstr H[j].name))/\W.cell? ⟨ab,ao+j*2+1,none⟩=some (.int .i64 H[j].token)):=hid fun W hb=>⟨(hb.cell (lt_of_cell g0)).trans g0,(hb.cell (lt_of_cell g1)).trans g1⟩
       have htk:tokenF uh' H[j].name =H[j].token :=by
        rw[HHU.out]
        exact token_mem _ _ (held_namesR HS.out.right fc) (HS.out.held _ (List.getElem_mem hjc))
       generalize H[j]=g at g0 g1 HGC htk
       obtain⟨gnm,gtk⟩:=g
       dsimp only at g0 g1 HGC htk
       have KT:=hid (fun W (hb:Below wq.heap.size wq W)=>RefToken_any ⟨0,fn,0,uh'⟩ (.slice h19 uh'.length p19) gnm W (HH19.out.later (step HQC.out hb)))
       unfold repVal at KT
       dsimp only at KT
       rw[htk] at KT
       have HPQ:=hid (HP19.out.later HQC.out)
       have HKQ:Hid (∀W,Below wq.heap.size wq W->(fun W=>W.cell? ⟨t19+1,0,none⟩=some (.int .i64 0)/\W.cell? ⟨t19+1,1,none⟩=some (.int .i64 fn)/\W.cell? ⟨t19+1,2,none⟩=some (.int .i64 0)/\W.cell? ⟨t19+1,3,none⟩=some (.slice h19 uh'.length p19)/\W.cell? ⟨ab,ao+j*2,none⟩=some (.string (bstr gnm))/\W.cell? ⟨ab,ao+j*2+1,none⟩=some (.int .i64 gtk)) W):=hid fun W hb=>by
        obtain⟨r0,r1,r2,r3⟩:=HPQ.out.later hb
        exact⟨r0,r1,r2,r3,(HGC.out W hb).1,(HGC.out W hb).2⟩
       clear htk g0 g1
       go_upto_region 21 with fail
       refine wp_region_held_drew (S:=(fun W=>W.cell? ⟨t19+1,0,none⟩=some (.int .i64 0)/\W.cell? ⟨t19+1,1,none⟩=some (.int .i64 fn)/\W.cell? ⟨t19+1,2,none⟩=some (.int .i64 0)/\W.cell? ⟨t19+1,3,none⟩=some (.slice h19 uh'.length p19)/\W.cell? ⟨ab,ao+j*2,none⟩=some (.string (bstr gnm))/\W.cell? ⟨ab,ao+j*2+1,none⟩=some (.int .i64 gtk))) (by kernel_rfl) (HKQ.out _ (Below.refl _ _).drew) (fun hHeld=>?_)
       obtain⟨V,hV⟩: ∃V,V=wq.drew:=⟨_,rfl⟩
       have HBR:Hid (Below wq.heap.size wq V):=hid (by rw[hV];exact(Below.refl _ _).drew)
       rw[<-hV] at hHeld ⊢
       clear hV
       refine wpAnyH_take (i:=0) (v:=?_) rfl (by kernel_rfl) (by kernel_rfl) (by kernel_rfl) (fun _ _ _ h=>h) (Or.inl ⟨by rfl,?_⟩) (by assumption) ?_
       rotate_left
       ·intro w hSw;(try dsimp only at hSw);go_simp<;>with_reducible rfl
       try simp only[Act.put,getElem_toArray,getElem_cons_zero,setIfInBounds_toArray,set_cons_zero,set_cons_succ]
       refine wpAnyH_take (i:=1) (v:=?_) rfl (by kernel_rfl) (by kernel_rfl) (by kernel_rfl) (fun _ _ _ h=>h) (Or.inl ⟨by rfl,?_⟩) (by assumption) ?_
       rotate_left
       ·intro w hSw;(try dsimp only at hSw);go_simp<;>with_reducible rfl
       try simp only[Act.put,getElem_toArray,getElem_cons_succ,getElem_cons_zero,setIfInBounds_toArray,set_cons_zero,set_cons_succ]
       refine wpAnyH_take (i:=2) (v:=?_) rfl (by kernel_rfl) (by kernel_rfl) (by kernel_rfl) (fun _ _ _ h=>h) (Or.inl ⟨by rfl,?_⟩) (by assumption) ?_
       rotate_left
       ·intro w hSw;(try dsimp only at hSw);go_simp<;>with_reducible rfl
       try simp only[Act.put,getElem_toArray,getElem_cons_succ,getElem_cons_zero,setIfInBounds_toArray,set_cons_zero,set_cons_succ]
       refine wpAnyH_take (i:=3) (v:=?_) rfl (by kernel_rfl) (by kernel_rfl) (by kernel_rfl) (fun _ _ _ h=>h) (Or.inl ⟨by rfl,?_⟩) (by assumption) ?_
       rotate_left
       ·intro w hSw;(try dsimp only at hSw);go_simp<;>with_reducible rfl
       try simp only[Act.put,getElem_toArray,getElem_cons_succ,getElem_cons_zero,setIfInBounds_toArray,set_cons_zero,set_cons_succ]
       refine wpAnyH_take (i:=4) (v:=?_) rfl (by kernel_rfl) (by kernel_rfl) (by kernel_rfl) (fun _ _ _ h=>h) (Or.inl ⟨by rfl,?_⟩) (by assumption) ?_
       rotate_left
       ·intro w hSw;(try dsimp only at hSw);go_simp<;>with_reducible rfl
       try simp only[Act.put,getElem_toArray,getElem_cons_succ,getElem_cons_zero,setIfInBounds_toArray,set_cons_zero,set_cons_succ]
       refine wpAnyH_take (i:=5) (v:=?_) rfl (by kernel_rfl) (by kernel_rfl) (by kernel_rfl) (fun _ _ _ h=>h) (Or.inl ⟨by rfl,?_⟩) (by assumption) ?_
       rotate_left
       ·intro w hSw;(try dsimp only at hSw);go_simp<;>with_reducible rfl
       try simp only[Act.put,getElem_toArray,getElem_cons_succ,getElem_cons_zero,setIfInBounds_toArray,set_cons_zero,set_cons_succ]
       refine wpAnyH_take (i:=7) (v:=?_) rfl (by kernel_rfl) (by kernel_rfl) (by kernel_rfl) (fun _ _ _ h=>h) (Or.inl ⟨by rfl,?_⟩) (by assumption) ?_
       rotate_left
       ·intro w hSw;(try dsimp only at hSw);go_simp<;>with_reducible rfl
       try simp only[Act.put,getElem_toArray,getElem_cons_succ,getElem_cons_zero,setIfInBounds_toArray,set_cons_zero,set_cons_succ]
       refine wpAnyH_take (i:=8) (v:=?_) rfl (by kernel_rfl) (by kernel_rfl) (by kernel_rfl) (fun _ _ _ h=>h) (Or.inl ⟨by rfl,?_⟩) (by assumption) ?_
       rotate_left
       ·intro w hSw;(try dsimp only at hSw);go_simp<;>with_reducible rfl
       try simp only[Act.put,getElem_toArray,getElem_cons_succ,getElem_cons_zero,setIfInBounds_toArray,set_cons_zero,set_cons_succ]
       refine wpAnyH_take (i:=9) (v:=?_) rfl (by kernel_rfl) (by kernel_rfl) (by kernel_rfl) (fun _ _ _ h=>h) (Or.inl ⟨by rfl,?_⟩) (by assumption) ?_
       rotate_left
       ·intro w hSw;(try dsimp only at hSw);go_simp<;>with_reducible rfl
       try simp only[Act.put,getElem_toArray,getElem_cons_succ,getElem_cons_zero,setIfInBounds_toArray,set_cons_zero,set_cons_succ]
       refine wpAnyH_take (i:=10) (v:=?_) rfl (by kernel_rfl) (by kernel_rfl) (by kernel_rfl) (fun _ _ _ h=>h) (Or.inl ⟨by rfl,?_⟩) (by assumption) ?_
       rotate_left
       ·intro w hSw;(try dsimp only at hSw);go_simp<;>with_reducible rfl
       try simp only[Act.put,getElem_toArray,getElem_cons_succ,getElem_cons_zero,setIfInBounds_toArray,set_cons_zero,set_cons_succ]
       refine wpAnyH_take (i:=11) (v:=?_) rfl (by kernel_rfl) (by kernel_rfl) (by kernel_rfl) (fun _ _ _ h=>h) (Or.inl ⟨by rfl,?_⟩) (by assumption) ?_
       rotate_left
       ·intro w hSw;(try dsimp only at hSw);go_simp<;>with_reducible rfl
       try simp only[Act.put,getElem_toArray,getElem_cons_succ,getElem_cons_zero,setIfInBounds_toArray,set_cons_zero,set_cons_succ]
       refine wpAnyH_ready (rs:= [6]) (by kernel_rfl) (by simp) ?_
       refine AllReadyH.cons rfl (fun K hK=>?_) AllReadyH.nil
       go_simp
       go_at_call 26
       refine(KT.out _ HBR.out).mono ?_
       rintro e V ⟨rfl,hb⟩
       have HBR:=hid (step HBR.out hb)
       clear hb
       refine hK.out _ _ (HKQ.out _ HBR.out) (fun hHeld=>?_)
       clear hK K
       try simp only[Act.put,getElem_toArray,getElem_cons_succ,getElem_cons_zero,setIfInBounds_toArray,set_cons_zero,set_cons_succ]
       refine wpAnyH_take (i:=12) (v:=?_) rfl (by kernel_rfl) (by kernel_rfl) (by kernel_rfl) (fun _ _ _ h=>h) (Or.inl ⟨by rfl,?_⟩) (by assumption) ?_
       rotate_left
       ·intro w hSw;(try dsimp only at hSw);go_simp<;>with_reducible rfl
       try simp only[Act.put,getElem_toArray,getElem_cons_succ,getElem_cons_zero,setIfInBounds_toArray,set_cons_zero,set_cons_succ]
       refine wpAnyH_done (by kernel_rfl) ?_ _
       have HBE:=hid (step HBQ.out HBR.out)
       clear hHeld HKQ KT HPQ HGC
       go_wp2
       go_roundw
       case rel=>exact⟨j+1,by omega,by go_num,HBE⟩
       case measure=>simp [intOf];omega
      ·obtain rfl:j=HN:=by omega
       have e3:decide ((j:Int)<(j:Int))=false:=decide_eq_false (by omega)
       have e33:decide (j<j)=false:=decide_eq_false (by omega)
       have HXU:=hid (HX19.out.later HQC.out)
       have HFU:=hid (HFW.out.later HQC.out)
       have HXS:=hid (HXT.out.later HQC.out)
       have HGS:=hid (HGT.out.later HQC.out)
       have hK:=HKP.out
       rw[<-HV19.out] at hK
       have hN:=HSN.out
       rw[<-HV19.out] at hN
       have hT:=HTU.out
       rw[<-HV19.out] at hT
       have htm1:ut=gt:=hT
       have htb:ut<=960+257*(k:Int):=hK.s.time
       have ht0:0<=ut:=hK.s.right.time.1
       have hw1:IntKind.i64.wrap (ut+d)=ut+d:=by rw[IntKind.wrap_i64];omega
       have hw2:IntKind.i64.wrap (ut+d - 1)=ut+d - 1:=by rw[IntKind.wrap_i64];omega
       have KD:=hid (AutoAdv_any ⟨ut,un,uk,uS,ua,uc,uK,uka,ukc,uM,uma,umc⟩ (ut+d - 1) d wq (HFU.out.rd (RdSt.zero wq)) hK.s.right.small hK.s.right)
       have hN:Stay fc fn H (k+1) (ls+(k:Int)+1) (advA (StC.v ⟨ut,un,uk,uS,ua,uc,uK,uka,ukc,uM,uma,umc⟩) (ut+d - 1) d)/\(advA (StC.v ⟨ut,un,uk,uS,ua,uc,uK,uka,ukc,uM,uma,umc⟩) (ut+d - 1) d).time =ut+d - 1/\(findS (advA (StC.v ⟨ut,un,uk,uS,ua,uc,uK,uka,ukc,uM,uma,umc⟩) (ut+d - 1) d).ses fc).1.ren =ut:=hN
       obtain⟨AS,hAS⟩: ∃s,advA (StC.v ⟨ut,un,uk,uS,ua,uc,uK,uka,ukc,uM,uma,umc⟩) (ut+d - 1) d=s:=⟨_,rfl⟩
       rw[hAS] at KD hN
       obtain⟨n1,n2,n3⟩:=hN
       have HN1:=hid n1
       have HN2:=hid (show(findS AS.ses fc).1.ren +d=AS.time+1 by rw[n2,n3];omega)
       unfold GetsSt stVal at KD
       simp only[StC.sv,StC.kv,StC.mv] at KD
       clear hK hT htm1 n1 n2 n3 hAS HKP HSN HTU htb ht0
       obtain⟨c0,c1,c2,c3,c4,c5,cf⟩:=HXU.out
       simp only[StC.sv,StC.kv,StC.mv] at c0 c1 c2 c3 c4 c5
       obtain⟨s0,s1,s2,s3,s4,s5,sf⟩:=HXS.out
       simp only[StC.sv,StC.kv,StC.mv] at s0 s1 s2 s3 s4 s5
       go_upto_region 24 with (go_at_call 18;refine KD.out.mono ?_;rintro e w23 ⟨⟨zt,zn,zk,zS,za,zc,zK,zka,zkc,zM,zma,zmc⟩,he,hv23,hf23,hb23⟩;simp only[StC.sv,StC.kv,StC.mv] at he;subst he;have HV23:=hid hv23;have HF23:=hid ((HFU.out.later hb23).trans (hf23.lower (Nat.le_trans hwb (Nat.le_trans (Nat.le_of_lt hl19) HQC.out.size))));have HB23:=hid hb23;obtain⟨z0,z1,z2,z3,z4,z5,zf⟩:=HXS.out.later hb23;simp only[StC.sv,StC.kv,StC.mv] at z0 z1 z2 z3 z4 z5;clear hv23 hf23 hb23)
       obtain⟨W24,hW24⟩: ∃W24,W24=(((((w23.setCell ⟨b16,0,none⟩ (.int .i64 zt)).setCell ⟨b16,1,none⟩ (.int .i64 zn)).setCell ⟨b16,2,none⟩ (.int .i64 zk)).setCell ⟨b16,3,none⟩ (.slice za zS.length zc)).setCell ⟨b16,4,none⟩ (.slice zka zK.length zkc)).setCell ⟨b16,5,none⟩ (.slice zma zM.length zmc):=⟨_,rfl⟩
       have hx24:BoxS W24 b16 ⟨zt,zn,zk,zS,za,zc,zK,zka,zkc,zM,zma,zmc⟩:=by rw[hW24];exact(HXS.out.later HB23.out).put zt zn zk zS za zc zK zka zkc zM zma zmc
       have hg24:Tag W24 b16 26:=by rw[hW24];exact(HGS.out.later HB23.out).set6 b16 _ _ _ _ _ _
       have hf24:FromS w.heap.size W24 zeroC10 ⟨zt,zn,zk,zS,za,zc,zK,zka,zkc,zM,zma,zmc⟩:=by rw[hW24];exact HF23.out.tag6 (HGS.out.later HB23.out) notRow_state _ _ _ _ _ _
       have hb24:Below b16 W14 W24:=by rw[hW24];exact below_set6 (HQW.out.trans (HB23.out.mono (by have:=HQC.out.size;omega))) b16 (Nat.le_refl _) _ _ _ _ _ _
       have hl24:b16<W24.heap.size:=hx24.lt
       rw[<-hW24]
       have HX24:=hid hx24
       have HG24:=hid hg24
       have HF24:=hid hf24
       have HB24:=hid hb24
       clear hW24 hx24 hg24 hf24 hb24 z0 z1 z2 z3 z4 z5 zf s0 s1 s2 s3 s4 s5 sf c0 c1 c2 c3 c4 c5 cf KD
       have hfz:(findS zS fc).2=true:=by have:=HN1.out.has;rw[<-HV23.out] at this;exact this
       have KF:=Find_any (.slice za zS.length zc) zS fc W24 (HF24.out.rd (RdSt.zero W24)).s
       obtain⟨⟨⟨ic,in',ie⟩,ib⟩,hif⟩: ∃l,findS zS fc=l:=⟨_,rfl⟩
       rw[hif] at KF hfz
       dsimp only at hfz
       subst hfz
       unfold Found sesVal at KF
       try dsimp only at KF
       have KF:=hid KF
       clear hif
       obtain⟨c0,c1,c2,c3,c4,c5,cf⟩:=HX24.out
       simp only[StC.sv,StC.kv,StC.mv] at c0 c1 c2 c3 c4 c5
       obtain⟨x0,x1,x2,xf⟩:=(HEX.out W24 HB24.out)
       dsimp only at x0 x1 x2
       go_upto_region 25 with (go_at_call 22;refine KF.out.mono ?_;rintro e w25 ⟨rfl,hb25⟩;have HB25:=hid hb25;clear hb25)
       obtain⟨W25,hW25⟩: ∃W25,W25=w25.alloc (.cells #[.int .i64 ic,.int .i64 in',.int .i64 ie] 46):=⟨_,rfl⟩
       have hn25:Below w25.heap.size w25 W25:=by rw[hW25];exact newAlloc _ _
       have HB25:=hid (step HB25.out hn25)
       rw[<-hW25]
       have hl25:b16<W25.heap.size:=Nat.lt_of_lt_of_le hl24 HB25.out.size
       have HXE:=hid (HX24.out.later HB25.out)
       have HGE:=hid (HG24.out.later HB25.out)
       have HFE:=hid (HF24.out.later HB25.out)
       have HBE:=hid (HB24.out.trans (HB25.out.mono (by omega)))
       have HSE:Hid (Stay fc fn H (k+1) (ls+((k+1:Nat):Int)) (StC.v ⟨zt,zn,zk,zS,za,zc,zK,zka,zkc,zM,zma,zmc⟩)):=hid (by rw[HV23.out];have:=HN1.out;rw[show ls+((k+1:Nat):Int)=ls+(k:Int)+1 by omega];exact this)
       have HRE:Hid (k+1≠0->(findS (StC.v ⟨zt,zn,zk,zS,za,zc,zK,zka,zkc,zM,zma,zmc⟩).ses fc).1.ren +d=(StC.v ⟨zt,zn,zk,zS,za,zc,zK,zka,zkc,zM,zma,zmc⟩).time +1):=hid (fun _=>by rw[HV23.out];exact HN2.out)
       clear hW25 hn25 c0 c1 c2 c3 c4 c5 cf x0 x1 x2 xf KF
       go_wp2
       obtain rfl:H.length=j:=HHN2.out
       go_roundw
       case rel=>exact⟨k+1,⟨zt,zn,zk,zS,za,zc,zK,zka,zkc,zM,zma,zmc⟩,by omega,by go_num,by go_num,hl25,HXE,HGE,HSE,hid (fun q=>absurd q (by omega)),HRE,HFE,HBE⟩
       case measure=>simp [intOf];omega
   ·obtain rfl:k=t5+1:=by omega
    have e1:decide (((t5+1:Nat):Int)<=(t5:Int))=false:=decide_eq_false (by omega)
    have e11:decide (t5+1<=t5)=false:=decide_eq_false (by omega)
    have e12:decide ((t5:Int)+1<=(t5:Int))=false:=decide_eq_false (by omega)
    obtain⟨n1,n2,n3,n4⟩:=stay_gone HS.out (by omega) d hdr (HRN.out (by omega))
    have htb:gt<=960+257*((t5+1:Nat):Int):=HS.out.time
    have ht0:0<=gt:=HS.out.right.time.1
    have hw1:IntKind.i64.wrap (gt+1)=gt+1:=by rw[IntKind.wrap_i64];omega
    have KD:=hid (AutoAdv_any ⟨gt,gn,gk,gS,ga,gc,gK,gka,gkc,gM,gma,gmc⟩ (gt+1) d wr HRG.out HS.out.right.small HS.out.right)
    have n4:fc∈goneA (StC.v ⟨gt,gn,gk,gS,ga,gc,gK,gka,gkc,gM,gma,gmc⟩) (advA (StC.v ⟨gt,gn,gk,gS,ga,gc,gK,gka,gkc,gM,gma,gmc⟩) (gt+1) d):=n4
    have n3: ∀k∈(advA (StC.v ⟨gt,gn,gk,gS,ga,gc,gK,gka,gkc,gM,gma,gmc⟩) (gt+1) d).locks,k.holder≠fc/\fc ∉ k.line:=n3
    have n2:hasA (advA (StC.v ⟨gt,gn,gk,gS,ga,gc,gK,gka,gkc,gM,gma,gmc⟩) (gt+1) d) fc=false:=n2
    have n1:Rst (advA (StC.v ⟨gt,gn,gk,gS,ga,gc,gK,gka,gkc,gM,gma,gmc⟩) (gt+1) d):=n1
    have HRG2:=hid HS.out.right
    obtain⟨AS,hAS⟩: ∃s,advA (StC.v ⟨gt,gn,gk,gS,ga,gc,gK,gka,gkc,gM,gma,gmc⟩) (gt+1) d=s:=⟨_,rfl⟩
    rw[hAS] at KD n1 n2 n3 n4
    have HN1:=hid n1
    have HN2:=hid n2
    have HN3:=hid n3
    have HN4:=hid n4
    unfold GetsSt stVal at KD
    simp only[StC.sv,StC.kv,StC.mv] at KD
    clear n1 n2 n3 n4 hAS htb ht0 HS HH HRN hgo
    obtain⟨c0,c1,c2,c3,c4,c5,cf⟩:=HX.out
    simp only[StC.sv,StC.kv,StC.mv] at c0 c1 c2 c3 c4 c5
    go_upto_region 28 with (go_at_call 18;refine KD.out.mono ?_;rintro e w26 ⟨⟨zt,zn,zk,zS,za,zc,zK,zka,zkc,zM,zma,zmc⟩,he,hv26,hf26,hb26⟩;simp only[StC.sv,StC.kv,StC.mv] at he;subst he;have HV26:=hid hv26;have HF26:=hid ((HF.out.later hb26).trans (hf26.lower (Nat.le_trans hwb (Nat.le_of_lt hlt))));have HB26:=hid hb26;clear hv26 hf26 hb26)
    obtain⟨W26,hW26⟩: ∃W26,W26=w26.alloc (.cells #[.int .i64 zt,.int .i64 zn,.int .i64 zk,.slice za zS.length zc,.slice zka zK.length zkc,.slice zma zM.length zmc] 26):=⟨_,rfl⟩
    have hx26:BoxS W26 w26.heap.size ⟨zt,zn,zk,zS,za,zc,zK,zka,zkc,zM,zma,zmc⟩:=by rw[hW26];exact BoxS.new w26 ⟨zt,zn,zk,zS,za,zc,zK,zka,zkc,zM,zma,zmc⟩ _
    have hg26:Tag W26 w26.heap.size 26:=by rw[hW26];exact Tag.new _ _ _
    have hn26:Below w26.heap.size w26 W26:=by rw[hW26];exact newAlloc _ _
    obtain⟨b26,hbk26⟩: ∃b,w26.heap.size=b:=⟨_,rfl⟩
    rw[<-hW26]
    rw[hbk26] at hx26 hg26 ⊢
    have HX26:=hid hx26
    have HF26:=hid (HF26.out.later hn26)
    have HB26:=hid (step HB26.out hn26)
    have HP26:=hid (HPE.out _ HB26.out)
    have HRZ:=hid (HF26.out.rd (RdSt.zero W26))
    have hRz:Rst (StC.v ⟨zt,zn,zk,zS,za,zc,zK,zka,zkc,zM,zma,zmc⟩):=by rw[HV26.out];exact HN1.out
    have HRZ2:=hid hRz
    clear hW26 hx26 hg26 hn26 hbk26 KD c0 c1 c2 c3 c4 c5 cf
    have hfz:(findS zS fc).2=false:=by have:=HN2.out;rw[<-HV26.out] at this;exact this
    have KF:=Find_any (.slice za zS.length zc) zS fc W26 HRZ.out.s
    obtain⟨⟨⟨ic,in',ie⟩,ib⟩,hif⟩: ∃l,findS zS fc=l:=⟨_,rfl⟩
    rw[hif] at KF hfz
    dsimp only at hfz
    subst hfz
    unfold Found sesVal at KF
    try dsimp only at KF
    have KF:=hid KF
    clear hif hRz
    obtain⟨c0,c1,c2,c3,c4,c5,cf⟩:=HX26.out
    simp only[StC.sv,StC.kv,StC.mv] at c0 c1 c2 c3 c4 c5
    obtain⟨x0,x1,x2,xf⟩:=(HEX.out W26 HP26.out)
    dsimp only at x0 x1 x2
    go_upto_region 29 with (go_at_call 22;refine KF.out.mono ?_;rintro e w27 ⟨rfl,hb27⟩;have HB27:=hid hb27;clear hb27)
    obtain⟨W27,hW27⟩: ∃W27,W27=w27.alloc (.cells #[.int .i64 ic,.int .i64 in',.int .i64 ie] 46):=⟨_,rfl⟩
    have hn27:Below w27.heap.size w27 W27:=by rw[hW27];exact newAlloc _ _
    have HB27:=hid (step HB27.out hn27)
    rw[<-hW27]
    clear hW27 hn27 c0 c1 c2 c3 c4 c5 cf x0 x1 x2 xf KF
    have HRK:=hid (HRZ.out.later HB27.out)
    have HXV:=hid (HX26.out.later HB27.out)
    have HB27b:=hid (step HB26.out HB27.out)
    obtain⟨KN,hKN⟩: ∃KN,zK.length=KN:=⟨_,rfl⟩
    have HKN:=hid hKN
    have hkm:KN<=9223372036854775807:=by
     have q:=HRK.out.k.row.len
     rw[<-hKN];exact q
    clear hKN
    have HCK:Hid (∀j (hj:j<zK.length),∃kb ko,zka=some ⟨kb,ko,none⟩/\ ∀W,Below W27.heap.size W27 W->W.cell? ⟨kb,ko+j*4+1,none⟩=some (.int .i64 zK[j].holder)/\W.cell? ⟨kb,ko+j*4+3,none⟩=some zK[j].lv):=hid fun j hj=>by
     obtain⟨kb,ko,e,hc⟩:=rdk_at HRK.out.k.row j hj
     exact⟨kb,ko,e,fun W hb=>⟨(hc W hb).2.1,(hc W hb).2.2.2⟩⟩
    go_wp2
    obtain⟨wo,rfl⟩: ∃wo,wo=wr:=⟨_,rfl⟩
    go_loopw [28] (fun i wq=> ∃(j:Nat),j<=KN/\i= .int .i64 j/\Hid (Below W27.heap.size W27 wq)) (fun i _=>KN - (intOf i).toNat)
    case atStart=>exact⟨0,by omega,rfl,hid (Below.refl _ _)⟩
    case round=>
     obtain⟨j,hj,rfl,HBQ⟩:=hrel
     obtain⟨wq,rfl⟩: ∃wq,wq=wr:=⟨_,rfl⟩
     obtain⟨c0,c1,c2,c3,c4,c5,cf⟩:=HXV.out.later HBQ.out
     simp only[StC.sv,StC.kv,StC.mv] at c0 c1 c2 c3 c4 c5
     rw[HKN.out] at c4
     by_cases hlj:j<KN
     ·have hjc:j<zK.length:=by rw[HKN.out];exact hlj
      have f1:(0:Int)<=(j:Int):=by omega
      have f2:(j:Int)<(KN:Int):=by omega
      have e3:decide ((j:Int)<(KN:Int))=true:=decide_eq_true f2
      have e33:decide (j<KN)=true:=decide_eq_true hlj
      obtain⟨kb,ko,rfl,hkc⟩:=HCK.out j hjc
      have hin:=HN3.out zK[j].val (by rw[<-HV26.out];exact List.mem_map_of_mem (List.getElem_mem hjc))
      have hh1:zK[j].holder ≠fc:=hin.1
      have hh2:fc ∉ zK[j].line :=hin.2
      have KI:=hid (fun W (hb:Below wq.heap.size wq W)=>by
       have:=In_any _ zK[j].line fc W ((HRK.out.later (step HBQ.out hb)).k.line _ (List.getElem_mem hjc))
       rw[show(zK[j].line.any fun y=>decide (y=fc))=hasL zK[j].line fc from rfl,(hasL_not _ _).2 hh2] at this
       exact this)
      have HKC:=hid (fun W (hb:Below wq.heap.size wq W)=>hkc W (step HBQ.out hb))
      generalize zK[j]=z at KI HKC hh1
      obtain⟨zn',zh',zt',zl',zla,zlc⟩:=z
      dsimp only at KI HKC hh1
      unfold LockC.lv at KI HKC
      dsimp only at KI HKC
      have HPQ:=hid (HPE.out _ (step HB27b.out HBQ.out))
      have HXQ:=hid (HXV.out.later HBQ.out)
      have HKQ:Hid (∀W,Below wq.heap.size wq W->(fun W=>W.cell? ⟨b26,4,none⟩=some (.slice (some ⟨kb,ko,none⟩) KN zkc)/\W.cell? ⟨kb,ko+j*4+1,none⟩=some (.int .i64 zh')/\W.cell? ⟨kb,ko+j*4+3,none⟩=some (.slice zla zl'.length zlc)/\W.cell? ⟨b11,0,none⟩=some (.int .i64 fc)) W):=hid fun W hb=>by
       have q:=(HXQ.out.later hb).c4
       simp only[StC.kv] at q
       rw[HKN.out] at q
       exact⟨q,(HKC.out W hb).1,(HKC.out W hb).2,(HEX.out W (HPE.out _ (step HB27b.out (step HBQ.out hb)))).c0⟩
      have d1:decide (zh'=fc)=false:=decide_eq_false hh1
      have d2:(zh'==fc)=false:=by rw[beq_eq_false_iff_ne];exact hh1
      clear hh1 hh2 hin HKC hkc
      go_upto_region 32 with fail
      clear c0 c1 c2 c3 c4 c5 cf
      refine wp_region_held_drew (S:=(fun W=>W.cell? ⟨b26,4,none⟩=some (.slice (some ⟨kb,ko,none⟩) KN zkc)/\W.cell? ⟨kb,ko+j*4+1,none⟩=some (.int .i64 zh')/\W.cell? ⟨kb,ko+j*4+3,none⟩=some (.slice zla zl'.length zlc)/\W.cell? ⟨b11,0,none⟩=some (.int .i64 fc))) (by kernel_rfl) (HKQ.out _ (Below.refl _ _).drew) (fun hHeld=>?_)
      obtain⟨V,hV⟩: ∃V,V=wq.drew:=⟨_,rfl⟩
      have HBR:Hid (Below wq.heap.size wq V):=hid (by rw[hV];exact(Below.refl _ _).drew)
      rw[<-hV] at hHeld ⊢
      clear hV
      refine wpAnyH_take (i:=0) (v:=?_) rfl (by kernel_rfl) (by kernel_rfl) (by kernel_rfl) (fun _ _ _ h=>h) (Or.inl ⟨by rfl,?_⟩) (by assumption) ?_
      rotate_left
      ·intro w hSw;(try dsimp only at hSw);go_simp<;>with_reducible rfl
      try simp only[Act.put,getElem_toArray,getElem_cons_zero,setIfInBounds_toArray,set_cons_zero,set_cons_succ]
      refine wpAnyH_take (i:=1) (v:=?_) rfl (by kernel_rfl) (by kernel_rfl) (by kernel_rfl) (fun _ _ _ h=>h) (Or.inl ⟨by rfl,?_⟩) (by assumption) ?_
      rotate_left
      ·intro w hSw;(try dsimp only at hSw);go_simp<;>with_reducible rfl
      try simp only[Act.put,getElem_toArray,getElem_cons_succ,getElem_cons_zero,setIfInBounds_toArray,set_cons_zero,set_cons_succ]
      refine wpAnyH_take (i:=2) (v:=?_) rfl (by kernel_rfl) (by kernel_rfl) (by kernel_rfl) (fun _ _ _ h=>h) (Or.inl ⟨by rfl,?_⟩) (by assumption) ?_
      rotate_left
      ·intro w hSw;(try dsimp only at hSw);go_simp<;>with_reducible rfl
      try simp only[Act.put,getElem_toArray,getElem_cons_succ,getElem_cons_zero,setIfInBounds_toArray,set_cons_zero,set_cons_succ]
      refine wpAnyH_take (i:=3) (v:=?_) rfl (by kernel_rfl) (by kernel_rfl) (by kernel_rfl) (fun _ _ _ h=>h) (Or.inl ⟨by rfl,?_⟩) (by assumption) ?_
      rotate_left
      ·intro w hSw;(try dsimp only at hSw);go_simp<;>with_reducible rfl
      try simp only[Act.put,getElem_toArray,getElem_cons_succ,getElem_cons_zero,setIfInBounds_toArray,set_cons_zero,set_cons_succ]
      refine wpAnyH_take (i:=4) (v:=?_) rfl (by kernel_rfl) (by kernel_rfl) (by kernel_rfl) (fun _ _ _ h=>h) (Or.inl ⟨by rfl,?_⟩) (by assumption) ?_
      rotate_left
      ·intro w hSw;(try dsimp only at hSw);go_simp<;>with_reducible rfl
      try simp only[Act.put,getElem_toArray,getElem_cons_succ,getElem_cons_zero,setIfInBounds_toArray,set_cons_zero,set_cons_succ]
      refine wpAnyH_take (i:=5) (v:=?_) rfl (by kernel_rfl) (by kernel_rfl) (by kernel_rfl) (fun _ _ _ h=>h) (Or.inl ⟨by rfl,?_⟩) (by assumption) ?_
      rotate_left
      ·intro w hSw;(try dsimp only at hSw);go_simp<;>with_reducible rfl
      try simp only[Act.put,getElem_toArray,getElem_cons_succ,getElem_cons_zero,setIfInBounds_toArray,set_cons_zero,set_cons_succ]
      refine wpAnyH_take (i:=6) (v:=?_) rfl (by kernel_rfl) (by kernel_rfl) (by kernel_rfl) (fun _ _ _ h=>h) (Or.inl ⟨by rfl,?_⟩) (by assumption) ?_
      rotate_left
      ·intro w hSw;(try dsimp only at hSw);go_simp<;>with_reducible rfl
      try simp only[Act.put,getElem_toArray,getElem_cons_succ,getElem_cons_zero,setIfInBounds_toArray,set_cons_zero,set_cons_succ]
      refine wpAnyH_take (i:=7) (v:=?_) rfl (by kernel_rfl) (by kernel_rfl) (by kernel_rfl) (fun _ _ _ h=>h) (Or.inl ⟨by rfl,?_⟩) (by assumption) ?_
      rotate_left
      ·intro w hSw;(try dsimp only at hSw);go_simp<;>with_reducible rfl
      try simp only[Act.put,getElem_toArray,getElem_cons_succ,getElem_cons_zero,setIfInBounds_toArray,set_cons_zero,set_cons_succ]
      refine wpAnyH_take (i:=8) (v:=?_) rfl (by kernel_rfl) (by kernel_rfl) (by kernel_rfl) (fun _ _ _ h=>h) (Or.inl ⟨by rfl,?_⟩) (by assumption) ?_
      rotate_left
      ·intro w hSw;(try dsimp only at hSw);go_simp<;>with_reducible rfl
      try simp only[Act.put,getElem_toArray,getElem_cons_succ,getElem_cons_zero,setIfInBounds_toArray,set_cons_zero,set_cons_succ]
      refine wpAnyH_take (i:=9) (v:=?_) rfl (by kernel_rfl) (by kernel_rfl) (by kernel_rfl) (fun _ _ _ h=>h) (Or.inl ⟨by rfl,?_⟩) (by assumption) ?_
      rotate_left
      ·intro w hSw;(try dsimp only at hSw);go_simp<;>with_reducible rfl
      try simp only[Act.put,getElem_toArray,getElem_cons_succ,getElem_cons_zero,setIfInBounds_toArray,set_cons_zero,set_cons_succ]
      refine wpAnyH_take (i:=10) (v:=?_) rfl (by kernel_rfl) (by kernel_rfl) (by kernel_rfl) (fun _ _ _ h=>h) (Or.inl ⟨by rfl,?_⟩) (by assumption) ?_
      rotate_left
      ·intro w hSw;(try dsimp only at hSw);go_simp<;>with_reducible rfl
      try simp only[Act.put,getElem_toArray,getElem_cons_succ,getElem_cons_zero,setIfInBounds_toArray,set_cons_zero,set_cons_succ]
      refine wpAnyH_take (i:=11) (v:=?_) rfl (by kernel_rfl) (by kernel_rfl) (by kernel_rfl) (fun _ _ _ h=>h) (Or.inl ⟨by rfl,?_⟩) (by assumption) ?_
      rotate_left
      ·intro w hSw;(try dsimp only at hSw);go_simp<;>with_reducible rfl
      try simp only[Act.put,getElem_toArray,getElem_cons_succ,getElem_cons_zero,setIfInBounds_toArray,set_cons_zero,set_cons_succ]
      refine wpAnyH_take (i:=12) (v:=?_) rfl (by kernel_rfl) (by kernel_rfl) (by kernel_rfl) (fun _ _ _ h=>h) (Or.inl ⟨by rfl,?_⟩) (by assumption) ?_
      rotate_left
      ·intro w hSw;(try dsimp only at hSw);go_simp<;>with_reducible rfl
      try simp only[Act.put,getElem_toArray,getElem_cons_succ,getElem_cons_zero,setIfInBounds_toArray,set_cons_zero,set_cons_succ]
      refine wpAnyH_take (i:=13) (v:=?_) rfl (by kernel_rfl) (by kernel_rfl) (by kernel_rfl) (fun _ _ _ h=>h) (Or.inl ⟨by rfl,?_⟩) (by assumption) ?_
      rotate_left
      ·intro w hSw;(try dsimp only at hSw);go_simp<;>with_reducible rfl
      try simp only[Act.put,getElem_toArray,getElem_cons_succ,getElem_cons_zero,setIfInBounds_toArray,set_cons_zero,set_cons_succ]
      refine wpAnyH_take (i:=14) (v:=?_) rfl (by kernel_rfl) (by kernel_rfl) (by kernel_rfl) (fun _ _ _ h=>h) (Or.inl ⟨by rfl,?_⟩) (by assumption) ?_
      rotate_left
      ·intro w hSw;(try dsimp only at hSw);go_simp<;>with_reducible rfl
      try simp only[Act.put,getElem_toArray,getElem_cons_succ,getElem_cons_zero,setIfInBounds_toArray,set_cons_zero,set_cons_succ]
      refine wpAnyH_take (i:=15) (v:=?_) rfl (by kernel_rfl) (by kernel_rfl) (by kernel_rfl) (fun _ _ _ h=>h) (Or.inl ⟨by rfl,?_⟩) (by assumption) ?_
      rotate_left
      ·intro w hSw;(try dsimp only at hSw);go_simp<;>with_reducible rfl
      try simp only[Act.put,getElem_toArray,getElem_cons_succ,getElem_cons_zero,setIfInBounds_toArray,set_cons_zero,set_cons_succ]
      refine wpAnyH_take (i:=16) (v:=?_) rfl (by kernel_rfl) (by kernel_rfl) (by kernel_rfl) (fun _ _ _ h=>h) (Or.inl ⟨by rfl,?_⟩) (by assumption) ?_
      rotate_left
      ·intro w hSw;(try dsimp only at hSw);go_simp<;>with_reducible rfl
      try simp only[Act.put,getElem_toArray,getElem_cons_succ,getElem_cons_zero,setIfInBounds_toArray,set_cons_zero,set_cons_succ]
      refine wpAnyH_take (i:=17) (v:=?_) rfl (by kernel_rfl) (by kernel_rfl) (by kernel_rfl) (fun _ _ _ h=>h) (Or.inl ⟨by rfl,?_⟩) (by assumption) ?_
      rotate_left
      ·intro w hSw;(try dsimp only at hSw);go_simp<;>with_reducible rfl
      try simp only[Act.put,getElem_toArray,getElem_cons_succ,getElem_cons_zero,setIfInBounds_toArray,set_cons_zero,set_cons_succ]
      refine wpAnyH_ready (rs:= [18]) (by kernel_rfl) (by simp) ?_
      refine AllReadyH.cons rfl (fun K hK=>?_) AllReadyH.nil
      go_simp
      go_at_call 27
      refine(KI.out _ HBR.out).mono ?_
      rintro e V2 ⟨rfl,rfl⟩
      refine hK.out _ _ (HKQ.out _ HBR.out) (fun hHeld=>?_)
      clear hK K
      try simp only[Act.put,getElem_toArray,getElem_cons_succ,getElem_cons_zero,setIfInBounds_toArray,set_cons_zero,set_cons_succ]
      refine wpAnyH_take (i:=19) (v:=?_) rfl (by kernel_rfl) (by kernel_rfl) (by kernel_rfl) (fun _ _ _ h=>h) (Or.inl ⟨by rfl,?_⟩) (by assumption) ?_
      rotate_left
      ·intro w hSw;(try dsimp only at hSw);go_simp<;>with_reducible rfl
      try simp only[Act.put,getElem_toArray,getElem_cons_succ,getElem_cons_zero,setIfInBounds_toArray,set_cons_zero,set_cons_succ]
      refine wpAnyH_done (by kernel_rfl) ?_ _
      have HBE:=hid (step HBQ.out HBR.out)
      clear hHeld HKQ KI HPQ HXQ
      go_wp2
      go_roundw
      case rel=>exact⟨j+1,by omega,by go_num,HBE⟩
      case measure=>simp [intOf];omega
     ·obtain rfl:j=KN:=by omega
      have e3:decide ((j:Int)<(j:Int))=false:=decide_eq_false (by omega)
      have HXQ:=hid (HXV.out.later HBQ.out)
      have HXT:=hid (HX.out.later (step HB27b.out HBQ.out))
      have HBW:=hid (step HB27b.out HBQ.out)
      have HKQ:Hid (∀W,Below wq.heap.size wq W->(fun W=>((W.cell? ⟨b26,0,none⟩=some (.int .i64 zt)/\W.cell? ⟨b26,1,none⟩=some (.int .i64 zn)/\W.cell? ⟨b26,2,none⟩=some (.int .i64 zk))/\W.cell? ⟨b26,3,none⟩=some (.slice za zS.length zc)/\W.cell? ⟨b26,4,none⟩=some (.slice zka zK.length zkc)/\W.cell? ⟨b26,5,none⟩=some (.slice zma zM.length zmc))/\((W.cell? ⟨b16,0,none⟩=some (.int .i64 gt)/\W.cell? ⟨b16,1,none⟩=some (.int .i64 gn)/\W.cell? ⟨b16,2,none⟩=some (.int .i64 gk))/\W.cell? ⟨b16,3,none⟩=some (.slice ga gS.length gc)/\W.cell? ⟨b16,4,none⟩=some (.slice gka gK.length gkc)/\W.cell? ⟨b16,5,none⟩=some (.slice gma gM.length gmc))/\W.cell? ⟨b11,0,none⟩=some (.int .i64 fc)) W):=hid fun W hb=>⟨(HXQ.out.later hb).cells,(HXT.out.later hb).cells,(HEX.out W (HPE.out _ (step HBW.out hb))).c0⟩
      have HRT:=hid (fun W (hb:Below wq.heap.size wq W)=>HRG.out.later (step HBW.out hb))
      have HRV:=hid (fun W (hb:Below wq.heap.size wq W)=>HRZ.out.later (step HB27.out (step HBQ.out hb)))
      have KT:=hid (fun W (hb:Below wq.heap.size wq W)=>DevRight ⟨zt,zn,zk,zS,za,zc,zK,zka,zkc,zM,zma,zmc⟩ W (HRV.out W hb) HRZ2.out)
      have KG:=hid (fun W (hb:Below wq.heap.size wq W)=>DevGone ⟨gt,gn,gk,gS,ga,gc,gK,gka,gkc,gM,gma,gmc⟩ ⟨zt,zn,zk,zS,za,zc,zK,zka,zkc,zM,zma,zmc⟩ W (HRT.out W hb) (HRV.out W hb) HRG2.out HRZ2.out)
      have hgn:hasL (goneA (StC.v ⟨gt,gn,gk,gS,ga,gc,gK,gka,gkc,gM,gma,gmc⟩) (StC.v ⟨zt,zn,zk,zS,za,zc,zK,zka,zkc,zM,zma,zmc⟩)) fc=true:=by rw[hasL_iff,HV26.out];exact HN4.out
      generalize goneA (StC.v ⟨gt,gn,gk,gS,ga,gc,gK,gka,gkc,gM,gma,gmc⟩) (StC.v ⟨zt,zn,zk,zS,za,zc,zK,zka,zkc,zM,zma,zmc⟩)=GN at KG hgn
      have HGN:=hid hgn
      have KI:=hid (fun(u:Value) W (h:RdI W u GN)=>by
       have:=In_any u GN fc W h
       rw[show(GN.any fun y=>decide (y=fc))=hasL GN fc from rfl,HGN.out] at this
       exact this)
      unfold GetsN stVal at KG
      unfold stVal at KT
      simp only[StC.sv,StC.kv,StC.mv] at KT KG
      clear hgn
      go_upto_region 34 with fail
      clear c0 c1 c2 c3 c4 c5 cf
      refine wp_region_held_drew (S:=(fun W=>((W.cell? ⟨b26,0,none⟩=some (.int .i64 zt)/\W.cell? ⟨b26,1,none⟩=some (.int .i64 zn)/\W.cell? ⟨b26,2,none⟩=some (.int .i64 zk))/\W.cell? ⟨b26,3,none⟩=some (.slice za zS.length zc)/\W.cell? ⟨b26,4,none⟩=some (.slice zka zK.length zkc)/\W.cell? ⟨b26,5,none⟩=some (.slice zma zM.length zmc))/\((W.cell? ⟨b16,0,none⟩=some (.int .i64 gt)/\W.cell? ⟨b16,1,none⟩=some (.int .i64 gn)/\W.cell? ⟨b16,2,none⟩=some (.int .i64 gk))/\W.cell? ⟨b16,3,none⟩=some (.slice ga gS.length gc)/\W.cell? ⟨b16,4,none⟩=some (.slice gka gK.length gkc)/\W.cell? ⟨b16,5,none⟩=some (.slice gma gM.length gmc))/\W.cell? ⟨b11,0,none⟩=some (.int .i64 fc))) (by kernel_rfl) (HKQ.out _ (Below.refl _ _).drew) (fun hHeld=>?_)
      obtain⟨V,hV⟩: ∃V,V=wq.drew:=⟨_,rfl⟩
      have HBR:Hid (Below wq.heap.size wq V):=hid (by rw[hV];exact(Below.refl _ _).drew)
      rw[<-hV] at hHeld ⊢
      clear hV
      refine wpAnyH_take (i:=0) (v:=?_) rfl (by kernel_rfl) (by kernel_rfl) (by kernel_rfl) (fun _ _ _ h=>h) (Or.inl ⟨by rfl,?_⟩) (by assumption) ?_
      rotate_left
      ·intro w hSw;(try dsimp only at hSw);go_simp<;>with_reducible rfl
      try simp only[Act.put,getElem_toArray,getElem_cons_zero,setIfInBounds_toArray,set_cons_zero,set_cons_succ]
      refine wpAnyH_take (i:=1) (v:=?_) rfl (by kernel_rfl) (by kernel_rfl) (by kernel_rfl) (fun _ _ _ h=>h) (Or.inl ⟨by rfl,?_⟩) (by assumption) ?_
      rotate_left
      ·intro w hSw;(try dsimp only at hSw);go_simp<;>with_reducible rfl
      try simp only[Act.put,getElem_toArray,getElem_cons_succ,getElem_cons_zero,setIfInBounds_toArray,set_cons_zero,set_cons_succ]
      refine wpAnyH_take (i:=2) (v:=?_) rfl (by kernel_rfl) (by kernel_rfl) (by kernel_rfl) (fun _ _ _ h=>h) (Or.inl ⟨by rfl,?_⟩) (by assumption) ?_
      rotate_left
      ·intro w hSw;(try dsimp only at hSw);go_simp<;>with_reducible rfl
      try simp only[Act.put,getElem_toArray,getElem_cons_succ,getElem_cons_zero,setIfInBounds_toArray,set_cons_zero,set_cons_succ]
      refine wpAnyH_take (i:=3) (v:=?_) rfl (by kernel_rfl) (by kernel_rfl) (by kernel_rfl) (fun _ _ _ h=>h) (Or.inl ⟨by rfl,?_⟩) (by assumption) ?_
      rotate_left
      ·intro w hSw;(try dsimp only at hSw);go_simp<;>with_reducible rfl
      try simp only[Act.put,getElem_toArray,getElem_cons_succ,getElem_cons_zero,setIfInBounds_toArray,set_cons_zero,set_cons_succ]
      refine wpAnyH_ready (rs:= [4]) (by kernel_rfl) (by simp) ?_
      refine AllReadyH.cons rfl (fun K hK=>?_) AllReadyH.nil
      go_simp
      go_at_call 12
      refine(KT.out _ HBR.out).mono ?_
      rintro e V ⟨rfl,hb⟩
      have HBR:=hid (step HBR.out hb)
      clear hb
      refine hK.out _ _ (HKQ.out _ HBR.out) (fun hHeld=>?_)
      clear hK K
      try simp only[Act.put,getElem_toArray,getElem_cons_succ,getElem_cons_zero,setIfInBounds_toArray,set_cons_zero,set_cons_succ]
      refine wpAnyH_take (i:=5) (v:=?_) rfl (by kernel_rfl) (by kernel_rfl) (by kernel_rfl) (fun _ _ _ h=>h) (Or.inl ⟨by rfl,?_⟩) (by assumption) ?_
      rotate_left
      ·intro w hSw;(try dsimp only at hSw);go_simp<;>with_reducible rfl
      try simp only[Act.put,getElem_toArray,getElem_cons_succ,getElem_cons_zero,setIfInBounds_toArray,set_cons_zero,set_cons_succ]
      refine wpAnyH_take (i:=6) (v:=?_) rfl (by kernel_rfl) (by kernel_rfl) (by kernel_rfl) (fun _ _ _ h=>h) (Or.inl ⟨by rfl,?_⟩) (by assumption) ?_
      rotate_left
      ·intro w hSw;(try dsimp only at hSw);go_simp<;>with_reducible rfl
      try simp only[Act.put,getElem_toArray,getElem_cons_succ,getElem_cons_zero,setIfInBounds_toArray,set_cons_zero,set_cons_succ]
      refine wpAnyH_take (i:=7) (v:=?_) rfl (by kernel_rfl) (by kernel_rfl) (by kernel_rfl) (fun _ _ _ h=>h) (Or.inl ⟨by rfl,?_⟩) (by assumption) ?_
      rotate_left
      ·intro w hSw;(try dsimp only at hSw);go_simp<;>with_reducible rfl
      try simp only[Act.put,getElem_toArray,getElem_cons_succ,getElem_cons_zero,setIfInBounds_toArray,set_cons_zero,set_cons_succ]
      refine wpAnyH_take (i:=8) (v:=?_) rfl (by kernel_rfl) (by kernel_rfl) (by kernel_rfl) (fun _ _ _ h=>h) (Or.inl ⟨by rfl,?_⟩) (by assumption) ?_
      rotate_left
      ·intro w hSw;(try dsimp only at hSw);go_simp<;>with_reducible rfl
      try simp only[Act.put,getElem_toArray,getElem_cons_succ,getElem_cons_zero,setIfInBounds_toArray,set_cons_zero,set_cons_succ]
      refine wpAnyH_take (i:=10) (v:=?_) rfl (by kernel_rfl) (by kernel_rfl) (by kernel_rfl) (fun _ _ _ h=>h) (Or.inl ⟨by rfl,?_⟩) (by assumption) ?_
      rotate_left
      ·intro w hSw;(try dsimp only at hSw);go_simp<;>with_reducible rfl
      try simp only[Act.put,getElem_toArray,getElem_cons_succ,getElem_cons_zero,setIfInBounds_toArray,set_cons_zero,set_cons_succ]
      refine wpAnyH_take (i:=11) (v:=?_) rfl (by kernel_rfl) (by kernel_rfl) (by kernel_rfl) (fun _ _ _ h=>h) (Or.inl ⟨by rfl,?_⟩) (by assumption) ?_
      rotate_left
      ·intro w hSw;(try dsimp only at hSw);go_simp<;>with_reducible rfl
      try simp only[Act.put,getElem_toArray,getElem_cons_succ,getElem_cons_zero,setIfInBounds_toArray,set_cons_zero,set_cons_succ]
      refine wpAnyH_ready (rs:= [9]) (by kernel_rfl) (by simp) ?_
      refine AllReadyH.cons rfl (fun K hK=>?_) AllReadyH.nil
      go_simp
      go_at_call 28
      refine(KG.out _ HBR.out).mono ?_
      rintro e V ⟨v1,rfl,ho1,hb⟩
      have HO1:=hid (RdX.own cellsI_length ho1)
      clear ho1
      have HBR:=hid (step HBR.out hb)
      clear hb
      refine hK.out _ _ (HKQ.out _ HBR.out) (fun hHeld=>?_)
      clear hK K
      try simp only[Act.put,getElem_toArray,getElem_cons_succ,getElem_cons_zero,setIfInBounds_toArray,set_cons_zero,set_cons_succ]
      refine wpAnyH_ready (rs:= [12]) (by kernel_rfl) (by simp) ?_
      refine AllReadyH.cons rfl (fun K hK=>?_) AllReadyH.nil
      go_simp
      go_at_call 27
      refine(KI.out _ _ HO1.out).mono ?_
      rintro e V2 ⟨rfl,rfl⟩
      refine hK.out _ _ (HKQ.out _ HBR.out) (fun hHeld=>?_)
      clear hK K
      try simp only[Act.put,getElem_toArray,getElem_cons_succ,getElem_cons_zero,setIfInBounds_toArray,set_cons_zero,set_cons_succ]
      refine wpAnyH_take (i:=13) (v:=?_) rfl (by kernel_rfl) (by kernel_rfl) (by kernel_rfl) (fun _ _ _ h=>h) (Or.inl ⟨by rfl,?_⟩) (by assumption) ?_
      rotate_left
      ·intro w hSw;(try dsimp only at hSw);go_simp<;>with_reducible rfl
      try simp only[Act.put,getElem_toArray,getElem_cons_succ,getElem_cons_zero,setIfInBounds_toArray,set_cons_zero,set_cons_succ]
      refine wpAnyH_take (i:=14) (v:=?_) rfl (by kernel_rfl) (by kernel_rfl) (by kernel_rfl) (fun _ _ _ h=>h) (Or.inl ⟨by rfl,?_⟩) (by assumption) ?_
      rotate_left
      ·intro w hSw;(try dsimp only at hSw);go_simp<;>with_reducible rfl
      try simp only[Act.put,getElem_toArray,getElem_cons_succ,getElem_cons_zero,setIfInBounds_toArray,set_cons_zero,set_cons_succ]
      refine wpAnyH_ready (rs:= [15]) (by kernel_rfl) (by simp) ?_
      refine AllReadyH.cons rfl (fun K hK=>?_) AllReadyH.nil
      go_simp
      go_at_call 11
      refine(C0.out _).mono ?_
      rintro e V ⟨rfl,hb⟩
      have HBR:=hid (step HBR.out hb)
      clear hb
      refine hK.out _ _ (HKQ.out _ HBR.out) (fun hHeld=>?_)
      clear hK K
      try simp only[Act.put,getElem_toArray,getElem_cons_succ,getElem_cons_zero,setIfInBounds_toArray,set_cons_zero,set_cons_succ]
      refine wpAnyH_take (i:=16) (v:=?_) rfl (by kernel_rfl) (by kernel_rfl) (by kernel_rfl) (fun _ _ _ h=>h) (Or.inl ⟨by rfl,?_⟩) (by assumption) ?_
      rotate_left
      ·intro w hSw;(try dsimp only at hSw);go_simp<;>with_reducible rfl
      try simp only[Act.put,getElem_toArray,getElem_cons_succ,getElem_cons_zero,setIfInBounds_toArray,set_cons_zero,set_cons_succ]
      refine wpAnyH_take (i:=17) (v:=?_) rfl (by kernel_rfl) (by kernel_rfl) (by kernel_rfl) (fun _ _ _ h=>h) (Or.inl ⟨by rfl,?_⟩) (by assumption) ?_
      rotate_left
      ·intro w hSw;(try dsimp only at hSw);go_simp<;>with_reducible rfl
      try simp only[Act.put,getElem_toArray,getElem_cons_succ,getElem_cons_zero,setIfInBounds_toArray,set_cons_zero,set_cons_succ]
      refine wpAnyH_done (by kernel_rfl) ?_ _
      go_wp2
      go_ret
      exact⟨rfl,HB14.out.trans ((HPE.out _ (step HBW.out HBR.out)).mono hwb)⟩
end Cm
end Go.Proofs.YtclcgkpfcogcdaaGreat
