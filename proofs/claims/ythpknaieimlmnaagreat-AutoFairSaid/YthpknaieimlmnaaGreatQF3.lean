/- Texts laid together by program. -/
import Derived.Test.YthpknaieimlmnaaGreatQF2
import Derived.Deep.RegionHeld3
import Derived.Deep.RegionWith
/- AutoFair, as a contract (made by tools/gen_fair.py). -/
set_option linter.unusedVariables false
set_option maxRecDepth 8000
set_option linter.unusedSimpArgs false
namespace Go.Proofs.YthpknaieimlmnaaGreat
open Lib (hid)
open List (getElem_toArray getElem_cons_succ getElem_cons_zero setIfInBounds_toArray set_cons_zero set_cons_succ)
open Go.RowKit Go.Shelf
namespace Cm

def Keeps (H:Nat) (wr W:World) (b:Option Nat):Prop:= ∀k,H<=k->k<wr.heap.size->b≠some k->W.heap[k]?=wr.heap[k]?
theorem Keeps.refl (H:Nat) (w:World) (b:Option Nat):Keeps H w w b:=fun k _ _ _=>rfl
theorem Keeps.of {H:Nat} {wr W:World} {b:Option Nat} (h:Below wr.heap.size wr W):Keeps H wr W b:=fun k _ h2 _=>h.block k h2
theorem fair_keep {H nb:Nat} {wr w2 w3 w4 w5 w6 w7:World} {m m':Value} {y x u:StC} (hy: ∀W,Keeps H wr W m.ownBlock->FromS H W zeroC10 y)
  (hm: ∀g,m.ownBlock=some g->g<wr.heap.size) (hH:H<=wr.heap.size) (hnb:nb<H)
  (f1:FromS wr.heap.size w2 y x) (b12:Below wr.heap.size wr w2) (b23:Below w2.heap.size w2 w3) (f2:FromS w3.heap.size w4 x u) (b34:Below w3.heap.size w3 w4) (b45:Below w4.heap.size w4 w5)
  (hg:w5.grownBy w6 m.ownBlock) (hat:m'.ownBlock=m.ownBlock\/m'.ownBlock=some w5.heap.size) (h67: ∀k,H<=k->w7.heap[k]?=w6.heap[k]?) (hs7:w7.heap.size=w6.heap.size):
  ∀W,Keeps H w7 W m'.ownBlock->FromS H W zeroC10 u:=by
 intro W hW
 have s1:=b12.size
 have s2:=b23.size
 have s3:=b34.size
 have s4:=b45.size
 have hs6:=hg.size
 have key: ∀k,H<=k->k<w5.heap.size->m.ownBlock≠some k->W.heap[k]?=w5.heap[k]?:=fun k k1 k2 k3=>by
  rw[hW k k1 (by omega) (by rcases hat with q | q<;>rw[q];exact k3;intro e;injection e with e;omega),h67 k k1,hg.block k k2 (fun e=>k3 e.symm)]
 have hy':FromS H W zeroC10 y:=hy W fun k k1 k2 k3=>by
  rw[key k k1 (by omega) k3,b45.block k (by omega),b34.block k (by omega),b23.block k (by omega),b12.block k k2]
 have hne: ∀k,wr.heap.size<=k->m.ownBlock≠some k:=fun k q e=>by have:=hm k e;omega
 have h1:FromS wr.heap.size W y x:=f1.keepB fun k k1 k2=>by
  rw[key k (by omega) (by omega) (hne k k1),b45.block k (by omega),b34.block k (by omega),b23.block k k2]
 have h2:FromS w3.heap.size W x u:=f2.keepB fun k k1 k2=>by
  rw[key k (by omega) (by omega) (hne k (by omega)),b45.block k k2]
 exact(hy'.trans (h1.lower hH)).trans (h2.lower (by omega))
theorem BoxS.keep {w w':World} {b:Nat} {x:StC} (h:BoxS w b x) (e:w'.heap[b]?=w.heap[b]?):BoxS w' b x:=by
 have hc: ∀k,w'.cell? ⟨b,k,none⟩=w.cell? ⟨b,k,none⟩:=fun k=>World.cell?_of_block (a:=⟨b,k,none⟩) e
 have hf: ∀k,w'.frozen? ⟨b,k,none⟩=w.frozen? ⟨b,k,none⟩:=fun k=>World.frozen?_of_block (a:=⟨b,k,none⟩) e
 exact⟨(hc 0).trans h.c0,(hc 1).trans h.c1,(hc 2).trans h.c2,(hc 3).trans h.c3,(hc 4).trans h.c4,(hc 5).trans h.c5,fun k=>(hf k).trans (h.fr k)⟩
theorem grown_at {w w':World} {o:Obj} {r:Option Nat} (hg:(w.alloc o).grownBy w' r) {g:Nat} (hl:g<w.heap.size) (hn:r≠some g):w'.heap[g]?=w.heap[g]?:=
 (hg.block g (by simp;omega) (fun e=>hn e.symm)).trans ((newAlloc w o).block g hl)
structure BoxM (w:World) (b:Nat) (m:CmdV):Prop where
 c0:w.cell? ⟨b,0,none⟩=some (.int .i64 m.kind)
 c1:w.cell? ⟨b,1,none⟩=some (.int .i64 m.session)
 c2:w.cell? ⟨b,2,none⟩=some (.string (bstr m.name))
 fr: ∀k,w.frozen? ⟨b,k,none⟩=false
theorem BoxM.later {w w':World} {b:Nat} {x:CmdV} (h:BoxM w b x) (hb:Below w.heap.size w w'):BoxM w' b x:=
 ⟨(hb.cell (lt_of_cell h.c0)).trans h.c0,(hb.cell (lt_of_cell h.c1)).trans h.c1,(hb.cell (lt_of_cell h.c2)).trans h.c2,fun k=>(hb.frozen (p:=⟨b,k,none⟩) (show b< _ from lt_of_cell h.c0)).trans (h.fr k)⟩
theorem BoxM.new (w:World) (x:CmdV) (t:TypeId):BoxM (w.alloc (.cells #[.int .i64 x.kind,.int .i64 x.session,.string (bstr x.name)] t)) w.heap.size x:=by
 refine⟨?_,?_,?_,fun k=>?_⟩<;>simp [go_sem]
theorem BoxM.put {w:World} {b:Nat} {x:CmdV} (h:BoxM w b x) (c n:Int) (r:List UInt8):BoxM (((w.setCell ⟨b,0,none⟩ (.int .i64 c)).setCell ⟨b,1,none⟩ (.int .i64 n)).setCell ⟨b,2,none⟩ (.string (bstr r))) b ⟨c,n,r⟩:=by
 obtain⟨c0,c1,c2,fr⟩:=h
 refine⟨?_,?_,?_,fun k=>?_⟩<;>simp [go_sem,c0,c1,c2,fr]
structure TBoxS (w:World) (b:Nat):Prop where
 s:BoxS w b zeroC10
 t:Tag w b 28
theorem TBoxS.later {w w':World} {b:Nat} (h:TBoxS w b) (hb:Below w.heap.size w w'):TBoxS w' b:=⟨h.s.later hb,h.t.later hb⟩
theorem TBoxS.new (w:World):TBoxS (w.alloc (.cells #[.int .i64 0,.int .i64 0,.int .i64 0,.slice none 0 0,.slice none 0 0,.slice none 0 0] 28)) w.heap.size:=⟨BoxS.new w zeroC10 _,Tag.new _ _ _⟩
structure TBoxR (w:World) (b:Nat):Prop where
 s:EmptyR w b
 t:Tag w b 44
theorem TBoxR.later {w w':World} {b:Nat} (h:TBoxR w b) (hb:Below w.heap.size w w'):TBoxR w' b:=⟨h.s.later hb,h.t.later hb⟩
theorem TBoxR.new (w:World):TBoxR (w.alloc (.cells #[.int .i64 0,.int .i64 0,.int .i64 0,.slice none 0 0] 44)) w.heap.size:=⟨EmptyR.new w,Tag.new _ _ _⟩
theorem boxR_put {W:World} {b:Nat} (h:EmptyR W b) (x y z:Int) (v:Value):
  ((((W.setCell ⟨b,0,none⟩ (.int .i64 x)).setCell ⟨b,1,none⟩ (.int .i64 y)).setCell ⟨b,2,none⟩ (.int .i64 z)).setCell ⟨b,3,none⟩ v).cell? ⟨b,0,none⟩=some (.int .i64 x)/\
  ((((W.setCell ⟨b,0,none⟩ (.int .i64 x)).setCell ⟨b,1,none⟩ (.int .i64 y)).setCell ⟨b,2,none⟩ (.int .i64 z)).setCell ⟨b,3,none⟩ v).cell? ⟨b,3,none⟩=some v:=by
 obtain⟨⟨y0,y1,y2,y3⟩,yf⟩:=h _ (Below.refl _ _)
 exact⟨by simp [go_sem,y0,y1,y2,y3],by simp [go_sem,y0,y1,y2,y3]⟩
theorem lock_at {L:List LockC} {n:List UInt8} {h t:Int} {l:List Int} (hv:vals L= [⟨n,h,t,l⟩]) (hl:0<L.length):(L[0]'hl).holder =h/\(L[0]'hl).token =t:=by
 match L,hv,hl with
 | [z],hv,_=>
  have e:z.val=⟨n,h,t,l⟩:=(List.cons.inj hv).1
  exact⟨congrArg LockV.holder e,congrArg LockV.token e⟩
theorem idx_none1 (n:List UInt8):idxI (isNm n) []= -1:=by unfold idxI;rw[if_neg (by simp)]
theorem hasL_any (l:List Int) (c:Int):(l.any fun y=>decide (y=c))=hasL l c:=rfl
theorem heap_set6k {w:World} {g:Nat} (v0 v1 v2 v3 v4 v5:Value):((((((w.setCell ⟨g,0,none⟩ v0).setCell ⟨g,1,none⟩ v1).setCell ⟨g,2,none⟩ v2).setCell ⟨g,3,none⟩ v3).setCell ⟨g,4,none⟩ v4).setCell ⟨g,5,none⟩ v5).heap.size =w.heap.size:=by simp
set_option maxRecDepth 100000 in
set_option maxHeartbeats 32000000 in
theorem Fair_any (a0:Option Addr) (len0 cap0:Nat) (z0:List Int) (a1:Option Addr) (len1 cap1:Nat) (z1:List Int) (n:Nat) (hn8:n<256) (w:World) (w0:IsRow .u8 w a0 len0 cap0 z0) (w1:IsRow .u8 w a1 len1 cap1 z1):
    Calls Tryz.prog 8 #[.slice a0 len0 cap0,.slice a1 len1 cap1,.int .u8 (n:Int)] w (SaysB true w):=by
  have C0:=hid (fun W=>awake10_ok W)
  have CN:=hid (fun W=>Named_any n W hn8)
  have hnm:=namedF_ok (n % 6) (Nat.mod_lt _ (by omega))
  generalize namedF (n % 6)=nm at*
  have HNM:=hid hnm
  obtain⟨hr0,hrl0⟩:=w0.rd
  generalize bytesOf z0 len0=NS at hr0 hrl0
  have hlen0:=Rd.len_le hr0
  unfold maxLen at hlen0
  obtain⟨ar,lr,cr,hv,hl,hc,hmx,hnn,hx⟩:=hr0.ex
  cases hv
  have HI0:Hid (∀i,i<len0-> ∃b o,a0=some ⟨b,o,none⟩/\ ∀w',Below w.heap.size w w'->w'.cell? ⟨b,o+i,none⟩=some (.int .u8 ((NS.getD i 0).toNat :Int))):=hid fun i hi'=>by
    match a0,hnn,hx with
    | none,hnn,_=>have:=(hnn rfl).1;omega
    | some ⟨b,o,sp⟩,_,hx=>
      obtain⟨hs,hi⟩:=hx _ rfl (by omega)
      simp only at hs hi
      subst hs
      exact⟨b,o,rfl,fun w' hb=>by rw[hb.cell (p:=⟨b,o+i,none⟩) (lt_of_cell (hi i hi'))];exact hi i hi'⟩
  rw[hrl0] at hlen0
  clear hr0 hnn hx w0 hrl0 hl hc hmx
  obtain⟨hr1,hrl1⟩:=w1.rd
  generalize bytesOf z1 len1=NT at hr1 hrl1
  have hlen1:=Rd.len_le hr1
  unfold maxLen at hlen1
  obtain⟨ar,lr,cr,hv,hl,hc,hmx,hnn,hx⟩:=hr1.ex
  cases hv
  have HI1:Hid (∀i,i<len1-> ∃b o,a1=some ⟨b,o,none⟩/\ ∀w',Below w.heap.size w w'->w'.cell? ⟨b,o+i,none⟩=some (.int .u8 ((NT.getD i 0).toNat :Int))):=hid fun i hi'=>by
    match a1,hnn,hx with
    | none,hnn,_=>have:=(hnn rfl).1;omega
    | some ⟨b,o,sp⟩,_,hx=>
      obtain⟨hs,hi⟩:=hx _ rfl (by omega)
      simp only at hs hi
      subst hs
      exact⟨b,o,rfl,fun w' hb=>by rw[hb.cell (p:=⟨b,o+i,none⟩) (lt_of_cell (hi i hi'))];exact hi i hi'⟩
  rw[hrl1] at hlen1
  clear hr1 hnn hx w1 hrl1 hl hc hmx
  obtain⟨i0,hi,hz0,hz1,hz2⟩:=info_parts infoN
  obtain⟨W1,hW1⟩: ∃W1,W1=w.alloc (.cells #[.int .i64 0,.int .i64 0,.int .i64 0,.slice none 0 0,.slice none 0 0,.slice none 0 0] 28):=⟨_,rfl⟩
  have hb1:Below w.heap.size w W1:=by rw[hW1];exact newAlloc _ _
  have hZ:BoxS W1 w.heap.size zeroC10:=by rw[hW1];exact BoxS.new w zeroC10 _
  have HZ0:=hid hZ
  have HB1:=hid hb1
  have hlt:w.heap.size<W1.heap.size:=hZ.lt
  obtain⟨nb,hnb⟩: ∃nb,w.heap.size=nb:=⟨_,rfl⟩
  have HNB:=hid hnb
  rw[hnb] at HZ0 hlt
  clear hnb hb1 hZ hnm
  go_enter Tryz.func8,Tryz.ntmps8
  go_upto_region 2 with fail
  rw[<-hW1]
  rw[HNB.out]
  clear hW1
  go_upto_region 3 with (go_at_call 38;refine(CN.out W1).mono ?_;rintro e w2 ⟨rfl,hb2⟩;have HB2:=hid hb2;clear hb2)
  obtain⟨HI,hHI⟩: ∃HI,w2.heap.size=HI:=⟨_,rfl⟩
  have hlt1:nb<HI:=by rw[<-hHI];exact Nat.lt_of_lt_of_le hlt HB2.out.size
  have hsz0:HI<=w2.heap.size:=Nat.le_of_eq hHI.symm
  have HZ2:=hid (HZ0.out.later HB2.out)
  have HB0:=hid (step HB1.out HB2.out)
  clear hHI hlt HZ0 HB1 HB2 CN
  go_wp2
  go_loopw [9,10] (fun m i wr=> ∃(k:Nat) (C:List Int) (y:StC),k<=len0/\i= .int .i64 k/\C.length<=4/\HI<=wr.heap.size/\Hid (∀c∈C,0<=c/\c<8)/\Hid (C.Pairwise (· ≠ ·))/\Hid (BoxS wr nb y)/\Hid (Come nm C y.v)/\Hid (wr.ownsRow HI 3 1 m C.length (flatX cellsI C))/\Hid (∀W,Keeps HI wr W m.ownBlock->FromS HI W zeroC10 y)/\Hid (Below w.heap.size w wr)) (fun _ i _=>len0 - (intOf i).toNat)
  case atStart=>exact⟨0,[],zeroC10,by omega,rfl,by simp,hsz0,hid (fun c hc=>by cases hc),hid List.Pairwise.nil,HZ2,hid (Come.zero nm),hid (World.ownsRow_nil _ _ _ _),hid (fun W _=>FromS.refl _ _ _),HB0⟩
  case round=>
    obtain⟨k,C,⟨yt,yn,yk,yS,ya,yc,yK,yka,ykc,yM,yma,ymc⟩,hk,rfl,h4,hsz,HC8,HCD,HX,HCM,HO,HFW,HB⟩:=hrel
    obtain⟨qa,qc,rfl⟩:=Rw.own_form HO.out
    have HRC:=hid (RdX.own cellsI_length HO.out)
    have HF:=hid (HFW.out wr (Keeps.refl _ _ _))
    by_cases hgo:k<len0/\C.length<4
    · obtain⟨g1,g2⟩:=hgo
      obtain⟨b,o,rfl,hcell⟩:=HI0.out k g1
      have q0:=hcell wr HB.out
      have tx:(NS.getD k 0).toNat <256:=UInt8.toNat_lt _
      clear hcell HI0
      generalize (NS.getD k 0).toNat =X at q0 tx
      have f1:(0:Int)<=(k:Int):=by omega
      have f2:(k:Int)<(len0:Int):=by omega
      have e1:decide ((k:Int)<(len0:Int))=true:=decide_eq_true f2
      have e11:decide (k<len0)=true:=decide_eq_true g1
      have e2:decide ((C.length:Int)<4)=true:=decide_eq_true (by omega)
      have e22:decide (C.length<4)=true:=decide_eq_true g2
      have v4:IntKind.i64.wrap (X:Int)=(X:Int):=by rw[IntKind.wrap_i64];omega
      obtain⟨c,hcc⟩: ∃c,(X:Int).tmod 8=c:=⟨_,rfl⟩
      have hcr:0<=c/\c<8:=by rw[<-hcc,Int.tmod_eq_emod_of_nonneg (by omega)];omega
      have v5:IntKind.i64.wrap c=c:=by rw[IntKind.wrap_i64];omega
      have KI:=In_any _ C c wr HRC.out
      rw[hasL_any] at KI
      by_cases hin:c∈C
      · rw[(hasL_iff C c).2 hin] at KI
        have KI:=hid KI
        generalize hCN:C.length=CN at KI h4 g2 e2 e22 HO HRC HFW ⊢
        have HCN:=hid hCN
        clear hCN hin HRC HF
        go_wp2_with (go_at_call 37;refine KI.out.mono ?_;rintro e w8 ⟨rfl,rfl⟩)
        go_roundw
        case rel=>exact⟨k+1,C,⟨yt,yn,yk,yS,ya,yc,yK,yka,ykc,yM,yma,ymc⟩,by omega,by go_num,by rw[HCN.out];omega,hsz,HC8,HCD,HX,HCM,by rw[HCN.out];exact HO,HFW,HB⟩
        case measure=>simp [intOf];omega
      rw[(hasL_not C c).2 hin] at KI
      have KI:=hid KI
      have hop:=come_open HCM.out hcr hin g2
      have htk:=come_take hop.2 hcr hin g2 HNM.out
      have hbd:(StC.v ⟨yt,yn,yk,yS,ya,yc,yK,yka,ykc,yM,yma,ymc⟩).num <2305843009213693900/\(StC.v ⟨yt,yn,yk,yS,ya,yc,yK,yka,ykc,yM,yma,ymc⟩).token <2305843009213693900:=⟨by rw[HCM.out.num];omega,by rw[HCM.out.tok];split<;>decide⟩
      have KA:=hid (fun W (hb:Below wr.heap.size wr W)=>AutoApply_any ⟨yt,yn,yk,yS,ya,yc,yK,yka,ykc,yM,yma,ymc⟩ (reqO c) W ((HF.out.later hb).rd (RdSt.zero W)) HCM.out.right hbd.1 hbd.2)
      obtain⟨⟨XS,⟨oc,os,oa,oh⟩,od⟩,hX⟩: ∃R,applyA (StC.v ⟨yt,yn,yk,yS,ya,yc,yK,yka,ykc,yM,yma,ymc⟩) (reqO c)=R:=⟨_,rfl⟩
      rw[hX] at KA hop htk
      dsimp only at hop htk
      obtain⟨hos,hmid⟩:=hop
      subst hos
      obtain⟨⟨US,⟨tc,ts,ta,th⟩,td⟩,hT⟩: ∃R,applyA XS (reqT nm c ((C.length:Int)+1))=R:=⟨_,rfl⟩
      rw[hT] at htk
      dsimp only at htk
      obtain⟨rfl,ht0,ht1,hcome⟩:=htk
      have HMD:=hid hmid
      have HT:=hid hT
      have HCU:=hid hcome
      have HT0:=hid ht0
      have HT1:=hid ht1
      have HIN:=hid hin
      clear hmid hT hX hcome ht0 ht1 hbd hin
      unfold reqO reqVal GetsAp stVal at KA
      simp only[StC.sv,StC.kv,StC.mv] at KA
      try dsimp only at KA
      try unfold stVal at KA
      try simp only[StC.sv,StC.kv,StC.mv] at KA
      obtain⟨CN,hCN⟩: ∃CN,C.length=CN:=⟨_,rfl⟩
      have HCN:=hid hCN
      rw[hCN] at KI KA h4 g2 e2 e22 HO HRC HT HFW ⊢
      clear hCN
      obtain⟨c0,c1,c2,c3,c4,c5,cf⟩:=HX.out
      simp only[StC.sv,StC.kv,StC.mv] at c0 c1 c2 c3 c4 c5
      go_upto_region 9 with (go_at_call 37;refine KI.out.mono ?_;rintro e w8 ⟨rfl,rfl⟩)
      go_upto_region 10 with (go_at_call 23;refine(KA.out _ (Below.refl _ _)).mono ?_;rintro e w9 ⟨⟨et,en,ek,eS,ea,ec,eK,eka,ekc,eM,ema,emc⟩,h9,p9,he,hv9,hf9,hh9,hb9⟩;simp only[StC.sv,StC.kv,StC.mv] at he;subst he;have HV9:=hid hv9;have HF9:=hid hf9;have HH9:=hid hh9;have HB9:=hid hb9;clear hv9 hf9 hh9 hb9)
      have hbx9:=two_boxes w9 ⟨et,en,ek,eS,ea,ec,eK,eka,ekc,eM,ema,emc⟩ ⟨oc,(CN:Int)+1,oa,oh⟩ (.slice h9 oh.length p9) 28 44 (b:=w9.heap.size) rfl
      simp only[StC.sv,StC.kv,StC.mv] at hbx9
      obtain⟨W9,hW9⟩: ∃W9,W9=(w9.alloc (.cells #[.int .i64 et,.int .i64 en,.int .i64 ek,.slice ea eS.length ec,.slice eka eK.length ekc,.slice ema eM.length emc] 28)).alloc (.cells #[.int .i64 (oc),.int .i64 ((CN:Int)+1),.int .i64 (oa),.slice h9 oh.length p9] 44):=⟨_,rfl⟩
      rw[<-hW9] at hbx9 ⊢
      obtain⟨t9,ht9⟩: ∃t,w9.heap.size=t:=⟨_,rfl⟩
      have hn9:=hbx9.2.2
      rw[ht9] at hbx9 ⊢
      have HX9:=hid hbx9.1
      have HP9:=hid hbx9.2.1
      have HN9:=hid hn9
      have HE9:=hid (HF9.out.later hn9)
      have HBE:=hid (step HB9.out hn9)
      have hz9:nb<W9.heap.size:=Nat.lt_of_lt_of_le hlt1 (Nat.le_trans hsz HBE.out.size)
      clear hW9 hbx9 hn9 ht9 KA KI c0 c1 c2 c3 c4 c5 cf
      have hbd:XS.num<2305843009213693900/\XS.token<2305843009213693900:=⟨by rw[HMD.out.num];have:=HCN.out;omega,by rw[HMD.out.tok];split<;>decide⟩
      have KB:=hid (fun W (hb:Below W9.heap.size W9 W)=>by
        have:=AutoApply_any ⟨et,en,ek,eS,ea,ec,eK,eka,ekc,eM,ema,emc⟩ (reqT nm c ((CN:Int)+1)) W (((HE9.out.later hb).rd ((HF.out.later (step HBE.out hb)).rd (RdSt.zero W)))) (by rw[HV9.out];exact HMD.out.right) (by have:=hbd.1;rw[<-HV9.out] at this;exact this) (by have:=hbd.2;rw[<-HV9.out] at this;exact this)
        rw[HV9.out,HT.out] at this
        exact this)
      unfold reqT reqVal GetsAp stVal at KB
      simp only[StC.sv,StC.kv,StC.mv] at KB
      try dsimp only at KB
      try unfold stVal at KB
      try simp only[StC.sv,StC.kv,StC.mv] at KB
      clear hbd
      obtain⟨d0,d1,d2,d3,d4,d5,df⟩:=HX9.out
      simp only[StC.sv,StC.kv,StC.mv] at d0 d1 d2 d3 d4 d5
      obtain⟨r0,r1,r2,r3⟩:=HP9.out
      dsimp only at r0 r1 r2 r3
      go_upto_region 11 with (go_at_call 23;refine(KB.out _ (Below.refl _ _)).mono ?_;rintro e w10 ⟨⟨ut,un,uk,uS,ua,uc,uK,uka,ukc,uM,uma,umc⟩,h10,p10,he,hv10,hf10,hh10,hb10⟩;simp only[StC.sv,StC.kv,StC.mv] at he;subst he;have HV10:=hid hv10;have HF10:=hid hf10;have HH10:=hid hh10;have HB10:=hid hb10;clear hv10 hf10 hh10 hb10)
      have hbx10:=two_boxes w10 ⟨ut,un,uk,uS,ua,uc,uK,uka,ukc,uM,uma,umc⟩ ⟨tc,ts,ta,th⟩ (.slice h10 th.length p10) 28 44 (b:=w10.heap.size) rfl
      simp only[StC.sv,StC.kv,StC.mv] at hbx10
      obtain⟨W10,hW10⟩: ∃W10,W10=(w10.alloc (.cells #[.int .i64 ut,.int .i64 un,.int .i64 uk,.slice ua uS.length uc,.slice uka uK.length ukc,.slice uma uM.length umc] 28)).alloc (.cells #[.int .i64 (tc),.int .i64 (ts),.int .i64 (ta),.slice h10 th.length p10] 44):=⟨_,rfl⟩
      rw[<-hW10] at hbx10 ⊢
      obtain⟨t10,ht10⟩: ∃t,w10.heap.size=t:=⟨_,rfl⟩
      have hn10:=hbx10.2.2
      rw[ht10] at hbx10 ⊢
      have HX10:=hid hbx10.1
      have HP10:=hid hbx10.2.1
      have HN10:=hid hn10
      have hge10:wr.heap.size<=t10:=by rw[<-ht10];exact(step HBE.out HB10.out).size
      have HH10:=hid (HH10.out.later hn10)
      have HBU:=hid (step HBE.out (step HB10.out hn10))
      have HXY:=hid (HX.out.later HBU.out)
      have HO10:=hid (Rw.own_below HO.out HBU.out)
      have HBW:=hid (step HB.out HBU.out)
      clear hW10 hbx10 hn10 ht10 KB d0 d1 d2 d3 d4 d5 df r0 r1 r2 r3 HX
      obtain⟨r0,r1,r2,r3⟩:=HP10.out
      dsimp only at r0 r1 r2 r3
      have KT:=hid (fun W (hb:Below W10.heap.size W10 W)=>RefToken_any ⟨tc,ts,ta,th⟩ (.slice h10 th.length p10) nm W (HH10.out.later hb))
      unfold repVal at KT
      dsimp only at KT
      go_cut [105] from 70 to 105 (fun s9 wc=>s9= .bool false/\Hid (Below W10.heap.size W10 wc))
      case first=>
        by_cases hC:C= []
        · have hc0:CN=0:=by rw[<-HCN.out,hC];rfl
          subst hc0
          obtain⟨t0,t1⟩:=HT0.out hC
          rw[t1] at KT
          subst t0
          clear HT0 HT1 hC
          go_wp2_with (go_at_call 36;refine(KT.out _ (Below.refl _ _)).mono ?_;rintro e w11 ⟨rfl,hb11⟩;have HB11:=hid hb11;clear hb11)
          go_meet
          case rel=>exact⟨rfl,HB11⟩
        · have hc0:0<CN:=by rw[<-HCN.out];exact List.length_pos_iff.2 hC
          obtain⟨t0,t1⟩:=HT1.out hC
          rw[HCN.out] at t1
          have d1:decide ((CN:Int)=0)=false:=decide_eq_false (by omega)
          have d2:((CN:Int)==0)=false:=by rw[beq_eq_false_iff_ne];omega
          have d22:(CN==0)=false:=by rw[beq_eq_false_iff_ne];omega
          have d3:decide ((0:Int)<(CN:Int))=true:=decide_eq_true (by omega)
          have d33:decide (0<CN)=true:=decide_eq_true hc0
          have v6:IntKind.i64.wrap ((CN:Int) - 1)=(CN:Int) - 1:=by rw[IntKind.wrap_i64];omega
          subst t0 t1
          clear HT0 HT1 hC
          go_wp2
          go_meet
          case rel=>exact⟨rfl,hid (Below.refl _ _)⟩
      case rest=>
        obtain⟨rfl,HBC⟩:=hcut
        obtain⟨w5,rfl⟩: ∃w5,w5=wc:=⟨_,rfl⟩
        clear r0 r1 r2 r3
        have HO5:=hid (Rw.own_below HO10.out HBC.out)
        have HX5:=hid (HXY.out.later HBC.out)
        have HXU:=hid (HX10.out.later HBC.out)
        have HBW5:=hid (step HBW.out HBC.out)
        have hbs:=(step HBU.out HBC.out).size
        have hbs2:w.heap.size<=HI:=by have:=HNB.out;omega
        have HAT:Hid (∀g,nb=g\/wr.heap.size<=g->(Value.slice qa CN qc).ownBlock ≠some g):=hid fun g hg e=>by
          have:=Rw.own_lt HO.out g e
          omega
        have HBX:=hid (step HN10.out (step HBC.out (newAlloc w5 (.cells #[.int .i64 c] 3))))
        have HM:=hid (fun g hg=>(Rw.own_lt HO.out g hg).2)
        go_wp2_with (at_builtin;refine wpList_append_one_gr cellsI_length (by omega) rfl (.tmp 106) (.tmp 108) 34 rfl 3 i0 _ 8 Tryz.underlying34 hi hz0 hz1 hz2 rfl #[.int .i64 c] c rfl (cellsI_one _) C HI (.slice qa CN qc) rfl rfl (by rw[HCN.out];exact HO5.out) (by rw[HCN.out];unfold maxLen;omega) (by rw[HCN.out];omega) (Nat.le_trans hsz hbs) ?_;intro v8 w8 ho8 hg8 hat8;have HO8:=hid ho8;have HG8:=hid hg8;have HAT8:=hid hat8;have HX8:=hid (HX5.out.keep (grown_at hg8 HX5.out.lt (HAT.out nb (.inl rfl))));have HU8:=hid (HXU.out.keep (grown_at hg8 HXU.out.lt (HAT.out t10 (.inr hge10))));obtain⟨c0,c1,c2,c3,c4,c5,cf⟩:=HX8.out;simp only[StC.sv,StC.kv,StC.mv] at c0 c1 c2 c3 c4 c5;obtain⟨u0,u1,u2,u3,u4,u5,uf⟩:=HU8.out;simp only[StC.sv,StC.kv,StC.mv] at u0 u1 u2 u3 u4 u5;clear ho8 hg8 hat8)
        have hsz8:HI<=w8.heap.size:=Nat.le_trans hsz (Nat.le_trans hbs (Nat.le_trans (newAlloc w5 (.cells #[.int .i64 c] 3)).size HG8.out.size))
        have HXE:=hid (HX8.out.put ut un uk uS ua uc uK uka ukc uM uma umc)
        have HOE:=hid (own_set6z HO8.out hlt1 (.int .i64 ut) (.int .i64 un) (.int .i64 uk) (.slice ua uS.length uc) (.slice uka uK.length ukc) (.slice uma uM.length umc))
        have HBE8:=hid (below_set6 ((stepAlloc HBW5.out _).grown HG8.out (by have:=HBW5.out.size;simp;omega) (fun g hg=>Nat.le_trans hbs2 (Rw.own_lt HO.out g hg).1)) nb (Nat.le_of_eq HNB.out) (.int .i64 ut) (.int .i64 un) (.int .i64 uk) (.slice ua uS.length uc) (.slice uka uK.length ukc) (.slice uma uM.length umc))
        have HFE:=hid (fair_keep HFW.out HM.out hsz hlt1 HF9.out HB9.out HN9.out HF10.out HB10.out HBX.out HG8.out HAT8.out (fun k hk=>heap_set6 w8 nb (.int .i64 ut) (.int .i64 un) (.int .i64 uk) (.slice ua uS.length uc) (.slice uka uK.length ukc) (.slice uma uM.length umc) (by omega)) (heap_set6k (.int .i64 ut) (.int .i64 un) (.int .i64 uk) (.slice ua uS.length uc) (.slice uka uK.length ukc) (.slice uma uM.length umc)))
        go_roundw
        case rel=>exact⟨k+1,C++ [c],⟨ut,un,uk,uS,ua,uc,uK,uka,ukc,uM,uma,umc⟩,by omega,by go_num,by rw[List.length_append,HCN.out];simp;omega,by simpa using hsz8,hid (fun x hx=>(List.mem_append.1 hx).elim (HC8.out x) (fun q=>by rw[List.mem_singleton.1 q];exact hcr)),hid (by rw[List.pairwise_append];exact⟨HCD.out,List.pairwise_singleton _ _,fun x hx y hy=>by rw[List.mem_singleton.1 hy];rintro rfl;exact HIN.out hx⟩),HXE,hid (by rw[HV10.out];exact HCU.out),HOE,HFE,HBE8⟩
        case measure=>simp [intOf];omega
    · have hor: ¬k<len0\/(k<len0/\ ¬C.length<4):=by omega
      clear hgo HI0
      obtain⟨CN,hCN⟩: ∃CN,C.length=CN:=⟨_,rfl⟩
      have HCN:=hid hCN
      have hun:CN<=qc/\qc<=9223372036854775807:=by
        obtain⟨a9,cap9,hv9,q1,q2,_⟩:=HRC.out.ex
        injection hv9 with _ _ q9
        subst q9
        unfold maxLen at q2
        omega
      rw[hCN] at h4 HO HRC hor ⊢
      have HGO:=hid HCM.out.goes
      clear hCN HFW HCM
      rcases hor with c1 | ⟨c1,c2⟩
      case' inl=>
        have e1:decide ((k:Int)<(len0:Int))=false:=decide_eq_false (by omega)
        have e11:decide (k<len0)=false:=decide_eq_false c1
      case' inr=>
        have e1:decide ((k:Int)<(len0:Int))=true:=decide_eq_true (by omega)
        have e11:decide (k<len0)=true:=decide_eq_true c1
        have e2:decide ((CN:Int)<4)=false:=decide_eq_false (by omega)
        have e22:decide (CN<4)=false:=decide_eq_false c2
      all_goals
        go_wp2
        obtain⟨wo,rfl⟩: ∃wo,wo=wr:=⟨_,rfl⟩
        go_loopw [18,19] (fun tv i wr=> ∃(j:Nat) (y:StC),j<=CN/\i= .int .i64 j/\tv= .int .i64 (j:Int)/\HI<=wr.heap.size/\Hid (BoxS wr nb y)/\Hid (Goes nm C j y.v)/\Hid (wr.ownsRow HI 3 1 (.slice qa CN qc) CN (flatX cellsI C))/\Hid (FromS HI wr zeroC10 y)/\Hid (Below w.heap.size w wr)) (fun _ i _=>CN - (intOf i).toNat)
        case atStart=>exact⟨0,⟨yt,yn,yk,yS,ya,yc,yK,yka,ykc,yM,yma,ymc⟩,by omega,rfl,rfl,hsz,HX,HGO,HO,HF,HB⟩
        case round=>
          obtain⟨j,⟨gt,gn,gk,gS,ga,gc,gK,gka,gkc,gM,gma,gmc⟩,hj,rfl,rfl,hsj,HX,HG,HO,HF,HB⟩:=hrel
          obtain⟨c0,c1,c2,c3,c4,c5,cf⟩:=HX.out
          simp only[StC.sv,StC.kv,StC.mv] at c0 c1 c2 c3 c4 c5
          have HRD:=hid (HF.out.rd (RdSt.zero wr))
          by_cases hlt2:j<CN
          · have hjc:j<C.length:=by rw[HCN.out];exact hlt2
            have f1:(0:Int)<=(j:Int):=by omega
            have f2:(j:Int)<(CN:Int):=by omega
            have e3:decide ((j:Int)<(CN:Int))=true:=decide_eq_true f2
            have e33:decide (j<CN)=true:=decide_eq_true hlt2
            have hloc:=HG.out.locks
            rw[lock_drop nm C j hjc] at hloc
            have hloc:vals gK= [⟨nm,C[j],(j:Int)+1,C.drop (j+1)⟩]:=hloc
            have KL:Calls Tryz.prog 39 #[.slice gka gK.length gkc,.string (bstr nm)] wr (fun e w'=>e= .returned (.int .i64 (idxI (isNm nm) (vals gK)))/\wr=w'):=(FindLock_any (.slice gka gK.length gkc) gK nm wr HRD.out.k.row).mono fun e w' q=>⟨q.1,q.2.symm⟩
            rw[hloc,idx_one] at KL
            have hK1:gK.length=1:=by have:=congrArg List.length hloc;rw[vals_length] at this;exact this
            have hKR:RdX 4 cellsK wr (.slice gka gK.length gkc) gK:=HRD.out.k.row
            have hK0:0<gK.length:=by omega
            obtain⟨kb,ko,rfl,hkc⟩:=rdk_at hKR 0 hK0
            obtain⟨k0,k1,k2,k3⟩:=hkc wr (Below.refl _ _)
            have hv0:=lock_at hloc hK0
            rw[hv0.1] at k1
            rw[hv0.2] at k2
            try simp only[Nat.zero_mul,Nat.add_zero] at k1 k2
            have hgn:=fun close=>goes_next HG.out hjc (by rw[HCN.out];exact h4) HC8.out HCD.out HNM.out close
            obtain⟨cb,co,rfl,hcc⟩:=rdi_at (RdX.own cellsI_length (by rw[HCN.out];exact HO.out)) j hjc
            have q0:=hcc wr (Below.refl _ _)
            have HQ:=hid (fun W (hb:Below wr.heap.size wr W)=>hcc W hb)
            have hhas:=HG.out.has C[j] (by rw[List.drop_eq_getElem_cons hjc];exact List.mem_cons_self)
            generalize C[j]=c at k1 hgn q0 HQ hhas
            have KF:=hid (fun W (hb:Below wr.heap.size wr W)=>Find_any (.slice ga gS.length gc) gS c W (HRD.out.later hb).s)
            obtain⟨⟨⟨fc,fn,fe⟩,fb⟩,hfs⟩: ∃l,findS gS c=l:=⟨_,rfl⟩
            have hgn: ∀close,(applyA (StC.v ⟨gt,gn,gk,gS,ga,gc,gK,some ⟨kb,ko,none⟩,gkc,gM,gma,gmc⟩) (reqG nm c close fn)).2.2=true/\(applyA (StC.v ⟨gt,gn,gk,gS,ga,gc,gK,some ⟨kb,ko,none⟩,gkc,gM,gma,gmc⟩) (reqG nm c close fn)).2.1.code =0/\(applyA (StC.v ⟨gt,gn,gk,gS,ga,gc,gK,some ⟨kb,ko,none⟩,gkc,gM,gma,gmc⟩) (reqG nm c close fn)).2.1.held = []/\Goes nm C (j+1) (applyA (StC.v ⟨gt,gn,gk,gS,ga,gc,gK,some ⟨kb,ko,none⟩,gkc,gM,gma,gmc⟩) (reqG nm c close fn)).1:=fun close=>by
              have:=hgn close
              rw[show(findS (StC.v ⟨gt,gn,gk,gS,ga,gc,gK,some ⟨kb,ko,none⟩,gkc,gM,gma,gmc⟩).ses c).1.num =fn by show(findS gS c).1.num =fn;rw[hfs]] at this
              exact this
            have HGN:=hid hgn
            have KA:=hid (fun(r:ReqV) W (hb:Below wr.heap.size wr W)=>AutoApply_any ⟨gt,gn,gk,gS,ga,gc,gK,some ⟨kb,ko,none⟩,gkc,gM,gma,gmc⟩ r W (HRD.out.later hb) HG.out.right (by have q:gn=(C.length:Int):=HG.out.num;show gn< _;have:=HCN.out;omega) (by have q:gk<=(C.length:Int):=HG.out.most;show gk< _;have:=HCN.out;omega))
            rw[hfs] at KF
            rw[hK1] at c4 KL
            unfold Found sesVal at KF
            try dsimp only at KF
            have KL:=hid KL
            have e4:decide ((j:Int)+1<=(j:Int))=false:=decide_eq_false (by omega)
            have hwj:IntKind.i64.wrap ((j:Int)+1)=(j:Int)+1:=by rw[IntKind.wrap_i64];omega
            have HK1:=hid hK1
            clear hgn hfs hhas hcc hkc hv0 hloc hK1 k0 k3 hKR hK0
            go_upto_region 20 with (go_at_call 39;refine KL.out.mono ?_;rintro e w8 ⟨rfl,rfl⟩)
            go_quiet (fail)
            obtain⟨W8,hW8⟩: ∃W8,W8=wr.drewN nq:=⟨_,rfl⟩
            have hb8:Below wr.heap.size wr W8:=by rw[hW8];exact below_drewN6 (Below.refl _ _) _
            rw[<-hW8]
            have HB8:=hid hb8
            have HX8:=hid (HX.out.later hb8)
            have k28:=(hb8.cell (lt_of_cell k2)).trans k2
            clear hW8 hb8 c0 c1 c2 c3 c4 c5 cf k1 k2 q0 KL e4
            obtain⟨c0,c1,c2,c3,c4,c5,cf⟩:=HX8.out
            simp only[StC.sv,StC.kv,StC.mv] at c0 c1 c2 c3 c4 c5
            rw[HK1.out] at c4
            go_upto_region 23 with fail
            clear k28 c0 c1 c2 c3 c4 c5 cf
            have HKP:Hid (∀W,Below W8.heap.size W8 W->(W.cell? ⟨nb,3,none⟩=some (.slice ga gS.length gc)/\W.cell? ⟨cb,co+j,none⟩=some (.int .i64 c))):=hid fun W hb=>⟨(HX8.out.later hb).c3,HQ.out W (step HB8.out hb)⟩
            have KF8:=hid (fun W (hb:Below W8.heap.size W8 W)=>KF.out W (step HB8.out hb))
            go_cut [21,22] from 152 to 161 (fun s21 s22 wc=> ∃b5:Nat,s21= .pointer (some ⟨b5,0,none⟩)/\Hid (BoxE wc b5 ⟨fc,fn,fe⟩)/\Hid (Below W8.heap.size W8 wc))
            case first=>
              refine wp_region_held_drew (S:=(fun W=>W.cell? ⟨nb,3,none⟩=some (.slice ga gS.length gc)/\W.cell? ⟨cb,co+j,none⟩=some (.int .i64 c))) (by kernel_rfl) (HKP.out _ (Below.refl _ _).drew) (fun hHeld=>?_)
              obtain⟨V,hV⟩: ∃V,V=W8.drew:=⟨_,rfl⟩
              have HBR:Hid (Below W8.heap.size W8 V):=hid (by rw[hV];exact(Below.refl _ _).drew)
              rw[<-hV] at hHeld ⊢
              clear hV
              refine wpAnyH_take (i:=0) (v:=?_) rfl (by kernel_rfl) (by kernel_rfl) (by kernel_rfl) (fun _ _ _ h=>h) (Or.inl ⟨by rfl,?_⟩) (by assumption) ?_
              rotate_left
              · intro w hSw;(try dsimp only at hSw);go_simp<;>with_reducible rfl
              try simp only[Act.put,getElem_toArray,getElem_cons_succ,getElem_cons_zero,setIfInBounds_toArray,set_cons_zero,set_cons_succ]
              refine wpAnyH_take (i:=1) (v:=?_) rfl (by kernel_rfl) (by kernel_rfl) (by kernel_rfl) (fun _ _ _ h=>h) (Or.inl ⟨by rfl,?_⟩) (by assumption) ?_
              rotate_left
              · intro w hSw;(try dsimp only at hSw);go_simp<;>with_reducible rfl
              try simp only[Act.put,getElem_toArray,getElem_cons_succ,getElem_cons_zero,setIfInBounds_toArray,set_cons_zero,set_cons_succ]
              refine wpAnyH_take (i:=2) (v:=?_) rfl (by kernel_rfl) (by kernel_rfl) (by kernel_rfl) (fun _ _ _ h=>h) (Or.inl ⟨by rfl,?_⟩) (by assumption) ?_
              rotate_left
              · intro w hSw;(try dsimp only at hSw);go_simp<;>with_reducible rfl
              try simp only[Act.put,getElem_toArray,getElem_cons_succ,getElem_cons_zero,setIfInBounds_toArray,set_cons_zero,set_cons_succ]
              refine wpAnyH_take (i:=3) (v:=?_) rfl (by kernel_rfl) (by kernel_rfl) (by kernel_rfl) (fun _ _ _ h=>h) (Or.inl ⟨by rfl,?_⟩) (by assumption) ?_
              rotate_left
              · intro w hSw;(try dsimp only at hSw);go_simp<;>with_reducible rfl
              try simp only[Act.put,getElem_toArray,getElem_cons_succ,getElem_cons_zero,setIfInBounds_toArray,set_cons_zero,set_cons_succ]
              refine wpAnyH_take (i:=4) (v:=?_) rfl (by kernel_rfl) (by kernel_rfl) (by kernel_rfl) (fun _ _ _ h=>h) (Or.inl ⟨by rfl,?_⟩) (by assumption) ?_
              rotate_left
              · intro w hSw;(try dsimp only at hSw);go_simp<;>with_reducible rfl
              try simp only[Act.put,getElem_toArray,getElem_cons_succ,getElem_cons_zero,setIfInBounds_toArray,set_cons_zero,set_cons_succ]
              refine wpAnyH_take (i:=5) (v:=?_) rfl (by kernel_rfl) (by kernel_rfl) (by kernel_rfl) (fun _ _ _ h=>h) (Or.inl ⟨by rfl,?_⟩) (by assumption) ?_
              rotate_left
              · intro w hSw;(try dsimp only at hSw);go_simp<;>with_reducible rfl
              try simp only[Act.put,getElem_toArray,getElem_cons_succ,getElem_cons_zero,setIfInBounds_toArray,set_cons_zero,set_cons_succ]
              have HNC:Hid (Old V fun _=>True):=hid fun _ _=>trivial
              have HNA:Hid (Old V fun _=>True):=hid fun _ _=>trivial
              all_goals
                refine wpAnyH_ready (rs:= [6,10]) (by kernel_rfl) (by simp) ?_
                refine AllReadyH.cons rfl (fun K hK=>?_) (AllReadyH.cons rfl (fun K hK=>?_) AllReadyH.nil)
              all_goals
                go_simp
                first
                  | (go_at_call 32
                     refine(KF8.out _ HBR.out).mono ?_
                     rintro e V ⟨rfl,hb⟩
                     have HNC:Hid (Old V (fun _=>True)):=hid fun W hw=>trivial
                     have HNA:=hid (HNA.out.later hb)
                     have HBR:=hid (step HBR.out hb)
                     clear hb
                     have mC:=trivial
                     refine hK.out _ _ (HKP.out _ HBR.out) (fun hHeld=>?_)
                     clear hK K
                     try simp only[Act.put,getElem_toArray,getElem_cons_succ,getElem_cons_zero,setIfInBounds_toArray,set_cons_zero,set_cons_succ]
                     refine wpAnyH_take (i:=7) (v:=?_) rfl (by kernel_rfl) (by kernel_rfl) (by kernel_rfl) (fun _ _ _ h=>h) (Or.inl ⟨by rfl,?_⟩) (by assumption) ?_
                     rotate_left
                     · intro w hSw;(try dsimp only at hSw);go_simp<;>with_reducible rfl
                     try simp only[Act.put,getElem_toArray,getElem_cons_succ,getElem_cons_zero,setIfInBounds_toArray,set_cons_zero,set_cons_succ]
                     refine wpAnyH_take (i:=8) (v:=?_) rfl (by kernel_rfl) (by kernel_rfl) (by kernel_rfl) (fun _ _ _ h=>h) (Or.inl ⟨by rfl,?_⟩) (by assumption) ?_
                     rotate_left
                     · intro w hSw;(try dsimp only at hSw);go_simp<;>with_reducible rfl
                     try simp only[Act.put,getElem_toArray,getElem_cons_succ,getElem_cons_zero,setIfInBounds_toArray,set_cons_zero,set_cons_succ]
                     refine wpAnyH_take (i:=9) (v:=?_) rfl (by kernel_rfl) (by kernel_rfl) (by kernel_rfl) (fun _ _ _ h=>h) (Or.inl ⟨by rfl,?_⟩) (by assumption) ?_
                     rotate_left
                     · intro w hSw;(try dsimp only at hSw);go_simp<;>with_reducible rfl
                     try simp only[Act.put,getElem_toArray,getElem_cons_succ,getElem_cons_zero,setIfInBounds_toArray,set_cons_zero,set_cons_succ])
                  | (obtain⟨V',hV'⟩: ∃V',V'=V.alloc (.cells #[.int .i64 0,.int .i64 0,.int .i64 0] 56):=⟨_,rfl⟩
                     rw[<-hV']
                     have hb:Below V.heap.size V V':=(by rw[hV'];exact newAlloc _ _)
                     have hn:BoxE V' V.heap.size ⟨0,0,0⟩:=(by rw[hV'];exact BoxE.new V ⟨0,0,0⟩ _)
                     have hgeb5:W8.heap.size<=V.heap.size:=HBR.out.size
                     obtain⟨b5,hb5⟩: ∃b5,V.heap.size=b5:=⟨_,rfl⟩
                     rw[hb5] at hn hgeb5 ⊢
                     have HNA:Hid (Old V' (fun W=>BoxE W b5 ⟨0,0,0⟩)):=hid fun W hw=>hn.later hw
                     have HNC:=hid (HNC.out.later hb)
                     have HBR:=hid (step HBR.out hb)
                     clear hV' hb hn hb5
                     obtain⟨V,rfl⟩: ∃V,V=V':=⟨_,rfl⟩
                     have mA:=trivial
                     refine hK.out _ _ (HKP.out _ HBR.out) (fun hHeld=>?_)
                     clear hK K
                     try simp only[Act.put,getElem_toArray,getElem_cons_succ,getElem_cons_zero,setIfInBounds_toArray,set_cons_zero,set_cons_succ])
              all_goals
                first
                  | (revert mA;intro mA;refine wpAnyH_ready (rs:= [6]) (by kernel_rfl) (by simp) ?_;refine AllReadyH.cons rfl (fun K hK=>?_) AllReadyH.nil)
                  | (revert mC;intro mC;refine wpAnyH_ready (rs:= [10]) (by kernel_rfl) (by simp) ?_;refine AllReadyH.cons rfl (fun K hK=>?_) AllReadyH.nil)
              all_goals
                go_simp
                first
                  | (go_at_call 32
                     refine(KF8.out _ HBR.out).mono ?_
                     rintro e V ⟨rfl,hb⟩
                     have HNC:Hid (Old V (fun _=>True)):=hid fun W hw=>trivial
                     have HNA:=hid (HNA.out.later hb)
                     have HBR:=hid (step HBR.out hb)
                     clear hb
                     have mC:=trivial
                     refine hK.out _ _ (HKP.out _ HBR.out) (fun hHeld=>?_)
                     clear hK K
                     try simp only[Act.put,getElem_toArray,getElem_cons_succ,getElem_cons_zero,setIfInBounds_toArray,set_cons_zero,set_cons_succ]
                     refine wpAnyH_take (i:=7) (v:=?_) rfl (by kernel_rfl) (by kernel_rfl) (by kernel_rfl) (fun _ _ _ h=>h) (Or.inl ⟨by rfl,?_⟩) (by assumption) ?_
                     rotate_left
                     · intro w hSw;(try dsimp only at hSw);go_simp<;>with_reducible rfl
                     try simp only[Act.put,getElem_toArray,getElem_cons_succ,getElem_cons_zero,setIfInBounds_toArray,set_cons_zero,set_cons_succ]
                     refine wpAnyH_take (i:=8) (v:=?_) rfl (by kernel_rfl) (by kernel_rfl) (by kernel_rfl) (fun _ _ _ h=>h) (Or.inl ⟨by rfl,?_⟩) (by assumption) ?_
                     rotate_left
                     · intro w hSw;(try dsimp only at hSw);go_simp<;>with_reducible rfl
                     try simp only[Act.put,getElem_toArray,getElem_cons_succ,getElem_cons_zero,setIfInBounds_toArray,set_cons_zero,set_cons_succ]
                     refine wpAnyH_take (i:=9) (v:=?_) rfl (by kernel_rfl) (by kernel_rfl) (by kernel_rfl) (fun _ _ _ h=>h) (Or.inl ⟨by rfl,?_⟩) (by assumption) ?_
                     rotate_left
                     · intro w hSw;(try dsimp only at hSw);go_simp<;>with_reducible rfl
                     try simp only[Act.put,getElem_toArray,getElem_cons_succ,getElem_cons_zero,setIfInBounds_toArray,set_cons_zero,set_cons_succ])
                  | (obtain⟨V',hV'⟩: ∃V',V'=V.alloc (.cells #[.int .i64 0,.int .i64 0,.int .i64 0] 56):=⟨_,rfl⟩
                     rw[<-hV']
                     have hb:Below V.heap.size V V':=(by rw[hV'];exact newAlloc _ _)
                     have hn:BoxE V' V.heap.size ⟨0,0,0⟩:=(by rw[hV'];exact BoxE.new V ⟨0,0,0⟩ _)
                     have hgeb5:W8.heap.size<=V.heap.size:=HBR.out.size
                     obtain⟨b5,hb5⟩: ∃b5,V.heap.size=b5:=⟨_,rfl⟩
                     rw[hb5] at hn hgeb5 ⊢
                     have HNA:Hid (Old V' (fun W=>BoxE W b5 ⟨0,0,0⟩)):=hid fun W hw=>hn.later hw
                     have HNC:=hid (HNC.out.later hb)
                     have HBR:=hid (step HBR.out hb)
                     clear hV' hb hn hb5
                     obtain⟨V,rfl⟩: ∃V,V=V':=⟨_,rfl⟩
                     have mA:=trivial
                     refine hK.out _ _ (HKP.out _ HBR.out) (fun hHeld=>?_)
                     clear hK K
                     try simp only[Act.put,getElem_toArray,getElem_cons_succ,getElem_cons_zero,setIfInBounds_toArray,set_cons_zero,set_cons_succ])
              all_goals
                obtain⟨x0,x1,x2,xf⟩:=HNA.out.now
                dsimp only at x0 x1 x2
              all_goals
                refine wpAnyH_ready (rs:= [11]) (by kernel_rfl) (by simp) ?_
                refine AllReadyH.cons rfl (fun K hK=>?_) AllReadyH.nil
                go_simp
                refine hK.out _ _ (HKP.out _ (below_set3 HBR.out b5 hgeb5 _ _ _)) (fun hHeld=>?_)
                clear hK K
                try simp only[Act.put,getElem_toArray,getElem_cons_succ,getElem_cons_zero,setIfInBounds_toArray,set_cons_zero,set_cons_succ]
              all_goals
                refine wpAnyH_take (i:=12) (v:=?_) rfl (by kernel_rfl) (by kernel_rfl) (by kernel_rfl) (fun _ _ _ h=>h) (Or.inl ⟨by rfl,?_⟩) (by assumption) ?_
                rotate_left
                · intro w hSw;(try dsimp only at hSw);go_simp<;>with_reducible rfl
                try simp only[Act.put,getElem_toArray,getElem_cons_succ,getElem_cons_zero,setIfInBounds_toArray,set_cons_zero,set_cons_succ]
              all_goals refine wpAnyH_done (by kernel_rfl) ?_ _
              all_goals
                have HXE:=hid ((HNA.out.now).put fc fn fe)
                have HBE:=hid (below_set3 HBR.out b5 hgeb5 (.int .i64 fc) (.int .i64 fn) (.int .i64 fe))
                clear x0 x1 x2 xf HNA HNC HBR hHeld
                go_wp2
                go_meet
                case rel=>exact⟨b5,rfl,HXE,HBE⟩
            case rest=>
              obtain⟨b5,rfl,HXE,HBE⟩:=hcut
              obtain⟨ws,rfl⟩: ∃ws,ws=wc:=⟨_,rfl⟩
              obtain⟨x0,x1,x2,xf⟩:=HXE.out
              dsimp only at x0 x1 x2
              clear HKP KF8 KF
              go_upto_region 25 with fail
              obtain⟨Wc,hWc⟩: ∃Wc,Wc=ws.alloc (.cells #[.int .i64 5,.int .i64 fn,.string (bstr nm)] 37):=⟨_,rfl⟩
              have hm:BoxM Wc ws.heap.size ⟨5,fn,nm⟩:=by rw[hWc];exact BoxM.new ws ⟨5,fn,nm⟩ _
              have hbc:Below ws.heap.size ws Wc:=by rw[hWc];exact newAlloc _ _
              rw[<-hWc]
              obtain⟨bc,hbce⟩: ∃bc,ws.heap.size=bc:=⟨_,rfl⟩
              have hgc:W8.heap.size<=bc:=by rw[<-hbce];exact HBE.out.size
              rw[hbce] at hm ⊢
              have HM:=hid hm
              have HBC:=hid (step HBE.out hbc)
              have HXC:=hid (HXE.out.later hbc)
              clear hWc hm hbc hbce x0 x1 x2 xf
              obtain⟨cl,hcl⟩: ∃cl:Bool,cl=(decide (j<len1) && decide ((NT.getD j 0).toNat % 2=1)):=⟨_,rfl⟩
              have HCL:=hid hcl
              clear hcl
              go_cut [177] from 166 to 177 (fun s wc=>s= .bool cl/\wc=Wc)
              case first=>
                by_cases g1:j<len1
                · obtain⟨hb,ho,rfl,hcell⟩:=HI1.out j g1
                  have q0:=hcell Wc (step HB.out (step HB8.out HBC.out))
                  have hcl:=HCL.out
                  generalize (NT.getD j 0).toNat =X at q0 hcl
                  have h1:(j:Int)<(len1:Int):=by omega
                  have d1:decide ((j:Int)<(len1:Int))=true:=decide_eq_true h1
                  have d11:decide (j<len1)=true:=decide_eq_true g1
                  rw[d11,Bool.true_and] at hcl
                  have HC2:=hid hcl
                  clear hcl
                  go_wp2
                  go_meet
                  case rel=>exact⟨by rw[HC2.out];congr 1;rw[Bool.eq_iff_iff,beq_iff_eq,decide_eq_true_eq];omega,rfl⟩
                · have hcl:cl=false:=by rw[HCL.out,decide_eq_false g1,Bool.false_and]
                  subst hcl
                  have d1:decide ((j:Int)<(len1:Int))=false:=decide_eq_false (by omega)
                  have d11:decide (j<len1)=false:=decide_eq_false g1
                  go_wp2
                  go_meet
                  case rel=>exact⟨rfl,rfl⟩
              case rest=>
                obtain⟨rfl,rfl⟩:=hcut
                go_upto_if 177 with fail
                go_cut [] from 178 to 180 (fun wc=>Hid (BoxM wc bc (cmdG nm cl fn))/\Hid (Below W8.heap.size W8 wc))
                case first=>
                  cases cl with
                  | false=>
                    go_wp2
                    go_meet
                    case rel=>exact⟨HM,HBC⟩
                  | true=>
                    obtain⟨x0,x1,x2,xf⟩:=HXC.out
                    dsimp only at x0 x1 x2
                    obtain⟨m0,m1,m2,mf⟩:=HM.out
                    dsimp only at m0 m1 m2
                    have HME:=hid (HM.out.put 6 fn [])
                    have HBE2:=hid (below_set3 HBC.out bc hgc (.int .i64 6) (.int .i64 fn) (.string (bstr [])))
                    go_wp2
                    go_meet
                    case rel=>exact⟨HME,HBE2⟩
                case rest=>
                  obtain⟨HME,HBE2⟩:=hcut
                  obtain⟨wq,rfl⟩: ∃wq,wq=wc:=⟨_,rfl⟩
                  have hgn:=HGN.out cl
                  have KA2:=hid (fun W (hb:Below wq.heap.size wq W)=>KA.out (reqG nm c cl fn) W (step HB8.out (step HBE2.out hb)))
                  obtain⟨⟨TS,⟨rc',rs',ra',rh'⟩,rd'⟩,hT⟩: ∃R,applyA (StC.v ⟨gt,gn,gk,gS,ga,gc,gK,some ⟨kb,ko,none⟩,gkc,gM,gma,gmc⟩) (reqG nm c cl fn)=R:=⟨_,rfl⟩
                  rw[hT] at hgn KA2
                  dsimp only at hgn
                  obtain⟨rfl,rfl,rfl,hgo2⟩:=hgn
                  have HGO2:=hid hgo2
                  unfold reqG reqVal GetsAp stVal at KA2
                  obtain⟨⟨mk,ms,mm⟩,hM⟩: ∃M,cmdG nm cl fn=M:=⟨_,rfl⟩
                  rw[hM] at KA2 HME
                  simp only[StC.sv,StC.kv,StC.mv] at KA2
                  try dsimp only at KA2
                  try unfold stVal at KA2
                  try simp only[StC.sv,StC.kv,StC.mv] at KA2
                  have HXQ:=hid (HX8.out.later HBE2.out)
                  have HFQ:=hid (HF.out.later (step HB8.out HBE2.out))
                  have HBQ:=hid (step HB8.out HBE2.out)
                  have hszq:HI<=wq.heap.size:=Nat.le_trans hsj HBQ.out.size
                  have HKP:Hid (∀W,Below wq.heap.size wq W->(fun W=>((W.cell? ⟨nb,0,none⟩=some (.int .i64 gt)/\W.cell? ⟨nb,1,none⟩=some (.int .i64 gn)/\W.cell? ⟨nb,2,none⟩=some (.int .i64 gk))/\W.cell? ⟨nb,3,none⟩=some (.slice ga gS.length gc)/\W.cell? ⟨nb,4,none⟩=some (.slice (some ⟨kb,ko,none⟩) gK.length gkc)/\W.cell? ⟨nb,5,none⟩=some (.slice gma gM.length gmc))/\W.cell? ⟨cb,co+j,none⟩=some (.int .i64 c)/\W.cell? ⟨bc,0,none⟩=some (.int .i64 mk)/\W.cell? ⟨bc,1,none⟩=some (.int .i64 ms)/\W.cell? ⟨bc,2,none⟩=some (.string (bstr mm))) W):=hid fun W hb=>by
                    obtain⟨m0,m1,m2,mf⟩:=HME.out.later hb
                    exact⟨(HXQ.out.later hb).cells,HQ.out W (step HBQ.out hb),m0,m1,m2⟩
                  clear hT hgo2 hM HM HBC HXC HXE HX8 HCL HGN KA
                  go_upto_region 27 with fail
                  go_cut [24,25,26] from 181 to 192 (fun s24 s25 s26 wc=> ∃(bS bR:Nat) (t:StC) (rh:Option Addr) (rp:Nat),s24= .pointer (some ⟨bS,0,none⟩)/\s25= .pointer (some ⟨bR,0,none⟩)/\s26= .bool true/\HI<=wc.heap.size/\Hid (BoxS wc bS t)/\Hid (FromS HI wc zeroC10 t)/\Hid (t.v=TS)/\Hid (wc.cell? ⟨bR,0,none⟩=some (.int .i64 0)/\wc.cell? ⟨bR,3,none⟩=some (.slice rh 0 rp))/\Hid (Below wq.heap.size wq wc))
                  case first=>
                    refine wp_region_held_drew (S:=(fun W=>((W.cell? ⟨nb,0,none⟩=some (.int .i64 gt)/\W.cell? ⟨nb,1,none⟩=some (.int .i64 gn)/\W.cell? ⟨nb,2,none⟩=some (.int .i64 gk))/\W.cell? ⟨nb,3,none⟩=some (.slice ga gS.length gc)/\W.cell? ⟨nb,4,none⟩=some (.slice (some ⟨kb,ko,none⟩) gK.length gkc)/\W.cell? ⟨nb,5,none⟩=some (.slice gma gM.length gmc))/\W.cell? ⟨cb,co+j,none⟩=some (.int .i64 c)/\W.cell? ⟨bc,0,none⟩=some (.int .i64 mk)/\W.cell? ⟨bc,1,none⟩=some (.int .i64 ms)/\W.cell? ⟨bc,2,none⟩=some (.string (bstr mm)))) (by kernel_rfl) (HKP.out _ (Below.refl _ _).drew) (fun hHeld=>?_)
                    obtain⟨V,hV⟩: ∃V,V=wq.drew:=⟨_,rfl⟩
                    have HBR:Hid (Below wq.heap.size wq V):=hid (by rw[hV];exact(Below.refl _ _).drew)
                    rw[<-hV] at hHeld ⊢
                    clear hV
                    refine wpAnyH_take (i:=0) (v:=?_) rfl (by kernel_rfl) (by kernel_rfl) (by kernel_rfl) (fun _ _ _ h=>h) (Or.inl ⟨by rfl,?_⟩) (by assumption) ?_
                    rotate_left
                    · intro w hSw;(try dsimp only at hSw);go_simp<;>with_reducible rfl
                    try simp only[Act.put,getElem_toArray,getElem_cons_succ,getElem_cons_zero,setIfInBounds_toArray,set_cons_zero,set_cons_succ]
                    refine wpAnyH_take (i:=1) (v:=?_) rfl (by kernel_rfl) (by kernel_rfl) (by kernel_rfl) (fun _ _ _ h=>h) (Or.inl ⟨by rfl,?_⟩) (by assumption) ?_
                    rotate_left
                    · intro w hSw;(try dsimp only at hSw);go_simp<;>with_reducible rfl
                    try simp only[Act.put,getElem_toArray,getElem_cons_succ,getElem_cons_zero,setIfInBounds_toArray,set_cons_zero,set_cons_succ]
                    refine wpAnyH_take (i:=2) (v:=?_) rfl (by kernel_rfl) (by kernel_rfl) (by kernel_rfl) (fun _ _ _ h=>h) (Or.inl ⟨by rfl,?_⟩) (by assumption) ?_
                    rotate_left
                    · intro w hSw;(try dsimp only at hSw);go_simp<;>with_reducible rfl
                    try simp only[Act.put,getElem_toArray,getElem_cons_succ,getElem_cons_zero,setIfInBounds_toArray,set_cons_zero,set_cons_succ]
                    refine wpAnyH_take (i:=3) (v:=?_) rfl (by kernel_rfl) (by kernel_rfl) (by kernel_rfl) (fun _ _ _ h=>h) (Or.inl ⟨by rfl,?_⟩) (by assumption) ?_
                    rotate_left
                    · intro w hSw;(try dsimp only at hSw);go_simp<;>with_reducible rfl
                    try simp only[Act.put,getElem_toArray,getElem_cons_succ,getElem_cons_zero,setIfInBounds_toArray,set_cons_zero,set_cons_succ]
                    refine wpAnyH_take (i:=4) (v:=?_) rfl (by kernel_rfl) (by kernel_rfl) (by kernel_rfl) (fun _ _ _ h=>h) (Or.inl ⟨by rfl,?_⟩) (by assumption) ?_
                    rotate_left
                    · intro w hSw;(try dsimp only at hSw);go_simp<;>with_reducible rfl
                    try simp only[Act.put,getElem_toArray,getElem_cons_succ,getElem_cons_zero,setIfInBounds_toArray,set_cons_zero,set_cons_succ]
                    refine wpAnyH_take (i:=5) (v:=?_) rfl (by kernel_rfl) (by kernel_rfl) (by kernel_rfl) (fun _ _ _ h=>h) (Or.inl ⟨by rfl,?_⟩) (by assumption) ?_
                    rotate_left
                    · intro w hSw;(try dsimp only at hSw);go_simp<;>with_reducible rfl
                    try simp only[Act.put,getElem_toArray,getElem_cons_succ,getElem_cons_zero,setIfInBounds_toArray,set_cons_zero,set_cons_succ]
                    refine wpAnyH_take (i:=6) (v:=?_) rfl (by kernel_rfl) (by kernel_rfl) (by kernel_rfl) (fun _ _ _ h=>h) (Or.inl ⟨by rfl,?_⟩) (by assumption) ?_
                    rotate_left
                    · intro w hSw;(try dsimp only at hSw);go_simp<;>with_reducible rfl
                    try simp only[Act.put,getElem_toArray,getElem_cons_succ,getElem_cons_zero,setIfInBounds_toArray,set_cons_zero,set_cons_succ]
                    have HNC:Hid (Old V fun _=>True):=hid fun _ _=>trivial
                    have HNA:Hid (Old V fun _=>True):=hid fun _ _=>trivial
                    have HNR:Hid (Old V fun _=>True):=hid fun _ _=>trivial
                    all_goals
                      refine wpAnyH_ready (rs:= [7,12,13]) (by kernel_rfl) (by simp) ?_
                      refine AllReadyH.cons rfl (fun K hK=>?_) (AllReadyH.cons rfl (fun K hK=>?_) (AllReadyH.cons rfl (fun K hK=>?_) AllReadyH.nil))
                    all_goals
                      go_simp
                      first
                        | (go_at_call 23
                           refine(KA2.out _ HBR.out).mono ?_
                           rintro e V ⟨⟨tt,tn,tk,tS,ta,tc,tK,tka,tkc,tM,tma,tmc⟩,ra,rp,he,hv,hf,hr,hb⟩
                           try unfold stVal at he
                           try simp only[StC.sv,StC.kv,StC.mv] at he
                           try simp only[List.length_nil] at he
                           subst he
                           have HVT:=hid hv
                           have HFT:=hid (((HFQ.out.later HBR.out).later hb).trans (hf.lower (Nat.le_trans hszq HBR.out.size)))
                           clear hv hf hr
                           have HNC:Hid (Old V (fun W=>FromS HI W zeroC10 ⟨tt,tn,tk,tS,ta,tc,tK,tka,tkc,tM,tma,tmc⟩)):=hid fun W hw=>HFT.out.later hw
                           have HNA:=hid (HNA.out.later hb)
                           have HNR:=hid (HNR.out.later hb)
                           have HBR:=hid (step HBR.out hb)
                           clear hb
                           have mC:=trivial
                           refine hK.out _ _ (HKP.out _ HBR.out) (fun hHeld=>?_)
                           clear hK K
                           try simp only[Act.put,getElem_toArray,getElem_cons_succ,getElem_cons_zero,setIfInBounds_toArray,set_cons_zero,set_cons_succ]
                           refine wpAnyH_take (i:=8) (v:=?_) rfl (by kernel_rfl) (by kernel_rfl) (by kernel_rfl) (fun _ _ _ h=>h) (Or.inl ⟨by rfl,?_⟩) (by assumption) ?_
                           rotate_left
                           · intro w hSw;(try dsimp only at hSw);go_simp<;>with_reducible rfl
                           try simp only[Act.put,getElem_toArray,getElem_cons_succ,getElem_cons_zero,setIfInBounds_toArray,set_cons_zero,set_cons_succ]
                           refine wpAnyH_take (i:=9) (v:=?_) rfl (by kernel_rfl) (by kernel_rfl) (by kernel_rfl) (fun _ _ _ h=>h) (Or.inl ⟨by rfl,?_⟩) (by assumption) ?_
                           rotate_left
                           · intro w hSw;(try dsimp only at hSw);go_simp<;>with_reducible rfl
                           try simp only[Act.put,getElem_toArray,getElem_cons_succ,getElem_cons_zero,setIfInBounds_toArray,set_cons_zero,set_cons_succ]
                           refine wpAnyH_take (i:=10) (v:=?_) rfl (by kernel_rfl) (by kernel_rfl) (by kernel_rfl) (fun _ _ _ h=>h) (Or.inl ⟨by rfl,?_⟩) (by assumption) ?_
                           rotate_left
                           · intro w hSw;(try dsimp only at hSw);go_simp<;>with_reducible rfl
                           try simp only[Act.put,getElem_toArray,getElem_cons_succ,getElem_cons_zero,setIfInBounds_toArray,set_cons_zero,set_cons_succ]
                           refine wpAnyH_take (i:=11) (v:=?_) rfl (by kernel_rfl) (by kernel_rfl) (by kernel_rfl) (fun _ _ _ h=>h) (Or.inl ⟨by rfl,?_⟩) (by assumption) ?_
                           rotate_left
                           · intro w hSw;(try dsimp only at hSw);go_simp<;>with_reducible rfl
                           try simp only[Act.put,getElem_toArray,getElem_cons_succ,getElem_cons_zero,setIfInBounds_toArray,set_cons_zero,set_cons_succ])
                        | (obtain⟨V',hV'⟩: ∃V',V'=V.alloc (.cells #[.int .i64 0,.int .i64 0,.int .i64 0,.slice none 0 0,.slice none 0 0,.slice none 0 0] 28):=⟨_,rfl⟩
                           rw[<-hV']
                           have hb:Below V.heap.size V V':=(by rw[hV'];exact newAlloc _ _)
                           have hn:TBoxS V' V.heap.size:=(by rw[hV'];exact TBoxS.new V)
                           have hgebS:wq.heap.size<=V.heap.size:=HBR.out.size
                           obtain⟨bS,hbS⟩: ∃bS,V.heap.size=bS:=⟨_,rfl⟩
                           rw[hbS] at hn hgebS ⊢
                           have HNA:Hid (Old V' (fun W=>TBoxS W bS)):=hid fun W hw=>hn.later hw
                           have HNC:=hid (HNC.out.later hb)
                           have HNR:=hid (HNR.out.later hb)
                           have HBR:=hid (step HBR.out hb)
                           clear hV' hb hn hbS
                           obtain⟨V,rfl⟩: ∃V,V=V':=⟨_,rfl⟩
                           have mA:=trivial
                           refine hK.out _ _ (HKP.out _ HBR.out) (fun hHeld=>?_)
                           clear hK K
                           try simp only[Act.put,getElem_toArray,getElem_cons_succ,getElem_cons_zero,setIfInBounds_toArray,set_cons_zero,set_cons_succ])
                        | (obtain⟨V',hV'⟩: ∃V',V'=V.alloc (.cells #[.int .i64 0,.int .i64 0,.int .i64 0,.slice none 0 0] 44):=⟨_,rfl⟩
                           rw[<-hV']
                           have hb:Below V.heap.size V V':=(by rw[hV'];exact newAlloc _ _)
                           have hn:TBoxR V' V.heap.size:=(by rw[hV'];exact TBoxR.new V)
                           have hgebR:wq.heap.size<=V.heap.size:=HBR.out.size
                           obtain⟨bR,hbR⟩: ∃bR,V.heap.size=bR:=⟨_,rfl⟩
                           rw[hbR] at hn hgebR ⊢
                           have HNR:Hid (Old V' (fun W=>TBoxR W bR)):=hid fun W hw=>hn.later hw
                           have HNC:=hid (HNC.out.later hb)
                           have HNA:=hid (HNA.out.later hb)
                           have HBR:=hid (step HBR.out hb)
                           clear hV' hb hn hbR
                           obtain⟨V,rfl⟩: ∃V,V=V':=⟨_,rfl⟩
                           have mR:=trivial
                           refine hK.out _ _ (HKP.out _ HBR.out) (fun hHeld=>?_)
                           clear hK K
                           try simp only[Act.put,getElem_toArray,getElem_cons_succ,getElem_cons_zero,setIfInBounds_toArray,set_cons_zero,set_cons_succ])
                    all_goals
                      first
                        | (revert mA;intro mA;refine wpAnyH_ready (rs:= [7,13]) (by kernel_rfl) (by simp) ?_;refine AllReadyH.cons rfl (fun K hK=>?_) (AllReadyH.cons rfl (fun K hK=>?_) AllReadyH.nil))
                        | (revert mC;intro mC;refine wpAnyH_ready (rs:= [12,13]) (by kernel_rfl) (by simp) ?_;refine AllReadyH.cons rfl (fun K hK=>?_) (AllReadyH.cons rfl (fun K hK=>?_) AllReadyH.nil))
                        | (revert mR;intro mR;refine wpAnyH_ready (rs:= [7,12]) (by kernel_rfl) (by simp) ?_;refine AllReadyH.cons rfl (fun K hK=>?_) (AllReadyH.cons rfl (fun K hK=>?_) AllReadyH.nil))
                    all_goals
                      go_simp
                      first
                        | (go_at_call 23
                           refine(KA2.out _ HBR.out).mono ?_
                           rintro e V ⟨⟨tt,tn,tk,tS,ta,tc,tK,tka,tkc,tM,tma,tmc⟩,ra,rp,he,hv,hf,hr,hb⟩
                           try unfold stVal at he
                           try simp only[StC.sv,StC.kv,StC.mv] at he
                           try simp only[List.length_nil] at he
                           subst he
                           have HVT:=hid hv
                           have HFT:=hid (((HFQ.out.later HBR.out).later hb).trans (hf.lower (Nat.le_trans hszq HBR.out.size)))
                           clear hv hf hr
                           have HNC:Hid (Old V (fun W=>FromS HI W zeroC10 ⟨tt,tn,tk,tS,ta,tc,tK,tka,tkc,tM,tma,tmc⟩)):=hid fun W hw=>HFT.out.later hw
                           have HNA:=hid (HNA.out.later hb)
                           have HNR:=hid (HNR.out.later hb)
                           have HBR:=hid (step HBR.out hb)
                           clear hb
                           have mC:=trivial
                           refine hK.out _ _ (HKP.out _ HBR.out) (fun hHeld=>?_)
                           clear hK K
                           try simp only[Act.put,getElem_toArray,getElem_cons_succ,getElem_cons_zero,setIfInBounds_toArray,set_cons_zero,set_cons_succ]
                           refine wpAnyH_take (i:=8) (v:=?_) rfl (by kernel_rfl) (by kernel_rfl) (by kernel_rfl) (fun _ _ _ h=>h) (Or.inl ⟨by rfl,?_⟩) (by assumption) ?_
                           rotate_left
                           · intro w hSw;(try dsimp only at hSw);go_simp<;>with_reducible rfl
                           try simp only[Act.put,getElem_toArray,getElem_cons_succ,getElem_cons_zero,setIfInBounds_toArray,set_cons_zero,set_cons_succ]
                           refine wpAnyH_take (i:=9) (v:=?_) rfl (by kernel_rfl) (by kernel_rfl) (by kernel_rfl) (fun _ _ _ h=>h) (Or.inl ⟨by rfl,?_⟩) (by assumption) ?_
                           rotate_left
                           · intro w hSw;(try dsimp only at hSw);go_simp<;>with_reducible rfl
                           try simp only[Act.put,getElem_toArray,getElem_cons_succ,getElem_cons_zero,setIfInBounds_toArray,set_cons_zero,set_cons_succ]
                           refine wpAnyH_take (i:=10) (v:=?_) rfl (by kernel_rfl) (by kernel_rfl) (by kernel_rfl) (fun _ _ _ h=>h) (Or.inl ⟨by rfl,?_⟩) (by assumption) ?_
                           rotate_left
                           · intro w hSw;(try dsimp only at hSw);go_simp<;>with_reducible rfl
                           try simp only[Act.put,getElem_toArray,getElem_cons_succ,getElem_cons_zero,setIfInBounds_toArray,set_cons_zero,set_cons_succ]
                           refine wpAnyH_take (i:=11) (v:=?_) rfl (by kernel_rfl) (by kernel_rfl) (by kernel_rfl) (fun _ _ _ h=>h) (Or.inl ⟨by rfl,?_⟩) (by assumption) ?_
                           rotate_left
                           · intro w hSw;(try dsimp only at hSw);go_simp<;>with_reducible rfl
                           try simp only[Act.put,getElem_toArray,getElem_cons_succ,getElem_cons_zero,setIfInBounds_toArray,set_cons_zero,set_cons_succ])
                        | (obtain⟨V',hV'⟩: ∃V',V'=V.alloc (.cells #[.int .i64 0,.int .i64 0,.int .i64 0,.slice none 0 0,.slice none 0 0,.slice none 0 0] 28):=⟨_,rfl⟩
                           rw[<-hV']
                           have hb:Below V.heap.size V V':=(by rw[hV'];exact newAlloc _ _)
                           have hn:TBoxS V' V.heap.size:=(by rw[hV'];exact TBoxS.new V)
                           have hgebS:wq.heap.size<=V.heap.size:=HBR.out.size
                           obtain⟨bS,hbS⟩: ∃bS,V.heap.size=bS:=⟨_,rfl⟩
                           rw[hbS] at hn hgebS ⊢
                           have HNA:Hid (Old V' (fun W=>TBoxS W bS)):=hid fun W hw=>hn.later hw
                           have HNC:=hid (HNC.out.later hb)
                           have HNR:=hid (HNR.out.later hb)
                           have HBR:=hid (step HBR.out hb)
                           clear hV' hb hn hbS
                           obtain⟨V,rfl⟩: ∃V,V=V':=⟨_,rfl⟩
                           have mA:=trivial
                           refine hK.out _ _ (HKP.out _ HBR.out) (fun hHeld=>?_)
                           clear hK K
                           try simp only[Act.put,getElem_toArray,getElem_cons_succ,getElem_cons_zero,setIfInBounds_toArray,set_cons_zero,set_cons_succ])
                        | (obtain⟨V',hV'⟩: ∃V',V'=V.alloc (.cells #[.int .i64 0,.int .i64 0,.int .i64 0,.slice none 0 0] 44):=⟨_,rfl⟩
                           rw[<-hV']
                           have hb:Below V.heap.size V V':=(by rw[hV'];exact newAlloc _ _)
                           have hn:TBoxR V' V.heap.size:=(by rw[hV'];exact TBoxR.new V)
                           have hgebR:wq.heap.size<=V.heap.size:=HBR.out.size
                           obtain⟨bR,hbR⟩: ∃bR,V.heap.size=bR:=⟨_,rfl⟩
                           rw[hbR] at hn hgebR ⊢
                           have HNR:Hid (Old V' (fun W=>TBoxR W bR)):=hid fun W hw=>hn.later hw
                           have HNC:=hid (HNC.out.later hb)
                           have HNA:=hid (HNA.out.later hb)
                           have HBR:=hid (step HBR.out hb)
                           clear hV' hb hn hbR
                           obtain⟨V,rfl⟩: ∃V,V=V':=⟨_,rfl⟩
                           have mR:=trivial
                           refine hK.out _ _ (HKP.out _ HBR.out) (fun hHeld=>?_)
                           clear hK K
                           try simp only[Act.put,getElem_toArray,getElem_cons_succ,getElem_cons_zero,setIfInBounds_toArray,set_cons_zero,set_cons_succ])
                    all_goals
                      first
                        | (revert mA;intro mA;revert mC;intro mC;refine wpAnyH_ready (rs:= [13]) (by kernel_rfl) (by simp) ?_;refine AllReadyH.cons rfl (fun K hK=>?_) AllReadyH.nil)
                        | (revert mA;intro mA;revert mR;intro mR;refine wpAnyH_ready (rs:= [7]) (by kernel_rfl) (by simp) ?_;refine AllReadyH.cons rfl (fun K hK=>?_) AllReadyH.nil)
                        | (revert mC;intro mC;revert mR;intro mR;refine wpAnyH_ready (rs:= [12]) (by kernel_rfl) (by simp) ?_;refine AllReadyH.cons rfl (fun K hK=>?_) AllReadyH.nil)
                    all_goals
                      go_simp
                      first
                        | (go_at_call 23
                           refine(KA2.out _ HBR.out).mono ?_
                           rintro e V ⟨⟨tt,tn,tk,tS,ta,tc,tK,tka,tkc,tM,tma,tmc⟩,ra,rp,he,hv,hf,hr,hb⟩
                           try unfold stVal at he
                           try simp only[StC.sv,StC.kv,StC.mv] at he
                           try simp only[List.length_nil] at he
                           subst he
                           have HVT:=hid hv
                           have HFT:=hid (((HFQ.out.later HBR.out).later hb).trans (hf.lower (Nat.le_trans hszq HBR.out.size)))
                           clear hv hf hr
                           have HNC:Hid (Old V (fun W=>FromS HI W zeroC10 ⟨tt,tn,tk,tS,ta,tc,tK,tka,tkc,tM,tma,tmc⟩)):=hid fun W hw=>HFT.out.later hw
                           have HNA:=hid (HNA.out.later hb)
                           have HNR:=hid (HNR.out.later hb)
                           have HBR:=hid (step HBR.out hb)
                           clear hb
                           have mC:=trivial
                           refine hK.out _ _ (HKP.out _ HBR.out) (fun hHeld=>?_)
                           clear hK K
                           try simp only[Act.put,getElem_toArray,getElem_cons_succ,getElem_cons_zero,setIfInBounds_toArray,set_cons_zero,set_cons_succ]
                           refine wpAnyH_take (i:=8) (v:=?_) rfl (by kernel_rfl) (by kernel_rfl) (by kernel_rfl) (fun _ _ _ h=>h) (Or.inl ⟨by rfl,?_⟩) (by assumption) ?_
                           rotate_left
                           · intro w hSw;(try dsimp only at hSw);go_simp<;>with_reducible rfl
                           try simp only[Act.put,getElem_toArray,getElem_cons_succ,getElem_cons_zero,setIfInBounds_toArray,set_cons_zero,set_cons_succ]
                           refine wpAnyH_take (i:=9) (v:=?_) rfl (by kernel_rfl) (by kernel_rfl) (by kernel_rfl) (fun _ _ _ h=>h) (Or.inl ⟨by rfl,?_⟩) (by assumption) ?_
                           rotate_left
                           · intro w hSw;(try dsimp only at hSw);go_simp<;>with_reducible rfl
                           try simp only[Act.put,getElem_toArray,getElem_cons_succ,getElem_cons_zero,setIfInBounds_toArray,set_cons_zero,set_cons_succ]
                           refine wpAnyH_take (i:=10) (v:=?_) rfl (by kernel_rfl) (by kernel_rfl) (by kernel_rfl) (fun _ _ _ h=>h) (Or.inl ⟨by rfl,?_⟩) (by assumption) ?_
                           rotate_left
                           · intro w hSw;(try dsimp only at hSw);go_simp<;>with_reducible rfl
                           try simp only[Act.put,getElem_toArray,getElem_cons_succ,getElem_cons_zero,setIfInBounds_toArray,set_cons_zero,set_cons_succ]
                           refine wpAnyH_take (i:=11) (v:=?_) rfl (by kernel_rfl) (by kernel_rfl) (by kernel_rfl) (fun _ _ _ h=>h) (Or.inl ⟨by rfl,?_⟩) (by assumption) ?_
                           rotate_left
                           · intro w hSw;(try dsimp only at hSw);go_simp<;>with_reducible rfl
                           try simp only[Act.put,getElem_toArray,getElem_cons_succ,getElem_cons_zero,setIfInBounds_toArray,set_cons_zero,set_cons_succ])
                        | (obtain⟨V',hV'⟩: ∃V',V'=V.alloc (.cells #[.int .i64 0,.int .i64 0,.int .i64 0,.slice none 0 0,.slice none 0 0,.slice none 0 0] 28):=⟨_,rfl⟩
                           rw[<-hV']
                           have hb:Below V.heap.size V V':=(by rw[hV'];exact newAlloc _ _)
                           have hn:TBoxS V' V.heap.size:=(by rw[hV'];exact TBoxS.new V)
                           have hgebS:wq.heap.size<=V.heap.size:=HBR.out.size
                           obtain⟨bS,hbS⟩: ∃bS,V.heap.size=bS:=⟨_,rfl⟩
                           rw[hbS] at hn hgebS ⊢
                           have HNA:Hid (Old V' (fun W=>TBoxS W bS)):=hid fun W hw=>hn.later hw
                           have HNC:=hid (HNC.out.later hb)
                           have HNR:=hid (HNR.out.later hb)
                           have HBR:=hid (step HBR.out hb)
                           clear hV' hb hn hbS
                           obtain⟨V,rfl⟩: ∃V,V=V':=⟨_,rfl⟩
                           have mA:=trivial
                           refine hK.out _ _ (HKP.out _ HBR.out) (fun hHeld=>?_)
                           clear hK K
                           try simp only[Act.put,getElem_toArray,getElem_cons_succ,getElem_cons_zero,setIfInBounds_toArray,set_cons_zero,set_cons_succ])
                        | (obtain⟨V',hV'⟩: ∃V',V'=V.alloc (.cells #[.int .i64 0,.int .i64 0,.int .i64 0,.slice none 0 0] 44):=⟨_,rfl⟩
                           rw[<-hV']
                           have hb:Below V.heap.size V V':=(by rw[hV'];exact newAlloc _ _)
                           have hn:TBoxR V' V.heap.size:=(by rw[hV'];exact TBoxR.new V)
                           have hgebR:wq.heap.size<=V.heap.size:=HBR.out.size
                           obtain⟨bR,hbR⟩: ∃bR,V.heap.size=bR:=⟨_,rfl⟩
                           rw[hbR] at hn hgebR ⊢
                           have HNR:Hid (Old V' (fun W=>TBoxR W bR)):=hid fun W hw=>hn.later hw
                           have HNC:=hid (HNC.out.later hb)
                           have HNA:=hid (HNA.out.later hb)
                           have HBR:=hid (step HBR.out hb)
                           clear hV' hb hn hbR
                           obtain⟨V,rfl⟩: ∃V,V=V':=⟨_,rfl⟩
                           have mR:=trivial
                           refine hK.out _ _ (HKP.out _ HBR.out) (fun hHeld=>?_)
                           clear hK K
                           try simp only[Act.put,getElem_toArray,getElem_cons_succ,getElem_cons_zero,setIfInBounds_toArray,set_cons_zero,set_cons_succ])
                    all_goals
                      have HSA:=hid HNA.out.now
                      have HRA:=hid HNR.out.now
                      have HFA:=hid HNC.out.now
                      have hne:bS≠bR:=HSA.out.t.ne HRA.out.t (by decide)
                      have hne2:bR≠bS:=fun q=>hne q.symm
                      obtain⟨x0,x1,x2,x3,x4,x5,xf⟩:=HSA.out.s
                      simp only[zeroC10,StC.sv,StC.kv,StC.mv,List.length_nil] at x0 x1 x2 x3 x4 x5
                      obtain⟨⟨y0,y1,y2,y3⟩,yf⟩:=HRA.out.s _ (Below.refl _ _)
                    all_goals
                      refine wpAnyH_ready (rs:= [14]) (by kernel_rfl) (by simp) ?_
                      refine AllReadyH.cons rfl (fun K hK=>?_) AllReadyH.nil
                      go_simp
                      refine hK.out _ _ (HKP.out _ (below_set6 HBR.out bS hgebS (.int .i64 tt) (.int .i64 tn) (.int .i64 tk) (.slice ta tS.length tc) (.slice tka tK.length tkc) (.slice tma tM.length tmc))) (fun hHeld=>?_)
                      clear hK K
                      try simp only[Act.put,getElem_toArray,getElem_cons_succ,getElem_cons_zero,setIfInBounds_toArray,set_cons_zero,set_cons_succ]
                    all_goals
                      refine wpAnyH_ready (rs:= [15]) (by kernel_rfl) (by simp) ?_
                      refine AllReadyH.cons rfl (fun K hK=>?_) AllReadyH.nil
                      go_simp
                      refine hK.out _ _ (HKP.out _ (set4k (below_set6 HBR.out bS hgebS (.int .i64 tt) (.int .i64 tn) (.int .i64 tk) (.slice ta tS.length tc) (.slice tka tK.length tkc) (.slice tma tM.length tmc)) bR hgebR (.int .i64 0) (.int .i64 rs') (.int .i64 ra') (.slice ra 0 rp))) (fun hHeld=>?_)
                      clear hK K
                      try simp only[Act.put,getElem_toArray,getElem_cons_succ,getElem_cons_zero,setIfInBounds_toArray,set_cons_zero,set_cons_succ]
                    all_goals
                      refine wpAnyH_take (i:=16) (v:=?_) rfl (by kernel_rfl) (by kernel_rfl) (by kernel_rfl) (fun _ _ _ h=>h) (Or.inl ⟨by rfl,?_⟩) (by assumption) ?_
                      rotate_left
                      · intro w hSw;(try dsimp only at hSw);go_simp<;>with_reducible rfl
                      try simp only[Act.put,getElem_toArray,getElem_cons_succ,getElem_cons_zero,setIfInBounds_toArray,set_cons_zero,set_cons_succ]
                    all_goals refine wpAnyH_done (by kernel_rfl) ?_ _
                    all_goals
                      have HBE:=hid (set4k (below_set6 HBR.out bS hgebS (.int .i64 tt) (.int .i64 tn) (.int .i64 tk) (.slice ta tS.length tc) (.slice tka tK.length tkc) (.slice tma tM.length tmc)) bR hgebR (.int .i64 0) (.int .i64 rs') (.int .i64 ra') (.slice ra 0 rp))
                      have HUE:=hid ((HSA.out.s.put tt tn tk tS ta tc tK tka tkc tM tma tmc).other4 hne2 (.int .i64 0) (.int .i64 rs') (.int .i64 ra') (.slice ra 0 rp))
                      have HFE:=hid ((HFA.out.tag6 HSA.out.t notRow_state (.int .i64 tt) (.int .i64 tn) (.int .i64 tk) (.slice ta tS.length tc) (.slice tka tK.length tkc) (.slice tma tM.length tmc)).tag4 (HRA.out.t.set6 bS (.int .i64 tt) (.int .i64 tn) (.int .i64 tk) (.slice ta tS.length tc) (.slice tka tK.length tkc) (.slice tma tM.length tmc)) notRow_reply (.int .i64 0) (.int .i64 rs') (.int .i64 ra') (.slice ra 0 rp))
                      have HRE:=hid (boxR_put (HRA.out.s.other6 hne (.int .i64 tt) (.int .i64 tn) (.int .i64 tk) (.slice ta tS.length tc) (.slice tka tK.length tkc) (.slice tma tM.length tmc)) 0 rs' ra' (.slice ra 0 rp))
                      have hszE:HI<=V.heap.size:=Nat.le_trans hszq HBR.out.size
                      clear x0 x1 x2 x3 x4 x5 xf y0 y1 y2 y3 yf HNA HNR HNC HSA HRA HFA hHeld
                      go_wp2
                      go_meet
                      case rel=>exact⟨bS,bR,⟨tt,tn,tk,tS,ta,tc,tK,tka,tkc,tM,tma,tmc⟩,ra,rp,rfl,rfl,rfl,by simpa using hszE,HUE,HFE,HVT,HRE,HBE⟩
                  case rest=>
                    obtain⟨bS,bR,⟨tt,tn,tk,tS,ta,tc,tK,tka,tkc,tM,tma,tmc⟩,ra,rp,rfl,rfl,rfl,hszT,HXT,HFT,HVT,HRT,HBT⟩:=hcut
                    obtain⟨wt,rfl⟩: ∃wt,wt=wc:=⟨_,rfl⟩
                    obtain⟨r0,r3⟩:=HRT.out
                    obtain⟨d0,d1,d2,d3,d4,d5,df⟩:=HXT.out
                    simp only[StC.sv,StC.kv,StC.mv] at d0 d1 d2 d3 d4 d5
                    have HXN:=hid (HXQ.out.later HBT.out)
                    obtain⟨c0,c1,c2,c3,c4,c5,cf⟩:=HXN.out
                    simp only[StC.sv,StC.kv,StC.mv] at c0 c1 c2 c3 c4 c5
                    have HXE2:=hid (HXN.out.put tt tn tk tS ta tc tK tka tkc tM tma tmc)
                    have HFE2:=hid (HFT.out.set6 hlt1 (.int .i64 tt) (.int .i64 tn) (.int .i64 tk) (.slice ta tS.length tc) (.slice tka tK.length tkc) (.slice tma tM.length tmc))
                    have HBE3:=hid (below_set6 (step HB.out (step HBQ.out HBT.out)) nb (Nat.le_of_eq HNB.out) (.int .i64 tt) (.int .i64 tn) (.int .i64 tk) (.slice ta tS.length tc) (.slice tka tK.length tkc) (.slice tma tM.length tmc))
                    have HOE2:=hid (own_set6z (Rw.own_below HO.out (step HBQ.out HBT.out)) hlt1 (.int .i64 tt) (.int .i64 tn) (.int .i64 tk) (.slice ta tS.length tc) (.slice tka tK.length tkc) (.slice tma tM.length tmc))
                    have HGE:Hid (Goes nm C (j+1) (StC.v ⟨tt,tn,tk,tS,ta,tc,tK,tka,tkc,tM,tma,tmc⟩)):=hid (by rw[HVT.out];exact HGO2.out)
                    clear HKP KA2 HME HXT HFT HRT HRD HQ
                    go_wp2
                    go_roundw
                    case rel=>exact⟨j+1,⟨tt,tn,tk,tS,ta,tc,tK,tka,tkc,tM,tma,tmc⟩,by omega,by go_num,by go_num,by simpa using hszT,HXE2,HGE,HOE2,HFE2,HBE3⟩
                    case measure=>simp [intOf];omega
          · obtain rfl:j=CN:=by omega
            have hloc:=HG.out.locks
            rw[<-HCN.out,List.drop_length] at hloc
            have KL:Calls Tryz.prog 39 #[.slice gka gK.length gkc,.string (bstr nm)] wr (fun e w'=>e= .returned (.int .i64 (idxI (isNm nm) (vals gK)))/\wr=w'):=(FindLock_any (.slice gka gK.length gkc) gK nm wr HRD.out.k.row).mono fun e w' q=>⟨q.1,q.2.symm⟩
            rw[show vals gK= [] from hloc,idx_none1] at KL
            have hK0:gK.length=0:=by have:=congrArg List.length (show vals gK= [] from hloc);rw[vals_length] at this;exact this
            rw[hK0] at KL c4
            have KL:=hid KL
            have e3:decide ((j:Int)<(j:Int))=false:=decide_eq_false (by omega)
            clear hK0 hloc HRD HG
            go_wp2_with (first | (go_at_call 39;refine KL.out.mono ?_;rintro e w8 ⟨rfl,rfl⟩) | (go_at_call 15;refine(C0.out _).mono ?_;rintro e w9 ⟨rfl,hb9⟩))
            go_ret
            exact⟨rfl,step HB.out hb9⟩
end Cm
end Go.Proofs.YthpknaieimlmnaaGreat
