/- Texts laid together by program. -/
import Derived.Test.YtbpmfjjbfiiiaaaQS29
/- led of layer 17. -/
set_option linter.unusedVariables false
set_option maxRecDepth 8000
set_option linter.unusedSimpArgs false
namespace Go.Proofs.Ytbpmfjjbfiiiaaa
open Lib (hid)
open Go.RowKit
namespace Ld
open Cm Ac Pl Vw

def ledS (view:Int) (p q:PromV):LedV:=takeF (markF (markF (askL 3 view) p) q)
theorem own_did {w w':World} {g m base n:Nat} {s s':LedV} {pv bv v:Value} {e:TypeId} {sz:Nat} {xs:List Value} (hd:Chg (LS g pv bv) w w') (k:HasL w g m s pv bv) (h:w.ownsRow base e sz v n xs) (n1:e≠79) (n2:e≠59) (n3:e≠42):w'.ownsRow base e sz v n xs:=
 Rw.own_keep h fun i hi=>hd.block i (Rw.own_lt h i hi).2 (by
  obtain⟨cs,hc⟩:=own_rowP h i hi
  exact k.ty hc n1 n2 n3)
theorem OwnV.did {w w':World} {g m base:Nat} {s:LedV} {pv bv v:Value} {L:List VoteC} (hd:Chg (LS g pv bv) w w') (k:HasL w g m s pv bv) (h:OwnV base w v L):OwnV base w' v L:=
 ⟨own_did (s':=s) hd k h.row (by decide) (by decide) (by decide),fun x hx=>own_did (s':=s) hd k (h.reqs x hx) (by decide) (by decide) (by decide)⟩
theorem LS.next_ {g H:Nat} {pv bv pv' bv':Value} (h1:Nxt pv pv' H) (h2:Nxt bv bv' H) {b:Nat} (hb:b<H) (hn: ¬LS g pv bv b): ¬LS g pv' bv' b:=by
 rintro (q | q | q)
 ·exact hn (.inl q)
 ·rcases h1 b q with r | r
  ·exact hn (.inr (.inl r))
  ·omega
 ·rcases h2 b q with r | r
  ·exact hn (.inr (.inr r))
  ·omega
theorem hear_one {view:Int} {p:PromV} (hm:mayP p=true) (hw:p.who=0):hearF (askL 3 view) p=(markF (askL 3 view) p,false,0):=
 hear_few rfl hm (by rw[hw];show(0:Int)<3;decide) (by rw[hw];rfl) (by show((0+1:Nat):Int)<quorumF 3;decide)
theorem hear_two {view:Int} {p q:PromV} (hm:mayP q=true) (hp:p.who=0) (hw:q.who=2):hearF (markF (askL 3 view) p) q=(ledS view p q,true,0):=
 hear_take rfl hm (by rw[hw];show(2:Int)<3;decide) (by rw[hw];unfold markF;rw[hp];rfl) (by show ¬((1+1:Nat):Int)<quorumF 3;decide)
def LedG (view:Int) (p q:PromV) (w:World) (e:Ending) (w':World):Prop:=
 ∃g pv bv va vc,∃Lb:List BatC,e= .returned (.tuple #[.pointer (some ⟨g,0,none⟩),planVal (makeF [p,q]).1 (.slice va Lb.length vc)])/\valsB Lb=(makeF [p,q]).1.bats /\OwnBs w.heap.size w' (.slice va Lb.length vc) Lb/\
  (∀k,(Value.slice va Lb.length vc).ownBlock =some k-> ¬LS g pv bv k)/\HasL w' g g (ledS view p q) pv bv/\Below w.heap.size w w'/\w.heap.size<=g
set_option maxHeartbeats 16000000 in
theorem led_any (view:Int) (ta tb:ToldC) (w:World) (hv:0<=view/\view<256) (ha:ToldOk w ta) (hb:ToldOk w tb):
  Calls Try.prog 7 #[.int .u8 view,toldV ta,toldV tb] w (LedG view (promN 0 ta.val) (promN 2 tb.val) w):=by
 have HMA:Hid (mayP (promN 0 ta.val)=true):=hid (promN_may (k:=0) (by omega) (told_okC ha))
 have HMB:Hid (mayP (promN 2 tb.val)=true):=hid (promN_may (k:=2) (by omega) (told_okC hb))
 have CPA:=hid (fun W (h:Below w.heap.size w W)=>Promise_any 0 ta.done ta.view ta.slot ta.time ta.u ta.votes W (ha.rd.later h) ha.d ha.v ha.s ha.t)
 have CPB:=hid (fun W (h:Below w.heap.size w W)=>Promise_any 2 tb.done tb.view tb.slot tb.time tb.u tb.votes W (hb.rd.later h) hb.d hb.v hb.s hb.t)
 rw[show(⟨ta.done,ta.view,ta.slot,ta.time,valsN ta.votes⟩:ToldV)=ta.val from rfl] at CPA
 rw[show(⟨tb.done,tb.view,tb.slot,tb.time,valsN tb.votes⟩:ToldV)=tb.val from rfl] at CPB
 have HWA:Hid ((promN 0 ta.val).who =0):=hid rfl
 have HWB:Hid ((promN 2 tb.val).who =2):=hid rfl
 generalize promN 0 ta.val=PA at CPA HMA HWA ⊢
 generalize promN 2 tb.val=PQ at CPB HMB HWB ⊢
 clear ha hb
 obtain⟨ad,aw,as_,am,al,aa,ac⟩:=ta
 obtain⟨bd,bw,bs,bm,bl,ba,bc⟩:=tb
 unfold ToldC.u at CPA CPB
 unfold toldV ToldC.u
 dsimp only at CPA CPB ⊢
 generalize al.length=an at CPA ⊢
 generalize bl.length=bn at CPB ⊢
 have hb3:=stepAlloc (stepAlloc (newAlloc w (.cells #[.int .u8 ad,.int .u8 aw,.int .u8 as_,.int .u8 am,.slice aa an ac] 24)) (.cells #[.int .u8 bd,.int .u8 bw,.int .u8 bs,.int .u8 bm,.slice ba bn bc] 24)) (.cells #[.int .i64 0,.int .i64 0,.int .i64 0,.int .i64 0,.slice none 0 0,.int .i64 0,.int .i64 0,.int .i64 0] 31)
 have ka:=cells_later (cells_later (alloc_atB w (.cells #[.int .u8 ad,.int .u8 aw,.int .u8 as_,.int .u8 am,.slice aa an ac] 24) _ rfl) (newAlloc _ (.cells #[.int .u8 bd,.int .u8 bw,.int .u8 bs,.int .u8 bm,.slice ba bn bc] 24))) (newAlloc _ (.cells #[.int .i64 0,.int .i64 0,.int .i64 0,.int .i64 0,.slice none 0 0,.int .i64 0,.int .i64 0,.int .i64 0] 31))
 have kb:=cells_later (alloc_atB (w.alloc (.cells #[.int .u8 ad,.int .u8 aw,.int .u8 as_,.int .u8 am,.slice aa an ac] 24)) (.cells #[.int .u8 bd,.int .u8 bw,.int .u8 bs,.int .u8 bm,.slice ba bn bc] 24) (w.heap.size+1) (by simp)) (newAlloc _ (.cells #[.int .i64 0,.int .i64 0,.int .i64 0,.int .i64 0,.slice none 0 0,.int .i64 0,.int .i64 0,.int .i64 0] 31))
 have kp:=alloc_atB ((w.alloc (.cells #[.int .u8 ad,.int .u8 aw,.int .u8 as_,.int .u8 am,.slice aa an ac] 24)).alloc (.cells #[.int .u8 bd,.int .u8 bw,.int .u8 bs,.int .u8 bm,.slice ba bn bc] 24)) (.cells #[.int .i64 0,.int .i64 0,.int .i64 0,.int .i64 0,.slice none 0 0,.int .i64 0,.int .i64 0,.int .i64 0] 31) (w.heap.size+1+1) (by simp)
 have hs3:(((w.alloc (.cells #[.int .u8 ad,.int .u8 aw,.int .u8 as_,.int .u8 am,.slice aa an ac] 24)).alloc (.cells #[.int .u8 bd,.int .u8 bw,.int .u8 bs,.int .u8 bm,.slice ba bn bc] 24)).alloc (.cells #[.int .i64 0,.int .i64 0,.int .i64 0,.int .i64 0,.slice none 0 0,.int .i64 0,.int .i64 0,.int .i64 0] 31)).heap.size =w.heap.size+3:=by simp
 go_enter Try.func7,Try.ntmps7
 go_upto_region 1 with fail
 generalize ((w.alloc (.cells #[.int .u8 ad,.int .u8 aw,.int .u8 as_,.int .u8 am,.slice aa an ac] 24)).alloc (.cells #[.int .u8 bd,.int .u8 bw,.int .u8 bs,.int .u8 bm,.slice ba bn bc] 24)).alloc (.cells #[.int .i64 0,.int .i64 0,.int .i64 0,.int .i64 0,.slice none 0 0,.int .i64 0,.int .i64 0,.int .i64 0] 31)=W3 at hb3 ka kb kp hs3 ⊢
 have HB3:=hid hb3
 have HA3:=hid ka
 have HB3':=hid kb
 have HP3:=hid kp
 have HS3:=hid hs3
 clear hb3 ka kb kp hs3
 have CN:=hid (LNew_yes (n:=3) rfl W3)
 go_upto_region 2 with (go_at_call 17;refine CN.out.mono ?_;rintro e w3 ⟨rfl,h3,hb3⟩;have H3:=hid h3;have HG3:=hid hb3;clear h3 hb3)
 clear CN
 obtain⟨g,hg⟩: ∃g,W3.heap.size=g:=⟨_,rfl⟩
 rw[hg] at H3 HG3 ⊢
 have HGE:=hid (show g=w.heap.size+3 by rw[<-hg];exact HS3.out)
 have HGE2:=hid hg
 clear hg HS3
 have hv1:highF view 0=true:=by unfold highF;simp;omega
 have CB:=hid (fun W pv bv (h:HasL W g g (idleL 3 0) pv bv)=>LBegin_any g g (idleL 3 0) view pv bv W h)
 unfold BeginL beginF at CB
 rw[hv1] at CB
 simp only[if_true] at CB
 rw[show(idleL 3 0).n =3 from rfl] at CB
 have ewv:IntKind.i64.wrap view=view:=by rw[IntKind.wrap_i64];omega
 clear hv1 hv
 go_upto_region 4 with (go_at_call 19;refine(CB.out _ _ _ H3.out).mono ?_;rintro e w4 ⟨rfl,hd⟩;have HB4:=hid (hd.below H3.out (show Below g W3 w3 from HG3.out) (Nat.le_refl _));obtain⟨pv4,bv4,h4, -⟩:=hd;have H4:=hid h4;clear h4)
 clear CB ewv H3 HG3
 have key: ∀W,Below g W3 W->Below w.heap.size w W:=fun W h=>HB3.out.trans (h.mono (by have:=HGE.out;omega))
 have HKEY:=hid key
 have keyA: ∀W,Below g W3 W->W.heap[w.heap.size]?=some (.cells #[.int .u8 ad,.int .u8 aw,.int .u8 as_,.int .u8 am,.slice aa an ac] 24):=fun W h=>(h.block _ (by have:=HGE.out;omega)).trans HA3.out
 have keyB: ∀W,Below g W3 W->W.heap[w.heap.size+1]?=some (.cells #[.int .u8 bd,.int .u8 bw,.int .u8 bs,.int .u8 bm,.slice ba bn bc] 24):=fun W h=>(h.block _ (by have:=HGE.out;omega)).trans HB3'.out
 have keyP: ∀W,Below g W3 W->W.heap[w.heap.size+1+1]?=some (.cells #[.int .i64 0,.int .i64 0,.int .i64 0,.int .i64 0,.slice none 0 0,.int .i64 0,.int .i64 0,.int .i64 0] 31):=fun W h=>(h.block _ (by have:=HGE.out;omega)).trans HP3.out
 have HKA:=hid keyA
 have HKB:=hid keyB
 have HKP:=hid keyP
 clear key keyA keyB keyP HA3 HB3' HP3
 have hk:=HKA.out w4 HB4.out
 have x0:=cell_at hk 0
 have x1:=cell_at hk 1
 have x2:=cell_at hk 2
 have x3:=cell_at hk 3
 have x4:=cell_at hk 4
 simp at x0 x1 x2 x3 x4
 clear hk
 go_upto_region 5 with (go_at_call 20;refine(CPA.out _ (HKEY.out _ HB4.out)).mono ?_;rintro e w5 ⟨⟨pw,pd,pv,ps,pt,pl,pa,pc⟩,rfl,hpv,hpo,hb5⟩;unfold promVal PromC.u;dsimp only;have HPV:=hid hpv;have HPO:=hid (show OwnV w.heap.size w5 (.slice pa pl.length pc) pl from hpo.lower (HKEY.out _ HB4.out).size);have HB5:=hid (HB4.out.trans (hb5.mono (by have:=HB4.out.size;have:=HGE2.out;omega)));have H5:=hid (H4.out.later hb5);clear hpv hpo hb5 x0 x1 x2 x3 x4)
 have hb5:=newAlloc w5 (.cells #[.int .i64 pw,.int .i64 pd,.int .i64 pv,.int .i64 ps,.int .i64 pt,.slice pa pl.length pc] 59)
 have HQ9:=hid (alloc_atB w5 (.cells #[.int .i64 pw,.int .i64 pd,.int .i64 pv,.int .i64 ps,.int .i64 pt,.slice pa pl.length pc] 59) _ rfl)
 have HB5':=hid (HB5.out.trans (hb5.mono (by have:=HB5.out.size;have:=HGE2.out;omega)))
 have H5':=hid (H5.out.later hb5)
 have HPO5:=hid (HPO.out.later hb5)
 have NB9:Hid (¬LS g pv4 bv4 w5.heap.size):=hid (fun q=>by have:=H5.out.ls_lt _ q;omega)
 have HLT9:Hid (w5.heap.size<(w5.alloc (.cells #[.int .i64 pw,.int .i64 pd,.int .i64 pv,.int .i64 ps,.int .i64 pt,.slice pa pl.length pc] 59)).heap.size):=hid (by simp)
 generalize w5.alloc (.cells #[.int .i64 pw,.int .i64 pd,.int .i64 pv,.int .i64 ps,.int .i64 pt,.slice pa pl.length pc] 59)=W5 at HQ9 HB5' H5' HPO5 HLT9 ⊢
 generalize w5.heap.size=q9 at HQ9 NB9 HLT9 ⊢
 clear hb5 HB5 H5 HPO
 have hk:=HKB.out W5 HB5'.out
 have x0:=cell_at hk 0
 have x1:=cell_at hk 1
 have x2:=cell_at hk 2
 have x3:=cell_at hk 3
 have x4:=cell_at hk 4
 simp at x0 x1 x2 x3 x4
 clear hk
 go_upto_region 6 with (go_at_call 20;refine(CPB.out _ (HKEY.out _ HB5'.out)).mono ?_;rintro e w6 ⟨⟨qw,qd,qv,qs,qt,ql,qa,qc⟩,rfl,hpv,hpo,hb6⟩;unfold promVal PromC.u;dsimp only;have HQV:=hid hpv;have HQO:=hid (show OwnV w.heap.size w6 (.slice qa ql.length qc) ql from hpo.lower (HKEY.out _ HB5'.out).size);have HB6:=hid (HB5'.out.trans (hb6.mono (by have:=HB5'.out.size;have:=HGE2.out;omega)));have H6:=hid (H5'.out.later hb6);have HPO6:=hid (HPO5.out.later hb6);have HQ96:=hid (cells_later HQ9.out hb6);have HLT6:Hid (q9<w6.heap.size):=hid (Nat.lt_of_lt_of_le HLT9.out hb6.size);clear hpv hpo hb6 x0 x1 x2 x3 x4)
 have hb6:=newAlloc w6 (.cells #[.int .i64 qw,.int .i64 qd,.int .i64 qv,.int .i64 qs,.int .i64 qt,.slice qa ql.length qc] 59)
 have HQX:=hid (alloc_atB w6 (.cells #[.int .i64 qw,.int .i64 qd,.int .i64 qv,.int .i64 qs,.int .i64 qt,.slice qa ql.length qc] 59) _ rfl)
 have HB6':=hid (HB6.out.trans (hb6.mono (by have:=HB6.out.size;have:=HGE2.out;omega)))
 have H6':=hid (H6.out.later hb6)
 have HPO6':=hid (HPO6.out.later hb6)
 have HQO6':=hid (HQO.out.later hb6)
 have HQ96':=hid (cells_later HQ96.out hb6)
 have NBX:Hid (¬LS g pv4 bv4 w6.heap.size):=hid (fun q=>by have:=H6.out.ls_lt _ q;omega)
 have HLTX:Hid (w6.heap.size<(w6.alloc (.cells #[.int .i64 qw,.int .i64 qd,.int .i64 qv,.int .i64 qs,.int .i64 qt,.slice qa ql.length qc] 59)).heap.size /\q9<(w6.alloc (.cells #[.int .i64 qw,.int .i64 qd,.int .i64 qv,.int .i64 qs,.int .i64 qt,.slice qa ql.length qc] 59)).heap.size):=hid (by have:=HLT6.out;simp;omega)
 generalize w6.alloc (.cells #[.int .i64 qw,.int .i64 qd,.int .i64 qv,.int .i64 qs,.int .i64 qt,.slice qa ql.length qc] 59)=W6 at HQX HB6' H6' HPO6' HQO6' HQ96' HLTX ⊢
 generalize w6.heap.size=qx at HQX NBX HLTX ⊢
 clear hb6 HB6 H6 HPO6 HQO HQ96 HLT6 HLT9 HPO5 HQ9 HB5' H5'
 have y0:=cell_at HQ96'.out 0
 have y1:=cell_at HQ96'.out 1
 have y2:=cell_at HQ96'.out 2
 have y3:=cell_at HQ96'.out 3
 have y4:=cell_at HQ96'.out 4
 have y5:=cell_at HQ96'.out 5
 simp at y0 y1 y2 y3 y4 y5
 have CH:=hid (LHear_any g g (askL 3 view) (⟨pw,pd,pv,ps,pt,pl,pa,pc⟩:PromC) pv4 bv4 W6 H6'.out HPO6'.out.rd (OwnV.sep (p:=(⟨pw,pd,pv,ps,pt,pl,pa,pc⟩:PromC)) HPO6'.out H6'.out.ex) rfl (by show(3:Int)<=7;decide) rfl (fun q hq=>by cases hq) (by show(0:Nat)<=6;omega))
 unfold HearL at CH
 rw[show PromC.val (⟨pw,pd,pv,ps,pt,pl,pa,pc⟩:PromC)=PA from HPV.out,hear_one HMA.out HWA.out] at CH
 unfold promVal PromC.u at CH
 dsimp only at CH
 go_upto_region 7 with (go_at_call 18;refine CH.out.mono ?_;rintro e w7 ⟨rfl,hd⟩;have HB7:=hid (hd.below H6'.out HB6'.out (Nat.le_refl _));obtain⟨pv7,bv7,h7,hc7,n7,m7⟩:=hd;have H7:=hid h7;have HPO7:=hid (OwnV.did hc7 H6'.out HPO6'.out);have HQO7:=hid (OwnV.did hc7 H6'.out HQO6'.out);have HQ97:=hid (hc7.at_ HQ96'.out NB9.out);have HQX7:=hid (hc7.at_ HQX.out NBX.out);have NB97:=hid (LS.next_ n7 m7 HLTX.out.2 NB9.out);have NBX7:=hid (LS.next_ n7 m7 HLTX.out.1 NBX.out);have HLT7:=hid (And.intro (Nat.lt_of_lt_of_le HLTX.out.1 hc7.size) (Nat.lt_of_lt_of_le HLTX.out.2 hc7.size));clear h7 hc7 n7 m7 y0 y1 y2 y3 y4 y5)
 clear CH H6' HB6' HPO6' HQO6' HQ96' HQX NB9 NBX HLTX
 have y0:=cell_at HQX7.out 0
 have y1:=cell_at HQX7.out 1
 have y2:=cell_at HQX7.out 2
 have y3:=cell_at HQX7.out 3
 have y4:=cell_at HQX7.out 4
 have y5:=cell_at HQX7.out 5
 simp at y0 y1 y2 y3 y4 y5
 have hok1:okS [] (([]:List PromV)++ [PA])=true:=okS_snoc rfl HMA.out (fun q hq=>by cases hq)
 have CH:=hid (LHear_any g g (markF (askL 3 view) PA) (⟨qw,qd,qv,qs,qt,ql,qa,qc⟩:PromC) pv7 bv7 w7 H7.out HQO7.out.rd (OwnV.sep (p:=(⟨qw,qd,qv,qs,qt,ql,qa,qc⟩:PromC)) HQO7.out H7.out.ex) (by show(none7.set _ true).length =7;rw[List.length_set];rfl) (by show(3:Int)<=7;decide) hok1 (fun q hq=>by rw[show(markF (askL 3 view) PA).ps = [PA] from rfl,List.mem_singleton] at hq;rw[hq];unfold markF;dsimp only;rw[HWA.out];rfl) (by show(1:Nat)<=6;omega))
 unfold HearL at CH
 rw[show PromC.val (⟨qw,qd,qv,qs,qt,ql,qa,qc⟩:PromC)=PQ from HQV.out,hear_two HMB.out HWA.out HWB.out] at CH
 unfold promVal PromC.u at CH
 dsimp only at CH
 clear hok1
 go_upto_region 8 with (go_at_call 18;refine CH.out.mono ?_;rintro e w8 ⟨rfl,hd⟩;have HB8:=hid (hd.below H7.out HB7.out (Nat.le_refl _));obtain⟨pv8,bv8,h8,hc8,n8,m8⟩:=hd;have H8:=hid h8;have HPO8:=hid (OwnV.did hc8 H7.out HPO7.out);have HQO8:=hid (OwnV.did hc8 H7.out HQO7.out);have HQ98:=hid (hc8.at_ HQ97.out NB97.out);have HQX8:=hid (hc8.at_ HQX7.out NBX7.out);clear h8 hc8 n8 m8 y0 y1 y2 y3 y4 y5)
 clear CH H7 HB7 HPO7 HQO7 HQ97 HQX7 NB97 NBX7 HLT7
 go_upto_region 10 with fail
 have y0:=cell_at HQ98.out 0
 have y1:=cell_at HQ98.out 1
 have y2:=cell_at HQ98.out 2
 have y3:=cell_at HQ98.out 3
 have y4:=cell_at HQ98.out 4
 have y5:=cell_at HQ98.out 5
 have z0:=cell_at HQX8.out 0
 have z1:=cell_at HQX8.out 1
 have z2:=cell_at HQX8.out 2
 have z3:=cell_at HQX8.out 3
 have z4:=cell_at HQX8.out 4
 have z5:=cell_at HQX8.out 5
 simp at y0 y1 y2 y3 y4 y5 z0 z1 z2 z3 z4 z5
 have hb9:=newAlloc w8 (.cells #[.int .i64 pw,.int .i64 pd,.int .i64 pv,.int .i64 ps,.int .i64 pt,.slice pa pl.length pc,.int .i64 qw,.int .i64 qd,.int .i64 qv,.int .i64 qs,.int .i64 qt,.slice qa ql.length qc] 59)
 have hlit:RdP (w8.alloc (.cells #[.int .i64 pw,.int .i64 pd,.int .i64 pv,.int .i64 ps,.int .i64 pt,.slice pa pl.length pc,.int .i64 qw,.int .i64 qd,.int .i64 qv,.int .i64 qs,.int .i64 qt,.slice qa ql.length qc] 59)) (.slice (some ⟨w8.heap.size,0,none⟩) 2 2) [(⟨pw,pd,pv,ps,pt,pl,pa,pc⟩:PromC),(⟨qw,qd,qv,qs,qt,ql,qa,qc⟩:PromC)]:=by
  have h:=World.ownsRow_lit (base:=w8.heap.size) (e:=59) (size:=6) w8 #[.int .i64 pw,.int .i64 pd,.int .i64 pv,.int .i64 ps,.int .i64 pt,.slice pa pl.length pc,.int .i64 qw,.int .i64 qd,.int .i64 qv,.int .i64 qs,.int .i64 qt,.slice qa ql.length qc] 2 (Nat.le_refl _) (by unfold maxLen;omega) (by simp)
  refine⟨RdX.own (l:= [(⟨pw,pd,pv,ps,pt,pl,pa,pc⟩:PromC),(⟨qw,qd,qv,qs,qt,ql,qa,qc⟩:PromC)]) cellsP_length h,fun x hx=>?_⟩
  simp only[List.mem_cons,List.not_mem_nil,or_false] at hx
  rcases hx with rfl | rfl
  ·exact(HPO8.out.later hb9).rd
  ·exact(HQO8.out.later hb9).rd
 have CM:=hid (MakePlan_anyP _ _ _ hlit (by simp) (OwnQ w.heap.size (w8.alloc (.cells #[.int .i64 pw,.int .i64 pd,.int .i64 pv,.int .i64 ps,.int .i64 pt,.slice pa pl.length pc,.int .i64 qw,.int .i64 qd,.int .i64 qv,.int .i64 qs,.int .i64 qt,.slice qa ql.length qc] 59))) (World.ownsRow_nil _ _ _ _) (fun x hx z hz=>by
  simp only[List.mem_cons,List.not_mem_nil,or_false] at hx
  rcases hx with rfl | rfl
  ·exact(HPO8.out.later hb9).reqs z hz
  ·exact(HQO8.out.later hb9).reqs z hz))
 rw[show valsP [(⟨pw,pd,pv,ps,pt,pl,pa,pc⟩:PromC),(⟨qw,qd,qv,qs,qt,ql,qa,qc⟩:PromC)]= [PA,PQ] from by unfold valsP;rw[<-HPV.out,<-HQV.out];rfl,make_same] at CM
 have HB9:=hid (HB8.out.trans (hb9.mono (by have:=HB8.out.size;have:=HGE2.out;omega)))
 have H9:=hid (H8.out.later hb9)
 have HSZ:Hid ((w8.alloc (.cells #[.int .i64 pw,.int .i64 pd,.int .i64 pv,.int .i64 ps,.int .i64 pt,.slice pa pl.length pc,.int .i64 qw,.int .i64 qd,.int .i64 qv,.int .i64 qs,.int .i64 qt,.slice qa ql.length qc] 59)).heap.size =w8.heap.size+1):=hid (by simp)
 clear hlit hb9
 unfold GivesQP planVal at CM
 obtain⟨RR,hRR⟩: ∃RR,makeF [PA,PQ]=RR:=⟨_,rfl⟩
 have HRR:=hid hRR
 unfold LedG
 rw[hRR] at CM ⊢
 clear hRR
 obtain⟨⟨rd,rt,rs,rm,rb,re,rf,rl⟩,rc⟩:=RR
 dsimp only at CM
 go_upto_region 11 with (go_at_call 29;refine CM.out.mono ?_;rintro e w10 ⟨va,vc,Lb,rfl,hvb, -,hb10,hQ,hrow⟩;have HVB:=hid hvb;have HQQ:=hid hQ;have HROW:=hid hrow;have HB10:=hid (HB9.out.trans (hb10.mono (by have:=HB9.out.size;have:=HGE2.out;omega)));have H10:=hid (H9.out.later hb10);have HBX:=hid hb10;clear hvb hb10 hQ hrow y0 y1 y2 y3 y4 y5 z0 z1 z2 z3 z4 z5)
 clear CM
 have HNO:Hid (∀k,(Value.slice va Lb.length vc).ownBlock =some k-> ¬LS g pv8 bv8 k):=hid (fun k hk q=>by have h1:=(Rw.own_lt HROW.out k hk).1;have h2:=H8.out.ls_lt k q;have:=HSZ.out;omega)
 have HOB:Hid (OwnBs w.heap.size w10 (.slice va Lb.length vc) Lb):=hid ⟨own_lowerX HROW.out (by have:=HSZ.out;have:=(HKEY.out _ HB8.out).size;omega),fun x hx=>(HQQ.out x hx).later HBX.out⟩
 have hb11:=newAlloc w10 (.cells #[.int .i64 rd,.int .i64 rt,.int .i64 rs,.int .i64 rm,.slice va Lb.length vc,.int .i64 re,.int .i64 rf,.int .i64 rl] 31)
 have kx:=alloc_atB w10 (.cells #[.int .i64 rd,.int .i64 rt,.int .i64 rs,.int .i64 rm,.slice va Lb.length vc,.int .i64 re,.int .i64 rf,.int .i64 rl] 31) _ rfl
 have HB11:=hid (HB10.out.trans (hb11.mono (by have:=HB10.out.size;have:=HGE2.out;omega)))
 have H11:=hid (H10.out.later hb11)
 have HOB11:=hid (HOB.out.later hb11)
 have HKX:=hid kx
 have HZL:Hid (w.heap.size+1+1<w10.heap.size):=hid (by have:=HB10.out.size;have:=HGE.out;have:=HGE2.out;omega)
 generalize w10.alloc (.cells #[.int .i64 rd,.int .i64 rt,.int .i64 rs,.int .i64 rm,.slice va Lb.length vc,.int .i64 re,.int .i64 rf,.int .i64 rl] 31)=W10 at HB11 H11 HOB11 HKX ⊢
 generalize w10.heap.size=b15 at HKX HZL ⊢
 clear hb11 kx HB10 H10 HOB HROW HQQ HBX
 have HBW:=hid (HKEY.out _ HB11.out)
 have HKZ:=hid (HKP.out _ HB11.out)
 have y0:=cell_at HKX.out 0
 have y1:=cell_at HKX.out 1
 have y2:=cell_at HKX.out 2
 have y3:=cell_at HKX.out 3
 have y4:=cell_at HKX.out 4
 have y5:=cell_at HKX.out 5
 have y6:=cell_at HKX.out 6
 have y7:=cell_at HKX.out 7
 have z0:=cell_at HKZ.out 0
 have z1:=cell_at HKZ.out 1
 have z2:=cell_at HKZ.out 2
 have z3:=cell_at HKZ.out 3
 have z4:=cell_at HKZ.out 4
 have z5:=cell_at HKZ.out 5
 have z6:=cell_at HKZ.out 6
 have z7:=cell_at HKZ.out 7
 have zf:=frozen_at HKZ.out
 simp at y0 y1 y2 y3 y4 y5 y6 y7 z0 z1 z2 z3 z4 z5 z6 z7
 have hne: ¬w.heap.size+1+1=b15:=by have:=HZL.out;omega
 have hx:=(set_atB (set_atB (set_atB (set_atB (set_atB (set_atB (set_atB (set_atB HKZ.out 0 (.int .i64 rd)) 1 (.int .i64 rt)) 2 (.int .i64 rs)) 3 (.int .i64 rm)) 4 (.slice va Lb.length vc)) 5 (.int .i64 re)) 6 (.int .i64 rf)) 7 (.int .i64 rl))
 simp only[List.setIfInBounds_toArray,List.set_cons_zero,List.set_cons_succ] at hx
 have hg:W10.grownBy ((((((((W10.setCell ⟨w.heap.size+1+1,0,none⟩ (.int .i64 rd)).setCell ⟨w.heap.size+1+1,1,none⟩ (.int .i64 rt)).setCell ⟨w.heap.size+1+1,2,none⟩ (.int .i64 rs)).setCell ⟨w.heap.size+1+1,3,none⟩ (.int .i64 rm)).setCell ⟨w.heap.size+1+1,4,none⟩ (.slice va Lb.length vc)).setCell ⟨w.heap.size+1+1,5,none⟩ (.int .i64 re)).setCell ⟨w.heap.size+1+1,6,none⟩ (.int .i64 rf)).setCell ⟨w.heap.size+1+1,7,none⟩ (.int .i64 rl)) (some (w.heap.size+1+1)):=(((((((grown_set1 W10 (w.heap.size+1+1) _ _).trans (grown_set1 _ (w.heap.size+1+1) _ _)).trans (grown_set1 _ (w.heap.size+1+1) _ _)).trans (grown_set1 _ (w.heap.size+1+1) _ _)).trans (grown_set1 _ (w.heap.size+1+1) _ _)).trans (grown_set1 _ (w.heap.size+1+1) _ _)).trans (grown_set1 _ (w.heap.size+1+1) _ _)).trans (grown_set1 _ (w.heap.size+1+1) _ _)
 have HL12:=hid ((H11.out.far hg HKZ.out (by decide) (by decide) (by decide) (by decide) (by decide)).later (Below.refl _ _).drew)
 have HOB12:=hid ((OwnBs.other HOB11.out hg HKZ.out (by decide) (by decide)).later (Below.refl _ _).drew)
 have HB12:Hid (Below w.heap.size w ((((((((W10.setCell ⟨w.heap.size+1+1,0,none⟩ (.int .i64 rd)).setCell ⟨w.heap.size+1+1,1,none⟩ (.int .i64 rt)).setCell ⟨w.heap.size+1+1,2,none⟩ (.int .i64 rs)).setCell ⟨w.heap.size+1+1,3,none⟩ (.int .i64 rm)).setCell ⟨w.heap.size+1+1,4,none⟩ (.slice va Lb.length vc)).setCell ⟨w.heap.size+1+1,5,none⟩ (.int .i64 re)).setCell ⟨w.heap.size+1+1,6,none⟩ (.int .i64 rf)).setCell ⟨w.heap.size+1+1,7,none⟩ (.int .i64 rl)).drew):=hid ((((((((((HBW.out.setCell (p:=⟨w.heap.size+1+1,0,none⟩) (show w.heap.size<=w.heap.size+1+1 by omega) _).setCell (p:=⟨w.heap.size+1+1,1,none⟩) (show w.heap.size<=w.heap.size+1+1 by omega) _).setCell (p:=⟨w.heap.size+1+1,2,none⟩) (show w.heap.size<=w.heap.size+1+1 by omega) _).setCell (p:=⟨w.heap.size+1+1,3,none⟩) (show w.heap.size<=w.heap.size+1+1 by omega) _).setCell (p:=⟨w.heap.size+1+1,4,none⟩) (show w.heap.size<=w.heap.size+1+1 by omega) _).setCell (p:=⟨w.heap.size+1+1,5,none⟩) (show w.heap.size<=w.heap.size+1+1 by omega) _).setCell (p:=⟨w.heap.size+1+1,6,none⟩) (show w.heap.size<=w.heap.size+1+1 by omega) _).setCell (p:=⟨w.heap.size+1+1,7,none⟩) (show w.heap.size<=w.heap.size+1+1 by omega) _)).drew)
 have HX12:=hid (cells_later hx (Below.refl _ _).drew)
 clear hx hg
 go_region
 go_upto_region 12 with fail
 generalize ((((((((W10.setCell ⟨w.heap.size+1+1,0,none⟩ (.int .i64 rd)).setCell ⟨w.heap.size+1+1,1,none⟩ (.int .i64 rt)).setCell ⟨w.heap.size+1+1,2,none⟩ (.int .i64 rs)).setCell ⟨w.heap.size+1+1,3,none⟩ (.int .i64 rm)).setCell ⟨w.heap.size+1+1,4,none⟩ (.slice va Lb.length vc)).setCell ⟨w.heap.size+1+1,5,none⟩ (.int .i64 re)).setCell ⟨w.heap.size+1+1,6,none⟩ (.int .i64 rf)).setCell ⟨w.heap.size+1+1,7,none⟩ (.int .i64 rl)).drew =W12 at HL12 HOB12 HB12 HX12 ⊢
 clear y0 y1 y2 y3 y4 y5 y6 y7 z0 z1 z2 z3 z4 z5 z6 z7 zf
 have z0:=cell_at HX12.out 0
 have z1:=cell_at HX12.out 1
 have z2:=cell_at HX12.out 2
 have z3:=cell_at HX12.out 3
 have z4:=cell_at HX12.out 4
 have z5:=cell_at HX12.out 5
 have z6:=cell_at HX12.out 6
 have z7:=cell_at HX12.out 7
 simp at z0 z1 z2 z3 z4 z5 z6 z7
 go_wp2
 refine bodyPost_ret (by simp [results,Try.results7,go_sem,z0,z1,z2,z3,z4,z5,z6,z7]<;>rfl) rfl ⟨g,pv8,bv8,va,vc,Lb,by rw[HRR.out];rfl,by rw[HRR.out];exact HVB.out,HOB12.out,HNO.out,HL12.out,HB12.out,by have:=HGE.out;omega⟩
end Ld
end Go.Proofs.Ytbpmfjjbfiiiaaa
