/- Texts laid together by program. -/
import Derived.Test.YtlnbmblbeaodcaaGreatQS27
import Derived.Test.YtlnbmblbeaodcaaGreatQS38
/- Package snap: a state, a snapshot read, or a panic. -/
set_option linter.unusedVariables false
set_option maxRecDepth 8000
set_option linter.unusedSimpArgs false
namespace Go.Proofs.YtlnbmblbeaodcaaGreat
open Lib (hid)
open Go.RowKit
open Go.Sort (grow)
namespace Cm

theorem StO.keepB {b g:Nat} {x:StC} {w w':World} {cs:Array Value} (h:StO b x w) (hb:BxAt w g (.cells cs 46)) (hk: ∀k,k≠g->w'.heap[k]?=w.heap[k]?):StO b x w':=by
 have key: ∀ {n sz:Nat} {e:TypeId} {lv:Value} {xs:List Value},e≠46->w.ownsRow b e sz lv n xs->w'.ownsRow b e sz lv n xs:=fun hne ho=>Rw.own_keep ho fun k q=>hk k (own_ne_tag ho hb hne q)
 exact⟨key (by decide) h.s,key (by decide) h.k,fun y hy=>key (by decide) (h.n y hy),key (by decide) h.m,fun y hy=>key (by decide) (h.d y hy)⟩
theorem FewSt.few {x:StC} {s:StV} (h:FewSt s) (hx:x.v=s):x.S.length<=1000/\x.K.length<=9223372036854775807/\(∀k∈x.K,k.line.length<=1000)/\(∀k∈x.K,k.name.length<=maxLen):=by
 subst hx
 have h1:=h.ses
 have h2:=h.locks
 have h3: ∀k∈x.K,FewK k.val:=fun k hk=>h.lock _ (by show k.val∈vals x.K;exact List.mem_map.2 ⟨k,hk,rfl⟩)
 unfold StC.v at h1 h2
 dsimp only at h1 h2
 rw[vals_length] at h2
 refine⟨by omega,by omega,fun k hk=>?_,fun k hk=>?_⟩
 ·have:k.line.length<=3:=(h3 k hk).2
  omega
 ·have:k.name.length<=12:=(h3 k hk).1
  unfold maxLen;omega
def PanicsSt (bs:List UInt8) (t:Int) (w:World) (e:Ending) (w':World):Prop:=match stateR bs t with
 | .error c=>FailsSn c e/\Below w.heap.size w w'
 | .ok p=>if rightA p.1 then ∃x:StC,x.v=p.1/\e= .returned (.tuple #[stVal x,.int .i64 p.2])/\StO w.heap.size x w'/\Below w.heap.size w w' else FailsSn 4 e/\Below w.heap.size w w'
theorem PanicsSt.bad {bs:List UInt8} {t c:Int} {w w':World} {e:Ending} (hq:stateR bs t= .error c) (h:FailsSn c e) (hb:Below w.heap.size w w'):PanicsSt bs t w e w':=by
 unfold PanicsSt;rw[hq];exact⟨h,hb⟩
theorem PanicsSt.wrong {bs:List UInt8} {t t':Int} {s:StV} {w w':World} {e:Ending} (hq:stateR bs t= .ok (s,t')) (hr:rightA s=false) (h:FailsSn 4 e) (hb:Below w.heap.size w w'):PanicsSt bs t w e w':=by
 unfold PanicsSt;rw[hq];dsimp only;rw[hr];exact⟨h,hb⟩
theorem PanicsSt.ok {bs:List UInt8} {t t':Int} {s:StV} {w w':World} {e:Ending} (hq:stateR bs t= .ok (s,t')) (hr:rightA s=true) (x:StC) (hx:x.v=s) (h:e= .returned (.tuple #[stVal x,.int .i64 t'])) (ho:StO w.heap.size x w') (hb:Below w.heap.size w w'):PanicsSt bs t w e w':=by
 unfold PanicsSt;rw[hq];dsimp only;rw[hr];exact⟨x,hx,h,ho,hb⟩
set_option maxRecDepth 100000 in
set_option maxHeartbeats 4000000 in
theorem SnapReadState (v:Value) (bs:List UInt8) (t:Int) (w:World) (h:Rd w v bs) (ht:t<=9223372036854775807):Calls Tryz.prog 74 #[v,.int .i64 t] w (PanicsSt bs t w):=by
 obtain⟨a,len,cap,rfl, -, -, -, -, -⟩:=h.ex
 have HX:Hid (RX (w.alloc (.cells #[.int .i64 0,.int .i64 0,.int .i64 0,.slice none 0 0,.slice none 0 0,.slice none 0 0] 26)) (w.alloc (.cells #[.int .i64 0,.int .i64 0,.int .i64 0,.slice none 0 0,.slice none 0 0,.slice none 0 0] 26)).heap.size (.slice a len cap) bs t ((w.alloc (.cells #[.int .i64 0,.int .i64 0,.int .i64 0,.slice none 0 0,.slice none 0 0,.slice none 0 0] 26)).alloc (.cells #[.slice a len cap,.int .i64 t] 171))):=
  hid ⟨h.later (newAlloc _ _),Nat.le_refl _,newAlloc _ _,BxAt.new _ _,ht⟩
 have HB0:=hid (newAlloc w (.cells #[.int .i64 0,.int .i64 0,.int .i64 0,.slice none 0 0,.slice none 0 0,.slice none 0 0] 26))
 have HA0:Hid (BxAt ((w.alloc (.cells #[.int .i64 0,.int .i64 0,.int .i64 0,.slice none 0 0,.slice none 0 0,.slice none 0 0] 26)).alloc (.cells #[.slice a len cap,.int .i64 t] 171)) w.heap.size (.cells #[.int .i64 0,.int .i64 0,.int .i64 0,.slice none 0 0,.slice none 0 0,.slice none 0 0] 26)):=hid ((BxAt.new w _).later (newAlloc _ _))
 have hz:(w.alloc (.cells #[.int .i64 0,.int .i64 0,.int .i64 0,.slice none 0 0,.slice none 0 0,.slice none 0 0] 26)).heap.size =w.heap.size+1:=by simp
 rw[hz] at HX
 clear h ht hz
 go_enter Tryz.func74,Tryz.ntmps74
 go_upto_region 2 with fail
 generalize hW0:w.alloc (.cells #[.int .i64 0,.int .i64 0,.int .i64 0,.slice none 0 0,.slice none 0 0,.slice none 0 0] 26)=W0 at HX HB0 HA0 ⊢
 have HS0:Hid (W0.heap.size=w.heap.size+1):=hid (by rw[<-hW0];simp)
 clear hW0
 generalize hW:W0.alloc (.cells #[.slice a len cap,.int .i64 t] 171)=W at HX HA0 ⊢
 clear hW
 have C:=hid (SnapGetState W0 (w.heap.size+1) (.slice a len cap) bs t W HX.out)
 cases hq:stateR bs t with
 | error c=>
  have HQ:=hid hq
  clear hq
  go_wp2_with fail
  refine C.out.mono ?_
  rintro e w2 hh
  obtain⟨hf,hb⟩:=hh.bad HQ.out
  rw[hf]
  exact⟨rfl,PanicsSt.bad HQ.out rfl (step HB0.out hb)⟩
 | ok p=>
 obtain⟨s,t'⟩:=p
 have HF:=hid (stateR_inv hq)
 have HQ:=hid hq
 clear hq
 go_wp2_with fail
 refine C.out.mono ?_
 rintro e w2 hh
 obtain⟨u,rfl,⟨x,hxv,rfl,hxo⟩,hx,hg⟩:=hh.good HQ.out
 have HFW:=hid (HF.out.few hxv)
 obtain⟨ti,nu,tk,S,sa,sc,KL,ka,kc,M,ma,mc⟩:=x
 have HXV:=hid hxv
 have HXO:=hid hxo
 have HX2:=hid hx
 have HA2:Hid (BxAt w2 w.heap.size (.cells #[.int .i64 0,.int .i64 0,.int .i64 0,.slice none 0 0,.slice none 0 0,.slice none 0 0] 26)):=hid (hg.at HA0.out (by omega))
 unfold stVal StC.sv StC.kv StC.mv
 dsimp only
 clear hh hx hg hxv hxo C HX HA0
 have CR:=hid (fun W hb=>AutoRight_any ⟨ti,nu,tk,S,sa,sc,KL,ka,kc,M,ma,mc⟩ W ((HXO.out.later hb).rd) HFW.out.1 HFW.out.2.1 HFW.out.2.2.1 HFW.out.2.2.2)
 rw[HXV.out] at CR
 unfold stVal StC.sv StC.kv StC.mv at CR
 dsimp only at CR
 go_upto_region 3 with fail
 have hb3:Below w2.heap.size w2 (w2.alloc (.cells #[.int .i64 ti,.int .i64 nu,.int .i64 tk,.slice sa S.length sc,.slice ka KL.length kc,.slice ma M.length mc] 26)):=newAlloc _ _
 have HB3:=hid hb3
 have HX3:=hid (HX2.out.later hb3)
 have HA3:=hid (HA2.out.later hb3)
 have HO3:=hid (HXO.out.later hb3)
 have HC3:Hid (BxAt (w2.alloc (.cells #[.int .i64 ti,.int .i64 nu,.int .i64 tk,.slice sa S.length sc,.slice ka KL.length kc,.slice ma M.length mc] 26)) w2.heap.size (.cells #[.int .i64 ti,.int .i64 nu,.int .i64 tk,.slice sa S.length sc,.slice ka KL.length kc,.slice ma M.length mc] 26)):=hid (BxAt.new _ _)
 generalize hn7:w2.heap.size=n7 at HC3 ⊢
 have HN7:Hid (w.heap.size<n7):=hid (by rw[<-hn7];have:=get_ltW HA2.out;omega)
 have CR:=hid (CR.out _ HB3.out)
 generalize hW:w2.alloc (.cells #[.int .i64 ti,.int .i64 nu,.int .i64 tk,.slice sa S.length sc,.slice ka KL.length kc,.slice ma M.length mc] 26)=W3 at HX3 HA3 HO3 HC3 CR ⊢
 clear hW hb3 HB3 hn7 HX2 HA2 HXO
 have hc:=HC3.out
 have k0:=cell_atW hc 0
 have k1:=cell_atW hc 1
 have k2:=cell_atW hc 2
 have k3:=cell_atW hc 3
 have k4:=cell_atW hc 4
 have k5:=cell_atW hc 5
 simp only[List.getElem?_toArray,List.getElem?_cons_zero,List.getElem?_cons_succ] at k0 k1 k2 k3 k4 k5
 clear hc
 cases hr:rightA s
 ·rw[hr] at CR
  have HR:=hid hr
  clear hr
  go_wp2_with (go_at_call 11;refine CR.out.mono ?_;rintro e w4 ⟨rfl,hb4⟩;have HB4:=hid hb4)
  exact⟨rfl,PanicsSt.wrong HQ.out HR.out rfl (step HB0.out (step HX3.out.below HB4.out))⟩
 ·rw[hr] at CR
  have HR:=hid hr
  clear hr
  go_upto_region 5 with (go_at_call 11;refine CR.out.mono ?_;rintro e w4 ⟨rfl,hb4⟩;have HX4:=hid (HX3.out.later hb4);have HA4:=hid (HA3.out.later hb4);have HO4:=hid (HO3.out.later hb4);have HC4:=hid (HC3.out.later hb4);clear hb4)
  clear k0 k1 k2 k3 k4 k5 HX3 HA3 HO3 HC3 CR
  have hc:=HC4.out
  have ha:=HA4.out
  have hx:=HX4.out.box
  have y1:=cell_atW hx 1
  have zf:=frozen_atW ha
  have k0:=cell_atW hc 0
  have k1:=cell_atW hc 1
  have k2:=cell_atW hc 2
  have k3:=cell_atW hc 3
  have k4:=cell_atW hc 4
  have k5:=cell_atW hc 5
  simp only[List.getElem?_toArray,List.getElem?_cons_zero,List.getElem?_cons_succ] at k0 k1 k2 k3 k4 k5
  have z0:=cell_atW ha 0
  have z1:=cell_atW ha 1
  have z2:=cell_atW ha 2
  have z3:=cell_atW ha 3
  have z4:=cell_atW ha 4
  have z5:=cell_atW ha 5
  simp only[List.getElem?_toArray,List.getElem?_cons_zero,List.getElem?_cons_succ] at z0 z1 z2 z3 z4 z5
  simp only[List.getElem?_toArray,List.getElem?_cons_zero,List.getElem?_cons_succ] at y1
  clear hc ha hx
  go_region
  all_goals
   go_wp2
   refine bodyPost_ret (by simp [results,Tryz.results74,go_sem,z0,z1,z2,z3,z4,z5,zf]<;>rfl) rfl (PanicsSt.ok HQ.out HR.out ⟨ti,nu,tk,S,sa,sc,KL,ka,kc,M,ma,mc⟩ HXV.out rfl ?_ ?_)
   ·exact(((((((HO4.out.set (by omega) 0 (.int .i64 ti)).set (by omega) 1 (.int .i64 nu)).set (by omega) 2 (.int .i64 tk)).set (by omega) 3 (.slice sa S.length sc)).set (by omega) 4 (.slice ka KL.length kc)).set (by omega) 5 (.slice ma M.length mc)).later (Below.refl _ _).drew).lower (by omega)
   ·exact(set6m (step HB0.out HX4.out.below) w.heap.size (Nat.le_refl _) _ _ _ _ _ _).drew
def PanicsSn (bs:List UInt8) (t:Int) (w:World) (e:Ending) (w':World):Prop:=match snapR bs t with
 | .error c=>FailsSn c e/\Below w.heap.size w w'
 | .ok p=>if maySV p.1 then ∃x:StC,x.v=p.1.st/\e= .returned (.tuple #[snapVal ⟨p.1.done,p.1.tv,p.1.ts,x⟩,.int .i64 p.2])/\StO w.heap.size x w'/\Below w.heap.size w w' else FailsSn 4 e/\Below w.heap.size w w'
theorem PanicsSn.bad {bs:List UInt8} {t c:Int} {w w':World} {e:Ending} (hq:snapR bs t= .error c) (h:FailsSn c e) (hb:Below w.heap.size w w'):PanicsSn bs t w e w':=by
 unfold PanicsSn;rw[hq];exact⟨h,hb⟩
theorem PanicsSn.wrong {bs:List UInt8} {t t':Int} {s:SnV} {w w':World} {e:Ending} (hq:snapR bs t= .ok (s,t')) (hr:maySV s=false) (h:FailsSn 4 e) (hb:Below w.heap.size w w'):PanicsSn bs t w e w':=by
 unfold PanicsSn;rw[hq];dsimp only;rw[hr];exact⟨h,hb⟩
theorem PanicsSn.ok {bs:List UInt8} {t t':Int} {s:SnV} {w w':World} {e:Ending} (hq:snapR bs t= .ok (s,t')) (hr:maySV s=true) (x:StC) (hx:x.v=s.st) (h:e= .returned (.tuple #[snapVal ⟨s.done,s.tv,s.ts,x⟩,.int .i64 t'])) (ho:StO w.heap.size x w') (hb:Below w.heap.size w w'):PanicsSn bs t w e w':=by
 unfold PanicsSn;rw[hq];dsimp only;rw[hr];exact⟨x,hx,h,ho,hb⟩
theorem set9 {a w:World} {b:Nat} (h:Below b a w) (g:Nat) (hg:b<=g) (x0 x1 x2 x3 x4 x5 x6 x7 x8:Value):Below b a (((((((((w.setCell ⟨g,0,none⟩ x0).setCell ⟨g,1,none⟩ x1).setCell ⟨g,2,none⟩ x2).setCell ⟨g,3,none⟩ x3).setCell ⟨g,4,none⟩ x4).setCell ⟨g,5,none⟩ x5).setCell ⟨g,6,none⟩ x6).setCell ⟨g,7,none⟩ x7).setCell ⟨g,8,none⟩ x8):=
 ((((((((h.setCell (p:=⟨g,0,none⟩) hg _).setCell (p:=⟨g,1,none⟩) hg _).setCell (p:=⟨g,2,none⟩) hg _).setCell (p:=⟨g,3,none⟩) hg _).setCell (p:=⟨g,4,none⟩) hg _).setCell (p:=⟨g,5,none⟩) hg _).setCell (p:=⟨g,6,none⟩) hg _).setCell (p:=⟨g,7,none⟩) hg _).setCell (p:=⟨g,8,none⟩) hg _
set_option maxRecDepth 100000 in
set_option maxHeartbeats 8000000 in
theorem SnapReadSnap (v:Value) (bs:List UInt8) (t:Int) (w:World) (h:Rd w v bs) (ht:t<=9223372036854775807):Calls Tryz.prog 78 #[v,.int .i64 t] w (PanicsSn bs t w):=by
 obtain⟨a,len,cap,rfl, -, -, -, -, -⟩:=h.ex
 have HX:Hid (RX (w.alloc (.cells #[.int .i64 0,.int .i64 0,.int .i64 0,.int .i64 0,.int .i64 0,.int .i64 0,.slice none 0 0,.slice none 0 0,.slice none 0 0] 46)) (w.alloc (.cells #[.int .i64 0,.int .i64 0,.int .i64 0,.int .i64 0,.int .i64 0,.int .i64 0,.slice none 0 0,.slice none 0 0,.slice none 0 0] 46)).heap.size (.slice a len cap) bs t ((w.alloc (.cells #[.int .i64 0,.int .i64 0,.int .i64 0,.int .i64 0,.int .i64 0,.int .i64 0,.slice none 0 0,.slice none 0 0,.slice none 0 0] 46)).alloc (.cells #[.slice a len cap,.int .i64 t] 171))):=
  hid ⟨h.later (newAlloc _ _),Nat.le_refl _,newAlloc _ _,BxAt.new _ _,ht⟩
 have HB0:=hid (newAlloc w (.cells #[.int .i64 0,.int .i64 0,.int .i64 0,.int .i64 0,.int .i64 0,.int .i64 0,.slice none 0 0,.slice none 0 0,.slice none 0 0] 46))
 have HA0:Hid (BxAt ((w.alloc (.cells #[.int .i64 0,.int .i64 0,.int .i64 0,.int .i64 0,.int .i64 0,.int .i64 0,.slice none 0 0,.slice none 0 0,.slice none 0 0] 46)).alloc (.cells #[.slice a len cap,.int .i64 t] 171)) w.heap.size (.cells #[.int .i64 0,.int .i64 0,.int .i64 0,.int .i64 0,.int .i64 0,.int .i64 0,.slice none 0 0,.slice none 0 0,.slice none 0 0] 46)):=hid ((BxAt.new w _).later (newAlloc _ _))
 have hz:(w.alloc (.cells #[.int .i64 0,.int .i64 0,.int .i64 0,.int .i64 0,.int .i64 0,.int .i64 0,.slice none 0 0,.slice none 0 0,.slice none 0 0] 46)).heap.size =w.heap.size+1:=by simp
 rw[hz] at HX
 have HR:Hid (snapR bs t=thenR numR (fun d=>thenR numR fun v=>thenR numR fun s=>thenR stateR fun x=>pureR ⟨d,v,s,x⟩) bs t):=hid rfl
 clear h ht hz
 go_enter Tryz.func78,Tryz.ntmps78
 go_upto_region 3 with fail
 generalize hW0:w.alloc (.cells #[.int .i64 0,.int .i64 0,.int .i64 0,.int .i64 0,.int .i64 0,.int .i64 0,.slice none 0 0,.slice none 0 0,.slice none 0 0] 46)=W0 at HX HB0 HA0 ⊢
 have HS0:Hid (W0.heap.size=w.heap.size+1):=hid (by rw[<-hW0];simp)
 clear hW0
 generalize hW:W0.alloc (.cells #[.slice a len cap,.int .i64 t] 171)=W1 at HX HA0 ⊢
 have HS1:Hid (W1.heap.size=w.heap.size+1+1):=hid (by rw[<-hW,<-HS0.out];simp)
 clear hW
 have HX:=hid (HX.out.later (newAlloc W1 (.cells #[.int .i64 0,.int .i64 0,.int .i64 0,.int .i64 0,.int .i64 0,.int .i64 0,.slice none 0 0,.slice none 0 0,.slice none 0 0] 46)))
 have HA0:=hid (HA0.out.later (newAlloc W1 (.cells #[.int .i64 0,.int .i64 0,.int .i64 0,.int .i64 0,.int .i64 0,.int .i64 0,.slice none 0 0,.slice none 0 0,.slice none 0 0] 46)))
 have HB:Hid (BxAt (W1.alloc (.cells #[.int .i64 0,.int .i64 0,.int .i64 0,.int .i64 0,.int .i64 0,.int .i64 0,.slice none 0 0,.slice none 0 0,.slice none 0 0] 46)) (w.heap.size+1+1) (.cells #[.int .i64 0,.int .i64 0,.int .i64 0,.int .i64 0,.int .i64 0,.int .i64 0,.slice none 0 0,.slice none 0 0,.slice none 0 0] 46)):=hid (by rw[<-HS1.out];exact BxAt.new _ _)
 generalize hW:W1.alloc (.cells #[.int .i64 0,.int .i64 0,.int .i64 0,.int .i64 0,.int .i64 0,.int .i64 0,.slice none 0 0,.slice none 0 0,.slice none 0 0] 46)=W at HX HA0 HB ⊢
 clear hW
 have C:=hid (SnapGetNum W0 (w.heap.size+1) (.slice a len cap) bs t W HX.out)
 cases hq:numR bs t with
 | error c=>
  have HQ:=hid hq
  clear hq
  go_wp2_with fail
  refine C.out.mono ?_
  rintro e w2 hh
  obtain⟨hf,hb⟩:=hh.bad HQ.out
  rw[hf]
  exact⟨rfl,PanicsSn.bad (HR.out.trans (thenR_err HQ.out)) rfl (step HB0.out hb)⟩
 | ok p=>
 obtain⟨dn,t1⟩:=p
 have HR:=hid (HR.out.trans (thenR_ok hq))
 skip
 have HQ:=hid hq
 clear hq
 go_wp2_with fail
 refine C.out.mono ?_
 rintro e w2 hh
 obtain⟨rfl,hx,hg⟩:=hh.good HQ.out
 unfold intV
 have HX:=hid hx
 have hA:BxAt w2 (w.heap.size+1+1) (.cells #[.int .i64 0,.int .i64 0,.int .i64 0,.int .i64 0,.int .i64 0,.int .i64 0,.slice none 0 0,.slice none 0 0,.slice none 0 0] 46):=hg.at HB.out (by omega)
 have HA0:Hid (BxAt w2 w.heap.size (.cells #[.int .i64 0,.int .i64 0,.int .i64 0,.int .i64 0,.int .i64 0,.int .i64 0,.slice none 0 0,.slice none 0 0,.slice none 0 0] 46)):=hid (hg.at HA0.out (by omega))
 clear hh hx hg C HQ HB
 have k0:=cell_atW hA 0
 have k1:=cell_atW hA 1
 have k2:=cell_atW hA 2
 have k3:=cell_atW hA 3
 have k4:=cell_atW hA 4
 have k5:=cell_atW hA 5
 have k6:=cell_atW hA 6
 have k7:=cell_atW hA 7
 have k8:=cell_atW hA 8
 have kf:=frozen_atW hA
 simp only[List.getElem?_toArray,List.getElem?_cons_zero,List.getElem?_cons_succ] at k0 k1 k2 k3 k4 k5 k6 k7 k8
 go_upto_region 4 with fail
 have HX:=hid ((HX.out.set (k:=w.heap.size+1+1) (by omega) 0 (.int .i64 dn)))
 have HA0:=hid ((HA0.out.other (k:=w.heap.size+1+1) (by omega) 0 (.int .i64 dn)))
 have HB:Hid (BxAt (w2.setCell ⟨w.heap.size+1+1,0,none⟩ (.int .i64 dn)) (w.heap.size+1+1) (.cells #[.int .i64 dn,.int .i64 0,.int .i64 0,.int .i64 0,.int .i64 0,.int .i64 0,.slice none 0 0,.slice none 0 0,.slice none 0 0] 46)):=hid ((hA.set 0 (.int .i64 dn)))
 generalize hW:(w2.setCell ⟨w.heap.size+1+1,0,none⟩ (.int .i64 dn))=W at HX HA0 HB ⊢
 clear hW hA kf k0 k1 k2 k3 k4 k5 k6 k7 k8
 have C:=hid (SnapGetNum W0 (w.heap.size+1) (.slice a len cap) bs t1 W HX.out)
 cases hq:numR bs t1 with
 | error c=>
  have HQ:=hid hq
  clear hq
  go_wp2_with fail
  refine C.out.mono ?_
  rintro e w2 hh
  obtain⟨hf,hb⟩:=hh.bad HQ.out
  rw[hf]
  exact⟨rfl,PanicsSn.bad (HR.out.trans (thenR_err HQ.out)) rfl (step HB0.out hb)⟩
 | ok p=>
 obtain⟨tv,t2⟩:=p
 have HR:=hid (HR.out.trans (thenR_ok hq))
 skip
 have HQ:=hid hq
 clear hq
 go_wp2_with fail
 refine C.out.mono ?_
 rintro e w2 hh
 obtain⟨rfl,hx,hg⟩:=hh.good HQ.out
 unfold intV
 have HX:=hid hx
 have hA:BxAt w2 (w.heap.size+1+1) (.cells #[.int .i64 dn,.int .i64 0,.int .i64 0,.int .i64 0,.int .i64 0,.int .i64 0,.slice none 0 0,.slice none 0 0,.slice none 0 0] 46):=hg.at HB.out (by omega)
 have HA0:Hid (BxAt w2 w.heap.size (.cells #[.int .i64 0,.int .i64 0,.int .i64 0,.int .i64 0,.int .i64 0,.int .i64 0,.slice none 0 0,.slice none 0 0,.slice none 0 0] 46)):=hid (hg.at HA0.out (by omega))
 clear hh hx hg C HQ HB
 have k0:=cell_atW hA 0
 have k1:=cell_atW hA 1
 have k2:=cell_atW hA 2
 have k3:=cell_atW hA 3
 have k4:=cell_atW hA 4
 have k5:=cell_atW hA 5
 have k6:=cell_atW hA 6
 have k7:=cell_atW hA 7
 have k8:=cell_atW hA 8
 have kf:=frozen_atW hA
 simp only[List.getElem?_toArray,List.getElem?_cons_zero,List.getElem?_cons_succ] at k0 k1 k2 k3 k4 k5 k6 k7 k8
 go_upto_region 5 with fail
 have HX:=hid ((HX.out.set (k:=w.heap.size+1+1) (by omega) 1 (.int .i64 tv)))
 have HA0:=hid ((HA0.out.other (k:=w.heap.size+1+1) (by omega) 1 (.int .i64 tv)))
 have HB:Hid (BxAt (w2.setCell ⟨w.heap.size+1+1,1,none⟩ (.int .i64 tv)) (w.heap.size+1+1) (.cells #[.int .i64 dn,.int .i64 tv,.int .i64 0,.int .i64 0,.int .i64 0,.int .i64 0,.slice none 0 0,.slice none 0 0,.slice none 0 0] 46)):=hid ((hA.set 1 (.int .i64 tv)))
 generalize hW:(w2.setCell ⟨w.heap.size+1+1,1,none⟩ (.int .i64 tv))=W at HX HA0 HB ⊢
 clear hW hA kf k0 k1 k2 k3 k4 k5 k6 k7 k8
 have C:=hid (SnapGetNum W0 (w.heap.size+1) (.slice a len cap) bs t2 W HX.out)
 cases hq:numR bs t2 with
 | error c=>
  have HQ:=hid hq
  clear hq
  go_wp2_with fail
  refine C.out.mono ?_
  rintro e w2 hh
  obtain⟨hf,hb⟩:=hh.bad HQ.out
  rw[hf]
  exact⟨rfl,PanicsSn.bad (HR.out.trans (thenR_err HQ.out)) rfl (step HB0.out hb)⟩
 | ok p=>
 obtain⟨tss,t3⟩:=p
 have HR:=hid (HR.out.trans (thenR_ok hq))
 skip
 have HQ:=hid hq
 clear hq
 go_wp2_with fail
 refine C.out.mono ?_
 rintro e w2 hh
 obtain⟨rfl,hx,hg⟩:=hh.good HQ.out
 unfold intV
 have HX:=hid hx
 have hA:BxAt w2 (w.heap.size+1+1) (.cells #[.int .i64 dn,.int .i64 tv,.int .i64 0,.int .i64 0,.int .i64 0,.int .i64 0,.slice none 0 0,.slice none 0 0,.slice none 0 0] 46):=hg.at HB.out (by omega)
 have HA0:Hid (BxAt w2 w.heap.size (.cells #[.int .i64 0,.int .i64 0,.int .i64 0,.int .i64 0,.int .i64 0,.int .i64 0,.slice none 0 0,.slice none 0 0,.slice none 0 0] 46)):=hid (hg.at HA0.out (by omega))
 clear hh hx hg C HQ HB
 have k0:=cell_atW hA 0
 have k1:=cell_atW hA 1
 have k2:=cell_atW hA 2
 have k3:=cell_atW hA 3
 have k4:=cell_atW hA 4
 have k5:=cell_atW hA 5
 have k6:=cell_atW hA 6
 have k7:=cell_atW hA 7
 have k8:=cell_atW hA 8
 have kf:=frozen_atW hA
 simp only[List.getElem?_toArray,List.getElem?_cons_zero,List.getElem?_cons_succ] at k0 k1 k2 k3 k4 k5 k6 k7 k8
 go_upto_region 6 with fail
 have HX:=hid ((HX.out.set (k:=w.heap.size+1+1) (by omega) 2 (.int .i64 tss)))
 have HA0:=hid ((HA0.out.other (k:=w.heap.size+1+1) (by omega) 2 (.int .i64 tss)))
 have HB:Hid (BxAt (w2.setCell ⟨w.heap.size+1+1,2,none⟩ (.int .i64 tss)) (w.heap.size+1+1) (.cells #[.int .i64 dn,.int .i64 tv,.int .i64 tss,.int .i64 0,.int .i64 0,.int .i64 0,.slice none 0 0,.slice none 0 0,.slice none 0 0] 46)):=hid ((hA.set 2 (.int .i64 tss)))
 generalize hW:(w2.setCell ⟨w.heap.size+1+1,2,none⟩ (.int .i64 tss))=W at HX HA0 HB ⊢
 clear hW hA kf k0 k1 k2 k3 k4 k5 k6 k7 k8
 have C:=hid (SnapGetState W0 (w.heap.size+1) (.slice a len cap) bs t3 W HX.out)
 cases hq:stateR bs t3 with
 | error c=>
  have HQ:=hid hq
  clear hq
  go_wp2_with fail
  refine C.out.mono ?_
  rintro e w2 hh
  obtain⟨hf,hb⟩:=hh.bad HQ.out
  rw[hf]
  exact⟨rfl,PanicsSn.bad (HR.out.trans (thenR_err HQ.out)) rfl (step HB0.out hb)⟩
 | ok p=>
 obtain⟨s,t4⟩:=p
 have HR:=hid (HR.out.trans (thenR_ok hq))
 have HF:=hid (stateR_inv hq)
 have HQ:=hid hq
 clear hq
 go_wp2_with fail
 refine C.out.mono ?_
 rintro e w2 hh
 obtain⟨u,rfl,⟨x,hxv,rfl,hxo⟩,hx,hg⟩:=hh.good HQ.out
 have HFW:=hid (HF.out.few hxv)
 obtain⟨ti,nu,tk,S,sa,sc,KL,ka,kc,M,ma,mc⟩:=x
 have HXV:=hid hxv
 have HXO:=hid hxo
 unfold stVal StC.sv StC.kv StC.mv
 dsimp only
 have HX:=hid hx
 have hA:BxAt w2 (w.heap.size+1+1) (.cells #[.int .i64 dn,.int .i64 tv,.int .i64 tss,.int .i64 0,.int .i64 0,.int .i64 0,.slice none 0 0,.slice none 0 0,.slice none 0 0] 46):=hg.at HB.out (by omega)
 have HA0:Hid (BxAt w2 w.heap.size (.cells #[.int .i64 0,.int .i64 0,.int .i64 0,.int .i64 0,.int .i64 0,.int .i64 0,.slice none 0 0,.slice none 0 0,.slice none 0 0] 46)):=hid (hg.at HA0.out (by omega))
 clear hh hx hg C HQ HB
 have k0:=cell_atW hA 0
 have k1:=cell_atW hA 1
 have k2:=cell_atW hA 2
 have k3:=cell_atW hA 3
 have k4:=cell_atW hA 4
 have k5:=cell_atW hA 5
 have k6:=cell_atW hA 6
 have k7:=cell_atW hA 7
 have k8:=cell_atW hA 8
 have kf:=frozen_atW hA
 simp only[List.getElem?_toArray,List.getElem?_cons_zero,List.getElem?_cons_succ] at k0 k1 k2 k3 k4 k5 k6 k7 k8
 go_upto_region 7 with fail
 have HX:=hid (((((((HX.out.set (k:=w.heap.size+1+1) (by omega) 3 (.int .i64 ti)).set (k:=w.heap.size+1+1) (by omega) 4 (.int .i64 nu)).set (k:=w.heap.size+1+1) (by omega) 5 (.int .i64 tk)).set (k:=w.heap.size+1+1) (by omega) 6 (.slice sa S.length sc)).set (k:=w.heap.size+1+1) (by omega) 7 (.slice ka KL.length kc)).set (k:=w.heap.size+1+1) (by omega) 8 (.slice ma M.length mc)))
 have HA0:=hid (((((((HA0.out.other (k:=w.heap.size+1+1) (by omega) 3 (.int .i64 ti)).other (k:=w.heap.size+1+1) (by omega) 4 (.int .i64 nu)).other (k:=w.heap.size+1+1) (by omega) 5 (.int .i64 tk)).other (k:=w.heap.size+1+1) (by omega) 6 (.slice sa S.length sc)).other (k:=w.heap.size+1+1) (by omega) 7 (.slice ka KL.length kc)).other (k:=w.heap.size+1+1) (by omega) 8 (.slice ma M.length mc)))
 have HB:Hid (BxAt ((((((w2.setCell ⟨w.heap.size+1+1,3,none⟩ (.int .i64 ti)).setCell ⟨w.heap.size+1+1,4,none⟩ (.int .i64 nu)).setCell ⟨w.heap.size+1+1,5,none⟩ (.int .i64 tk)).setCell ⟨w.heap.size+1+1,6,none⟩ (.slice sa S.length sc)).setCell ⟨w.heap.size+1+1,7,none⟩ (.slice ka KL.length kc)).setCell ⟨w.heap.size+1+1,8,none⟩ (.slice ma M.length mc)) (w.heap.size+1+1) (.cells #[.int .i64 dn,.int .i64 tv,.int .i64 tss,.int .i64 ti,.int .i64 nu,.int .i64 tk,.slice sa S.length sc,.slice ka KL.length kc,.slice ma M.length mc] 46)):=hid (((((((hA.set 3 (.int .i64 ti)).set 4 (.int .i64 nu)).set 5 (.int .i64 tk)).set 6 (.slice sa S.length sc)).set 7 (.slice ka KL.length kc)).set 8 (.slice ma M.length mc)))
 have HXO:=hid ((show StO (w.heap.size+1+1) _ ((((((w2.setCell ⟨w.heap.size+1+1,3,none⟩ (.int .i64 ti)).setCell ⟨w.heap.size+1+1,4,none⟩ (.int .i64 nu)).setCell ⟨w.heap.size+1+1,5,none⟩ (.int .i64 tk)).setCell ⟨w.heap.size+1+1,6,none⟩ (.slice sa S.length sc)).setCell ⟨w.heap.size+1+1,7,none⟩ (.slice ka KL.length kc)).setCell ⟨w.heap.size+1+1,8,none⟩ (.slice ma M.length mc)) from HXO.out.keepB hA (fun k hk=>by iterate 6 rw[Below.heap_setCell _ _ _ _ hk])))
 generalize hW:((((((w2.setCell ⟨w.heap.size+1+1,3,none⟩ (.int .i64 ti)).setCell ⟨w.heap.size+1+1,4,none⟩ (.int .i64 nu)).setCell ⟨w.heap.size+1+1,5,none⟩ (.int .i64 tk)).setCell ⟨w.heap.size+1+1,6,none⟩ (.slice sa S.length sc)).setCell ⟨w.heap.size+1+1,7,none⟩ (.slice ka KL.length kc)).setCell ⟨w.heap.size+1+1,8,none⟩ (.slice ma M.length mc))=W at HX HA0 HB HXO ⊢
 clear hW hA kf k0 k1 k2 k3 k4 k5 k6 k7 k8
 have CR:=hid (MaySnap_any ⟨dn,tv,tss,⟨ti,nu,tk,S,sa,sc,KL,ka,kc,M,ma,mc⟩⟩ W HXO.out.rd HFW.out.1 HFW.out.2.1 HFW.out.2.2.1 HFW.out.2.2.2)
 have HMV:Hid (maySn ⟨dn,tv,tss,⟨ti,nu,tk,S,sa,sc,KL,ka,kc,M,ma,mc⟩⟩=maySV ⟨dn,tv,tss,s⟩):=hid (by unfold maySn maySV;dsimp only;rw[HXV.out])
 rw[HMV.out] at CR
 unfold snapVal StC.sv StC.kv StC.mv at CR
 dsimp only at CR
 have hc:=HB.out
 have k0:=cell_atW hc 0
 have k1:=cell_atW hc 1
 have k2:=cell_atW hc 2
 have k3:=cell_atW hc 3
 have k4:=cell_atW hc 4
 have k5:=cell_atW hc 5
 have k6:=cell_atW hc 6
 have k7:=cell_atW hc 7
 have k8:=cell_atW hc 8
 simp only[List.getElem?_toArray,List.getElem?_cons_zero,List.getElem?_cons_succ] at k0 k1 k2 k3 k4 k5 k6 k7 k8
 clear hc
 cases hr:maySV ⟨dn,tv,tss,s⟩
 ·rw[hr] at CR
  have HRR:=hid hr
  clear hr
  go_wp2_with (go_at_call 29;refine CR.out.mono ?_;rintro e w4 ⟨rfl,hb4⟩;have HB4:=hid hb4)
  exact⟨rfl,PanicsSn.wrong HR.out HRR.out rfl (step HB0.out (step HX.out.below HB4.out))⟩
 ·rw[hr] at CR
  have HRR:=hid hr
  clear hr
  go_upto_region 9 with (go_at_call 29;refine CR.out.mono ?_;rintro e w4 ⟨rfl,hb4⟩;have HX4:=hid (HX.out.later hb4);have HA4:=hid (HA0.out.later hb4);have HO4:=hid (HXO.out.later hb4);have HC4:=hid (HB.out.later hb4);clear hb4)
  clear k0 k1 k2 k3 k4 k5 k6 k7 k8 HX HA0 HXO HB CR
  have hc:=HC4.out
  have ha:=HA4.out
  have hx:=HX4.out.box
  have y1:=cell_atW hx 1
  have zf:=frozen_atW ha
  have k0:=cell_atW hc 0
  have k1:=cell_atW hc 1
  have k2:=cell_atW hc 2
  have k3:=cell_atW hc 3
  have k4:=cell_atW hc 4
  have k5:=cell_atW hc 5
  have k6:=cell_atW hc 6
  have k7:=cell_atW hc 7
  have k8:=cell_atW hc 8
  simp only[List.getElem?_toArray,List.getElem?_cons_zero,List.getElem?_cons_succ] at k0 k1 k2 k3 k4 k5 k6 k7 k8
  have z0:=cell_atW ha 0
  have z1:=cell_atW ha 1
  have z2:=cell_atW ha 2
  have z3:=cell_atW ha 3
  have z4:=cell_atW ha 4
  have z5:=cell_atW ha 5
  have z6:=cell_atW ha 6
  have z7:=cell_atW ha 7
  have z8:=cell_atW ha 8
  simp only[List.getElem?_toArray,List.getElem?_cons_zero,List.getElem?_cons_succ] at z0 z1 z2 z3 z4 z5 z6 z7 z8
  simp only[List.getElem?_toArray,List.getElem?_cons_zero,List.getElem?_cons_succ] at y1
  clear hc ha hx
  go_region
  all_goals
   go_wp2
   refine bodyPost_ret (by simp [results,Tryz.results78,go_sem,z0,z1,z2,z3,z4,z5,z6,z7,z8,zf]<;>rfl) rfl (PanicsSn.ok HR.out HRR.out ⟨ti,nu,tk,S,sa,sc,KL,ka,kc,M,ma,mc⟩ HXV.out rfl ?_ ?_)
   ·refine((HO4.out.keepB HA4.out fun k hk=>?_).later (Below.refl _ _).drew).lower (by omega)
    iterate 9 rw[Below.heap_setCell _ _ _ _ hk]
   ·exact(set9 (step HB0.out HX4.out.below) w.heap.size (Nat.le_refl _) _ _ _ _ _ _ _ _ _).drew
end Cm
end Go.Proofs.YtlnbmblbeaodcaaGreat
