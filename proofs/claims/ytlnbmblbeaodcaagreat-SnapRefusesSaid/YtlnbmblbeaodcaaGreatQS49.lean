/- Texts laid together by program. -/
import Derived.Test.YtlnbmblbeaodcaaGreatQS46
import Derived.Test.YtlnbmblbeaodcaaGreatQS48
/- Arguments that are slices of acts of layer 10, one such act, opened. -/
set_option linter.unusedVariables false
set_option maxRecDepth 8000
set_option linter.unusedSimpArgs false
namespace Go.Proofs.YtlnbmblbeaodcaaGreat
open Lib (hid)
open Go.RowKit Go.ChangeShapes Go.WideShapes Go.Deep
namespace Cm
section
variable {H : Type} {enc : TypeId × Value → H} {W : World} {base : Nat} {sp : Nat → Bool} {held : Bool}
theorem trod_struct6 {P:Program} {t:TypeId} {f0 f1 f2 f3 f4 f5:Field} {fuel:Nat} {cs:List Value} {x:DataW H × List MemPlace} (ht:P.underlying t=some (.struct #[f0,f1,f2,f3,f4,f5])) (h:DataW.trod enc P W base sp held fuel t cs=some x):
  ∃y0 y1 y2 y3 y4 y5 n,cs.length=P.cellsOf t/\DataW.trod enc P W base sp held n f0.type ((cs.drop f0.offset).take (P.cellsOf f0.type))=some y0/\
   DataW.trod enc P W base sp held n f1.type ((cs.drop f1.offset).take (P.cellsOf f1.type))=some y1/\DataW.trod enc P W base sp held n f2.type ((cs.drop f2.offset).take (P.cellsOf f2.type))=some y2/\
   DataW.trod enc P W base sp held n f3.type ((cs.drop f3.offset).take (P.cellsOf f3.type))=some y3/\DataW.trod enc P W base sp held n f4.type ((cs.drop f4.offset).take (P.cellsOf f4.type))=some y4/\
   DataW.trod enc P W base sp held n f5.type ((cs.drop f5.offset).take (P.cellsOf f5.type))=some y5:=by
 obtain⟨xs,n,_,rfl,hl,hlen,hf⟩:=DataW.trod_struct ht h
 match xs,hlen with
 | [y0,y1,y2,y3,y4,y5],_=>exact⟨y0,y1,y2,y3,y4,y5,n,hl,by simpa using hf 0 f0 rfl,by simpa using hf 1 f1 rfl,by simpa using hf 2 f2 rfl,by simpa using hf 3 f3 rfl,by simpa using hf 4 f4 rfl,by simpa using hf 5 f5 rfl⟩
theorem u8_10 {n:Int} (h:(Lit.int .u8 n).wf =true): ∃k:Nat,n=(k:Int)/\k<256:=by
 have:0<=n/\n<256:=by
  simp [Lit.wf,IntKind.min,IntKind.max,IntKind.signed,IntKind.bits] at h
  omega
 exact⟨n.toNat,by omega,by omega⟩
theorem list6 {α:Type} {cs:List α} (h:cs.length=6): ∃c0 c1 c2 c3 c4 c5,cs= [c0,c1,c2,c3,c4,c5]:=by
 match cs,h with
 | [c0,c1,c2,c3,c4,c5],_=>exact⟨c0,c1,c2,c3,c4,c5,rfl⟩
theorem act10_cells (fuel:Nat) (cs:List Value) (x:DataW H × List MemPlace) (h:DataW.trod enc Tryz.prog W base sp held fuel 65 cs=some x): ∃a: {a:Act10 // a.ok},cs=cells10 a.1:=by
 have hce:Tryz.prog.cellsOf 65=6:=by kernel_rfl
 obtain⟨y0,y1,y2,y3,y4,y5,n',hlen,t0,t1,t2,t3,t4,t5⟩:=trod_struct6 Tryz.underlying65 h
 rw[hce] at hlen
 obtain⟨c0,c1,c2,c3,c4,c5,rfl⟩:=list6 hlen
 obtain⟨d0,e0,_,w0⟩:=DataW.trod_int Tryz.underlying5 t0
 obtain⟨d1,e1,_,w1⟩:=DataW.trod_int Tryz.underlying5 t1
 obtain⟨d2,e2,_,w2⟩:=DataW.trod_int Tryz.underlying5 t2
 obtain⟨d3,e3,_,w3⟩:=DataW.trod_int Tryz.underlying5 t3
 obtain⟨d4,e4,_,w4⟩:=DataW.trod_int Tryz.underlying5 t4
 obtain⟨d5,e5,_,w5⟩:=DataW.trod_int Tryz.underlying5 t5
 have e0':c0= .int .u8 d0:=by injection e0
 have e1':c1= .int .u8 d1:=by injection e1
 have e2':c2= .int .u8 d2:=by injection e2
 have e3':c3= .int .u8 d3:=by injection e3
 have e4':c4= .int .u8 d4:=by injection e4
 have e5':c5= .int .u8 d5:=by injection e5
 obtain⟨q0,rfl,h0⟩:=u8_10 w0
 obtain⟨q1,rfl,h1⟩:=u8_10 w1
 obtain⟨q2,rfl,h2⟩:=u8_10 w2
 obtain⟨q3,rfl,h3⟩:=u8_10 w3
 obtain⟨q4,rfl,h4⟩:=u8_10 w4
 obtain⟨q5,rfl,h5⟩:=u8_10 w5
 exact⟨⟨⟨q0,q1,q2,q3,q4,q5⟩,h0,h1,h2,h3,h4,h5⟩,by rw[e0',e1',e2',e3',e4',e5'];rfl⟩
end
section
variable {H : Type} {enc : TypeId × Value → H} {W : World}
def act10A (a:List Act10 × Value):Value:=a.2
def act10OkA (w:World) (a:List Act10 × Value):Prop:=RdA w a.2 a.1
theorem open_act10 {r:Reach} {b0:Nat} {v:Value} {d:DataW H} {p:List MemPlace} (hv:Value.okWide Tryz.prog W r b0 58 v) (h:DataW.Trod enc Tryz.prog W 0 (fun _=>true) true 58 v d p): ∃a:List Act10 × Value,v=act10A a/\act10OkA W a:=by
 obtain⟨a,len,cap,rfl⟩:=okWide_slice Tryz.underlying58 hv
 obtain⟨m,hm⟩:=h
 obtain⟨u,l,hu,hl⟩:=slice_of (f:=fun x: {a:Act10 // a.ok} =>cells10 x.1) Tryz.underlying58 (show Tryz.prog.cellsOf 65=6 by kernel_rfl) (by omega) (fun x=>cells10_length x.1) act10_cells hm
 have:Value.slice a len cap=u:=by simpa [Value.cells] using hu
 subst this
 refine⟨(l.map Subtype.val,_),rfl,⟨RdX.map (f:=cells10) Subtype.val hl,fun x hx=>?_⟩⟩
 obtain⟨y,_,rfl⟩:=List.mem_map.1 hx
 exact y.2
end
end Cm
end Go.Proofs.YtlnbmblbeaodcaaGreat

/- What the laws over a made state share: how few was given, a request's number, a reply's box. -/
set_option linter.unusedVariables false
set_option maxRecDepth 8000
set_option linter.unusedSimpArgs false
namespace Go.Proofs.YtlnbmblbeaodcaaGreat
open Lib (hid)
open Go.RowKit Go.Shelf
namespace Cm

theorem made_few (d:Int) (L:List Act10):Few10 60 (madeA d (L.take 60)):=by
 by_cases h:60<=L.length
 ·exact Few10.made d L 60 h (by omega)
 ·have h1:=Few10.made d L L.length (Nat.le_refl _) (by omega)
  have e:L.take 60=L.take L.length:=by rw[List.take_of_length_le (Nat.le_refl _),List.take_of_length_le (by omega)]
  rw[e]
  have:=h1.num
  have:=h1.tok
  exact⟨h1.right,by omega,by omega⟩
end Cm
end Go.Proofs.YtlnbmblbeaodcaaGreat

/- The statements' Made of layer 11; the document's SameSnap of two snapshots that are the same. -/
set_option linter.unusedVariables false
set_option maxRecDepth 8000
set_option linter.unusedSimpArgs false
namespace Go.Proofs.YtlnbmblbeaodcaaGreat
open Lib (hid)
open Go.RowKit
namespace Cm

set_option maxHeartbeats 2000000 in
theorem Made_any11 (v:Value) (A:List Act10) (D V L:Nat) (w:World) (h:RdA w v A) (hD:D<256) (hV:V<256) (hL:L<256):
  Calls Tryz.prog 33 #[v,.int .u8 (D:Int),.int .u8 (V:Int),.int .u8 (L:Int)] w (fun e w'=> ∃y:StC,e= .returned (snapVal ⟨(D:Int),(V:Int),(L:Int),y⟩)/\y.v=madeA 60 (A.take 60)/\RdSt w' y/\Below w.heap.size w w'):=by
 have HA:Hid (BxAt (w.alloc (.cells #[.int .i64 0,.int .i64 0,.int .i64 0,.int .i64 0,.int .i64 0,.int .i64 0,.slice none 0 0,.slice none 0 0,.slice none 0 0] 46)) w.heap.size (.cells #[.int .i64 0,.int .i64 0,.int .i64 0,.int .i64 0,.int .i64 0,.int .i64 0,.slice none 0 0,.slice none 0 0,.slice none 0 0] 46)):=hid (BxAt.new _ _)
 have HB:=hid (newAlloc w (.cells #[.int .i64 0,.int .i64 0,.int .i64 0,.int .i64 0,.int .i64 0,.int .i64 0,.slice none 0 0,.slice none 0 0,.slice none 0 0] 46))
 have HSZ:Hid ((w.alloc (.cells #[.int .i64 0,.int .i64 0,.int .i64 0,.int .i64 0,.int .i64 0,.int .i64 0,.slice none 0 0,.slice none 0 0,.slice none 0 0] 46)).heap.size =w.heap.size+1):=hid (by simp)
 have C:=hid (Made_any10 v A _ (h.later HB.out))
 clear h
 go_enter Tryz.func33,Tryz.ntmps33
 go_upto_region 1 with fail
 generalize hW:w.alloc (.cells #[.int .i64 0,.int .i64 0,.int .i64 0,.int .i64 0,.int .i64 0,.int .i64 0,.slice none 0 0,.slice none 0 0,.slice none 0 0] 46)=W at HA HB HSZ C ⊢
 clear hW
 go_wp2_with fail
 refine C.out.mono ?_
 rintro e w2 ⟨y,rfl,hy,hf,hb2⟩
 rw[HSZ.out] at hf
 have hA:=HA.out.later hb2
 have HB2:=hid (step HB.out hb2)
 obtain⟨ti,nu,tk,S,sa,sc,KL,ka,kc,M,ma,mc⟩:=y
 have HY:=hid hy
 have HF:=hid hf
 unfold stVal StC.sv StC.kv StC.mv
 dsimp only
 have HAA:=hid hA
 have k0:=cell_atW hA 0
 have k1:=cell_atW hA 1
 have k2:=cell_atW hA 2
 have k3:=cell_atW hA 3
 have k4:=cell_atW hA 4
 have k5:=cell_atW hA 5
 have k6:=cell_atW hA 6
 have k7:=cell_atW hA 7
 have k8:=cell_atW hA 8
 simp only[List.getElem?_toArray,List.getElem?_cons_zero,List.getElem?_cons_succ] at k0 k1 k2 k3 k4 k5 k6 k7 k8
 have kf:=frozen_atW hA
 clear hA hy hf hb2 C HA
 go_wp2
 have h9:=HAA.out.put9 (.int .i64 (D:Int)) (.int .i64 (V:Int)) (.int .i64 (L:Int)) (.int .i64 ti) (.int .i64 nu) (.int .i64 tk) (.slice sa S.length sc) (.slice ka KL.length kc) (.slice ma M.length mc)
 have hf9:FromS (w.heap.size+1) (putS9 w2 w.heap.size (.int .i64 (D:Int)) (.int .i64 (V:Int)) (.int .i64 (L:Int)) (.int .i64 ti) (.int .i64 nu) (.int .i64 tk) (.slice sa S.length sc) (.slice ka KL.length kc) (.slice ma M.length mc)) zeroC10 ⟨ti,nu,tk,S,sa,sc,KL,ka,kc,M,ma,mc⟩:=HF.out.keepB fun g hg _=>by
  unfold putS9
  iterate 9 rw[Below.heap_setCell _ _ _ _ (show g≠w.heap.size by omega)]
 have hb9:=below_put9 HB2.out w.heap.size (Nat.le_refl _) (.int .i64 (D:Int)) (.int .i64 (V:Int)) (.int .i64 (L:Int)) (.int .i64 ti) (.int .i64 nu) (.int .i64 tk) (.slice sa S.length sc) (.slice ka KL.length kc) (.slice ma M.length mc)
 change bodyPost _ _ _ _ _ (putS9 w2 w.heap.size (.int .i64 (D:Int)) (.int .i64 (V:Int)) (.int .i64 (L:Int)) (.int .i64 ti) (.int .i64 nu) (.int .i64 tk) (.slice sa S.length sc) (.slice ka KL.length kc) (.slice ma M.length mc))
 generalize putS9 w2 w.heap.size (.int .i64 (D:Int)) (.int .i64 (V:Int)) (.int .i64 (L:Int)) (.int .i64 ti) (.int .i64 nu) (.int .i64 tk) (.slice sa S.length sc) (.slice ka KL.length kc) (.slice ma M.length mc)=W9 at h9 hf9 hb9 ⊢
 clear k0 k1 k2 k3 k4 k5 k6 k7 k8 kf
 have k0:=cell_atW h9 0
 have k1:=cell_atW h9 1
 have k2:=cell_atW h9 2
 have k3:=cell_atW h9 3
 have k4:=cell_atW h9 4
 have k5:=cell_atW h9 5
 have k6:=cell_atW h9 6
 have k7:=cell_atW h9 7
 have k8:=cell_atW h9 8
 simp only[List.getElem?_toArray,List.getElem?_cons_zero,List.getElem?_cons_succ] at k0 k1 k2 k3 k4 k5 k6 k7 k8
 refine bodyPost_ret (by simp [results,Tryz.results33,go_sem,k0,k1,k2,k3,k4,k5,k6,k7,k8]<;>rfl) rfl ⟨⟨ti,nu,tk,S,sa,sc,KL,ka,kc,M,ma,mc⟩,rfl,HY.out,hf9.rd (RdSt.zero _),hb9⟩
set_option maxHeartbeats 2000000 in
theorem SameSnap_eq (x y:SnapC) (w:World) (h:RdSt w x.st) (h2:RdSt w y.st) (e:x.st.v=y.st.v) (e1:x.done=y.done) (e2:x.tv=y.tv) (e3:x.ts=y.ts):
  Calls Tryz.prog 32 #[snapVal x,snapVal y] w (SaysB true w):=by
 obtain⟨d,v,s,⟨ti,nu,tk,S,sa,sc,KL,ka,kc,M,ma,mc⟩⟩:=x
 obtain⟨d',v',s',⟨ti',nu',tk',S',sa',sc',KL',ka',kc',M',ma',mc'⟩⟩:=y
 dsimp only at e1 e2 e3
 subst e1 e2 e3
 have CS:Hid (∀W,Below w.heap.size w W->Calls Tryz.prog 16 #[.agg #[.int .i64 ti,.int .i64 nu,.int .i64 tk,.slice sa S.length sc,.slice ka KL.length kc,.slice ma M.length mc],.agg #[.int .i64 ti',.int .i64 nu',.int .i64 tk',.slice sa' S'.length sc',.slice ka' KL'.length kc',.slice ma' M'.length mc']] W (SaysB true W)):=hid fun W hb=>same_states ⟨ti,nu,tk,S,sa,sc,KL,ka,kc,M,ma,mc⟩ ⟨ti',nu',tk',S',sa',sc',KL',ka',kc',M',ma',mc'⟩ W (h.later hb) (h2.later hb) e
 clear h h2 e
 unfold snapVal StC.sv StC.kv StC.mv
 dsimp only
 have HB:=hid (stepAlloc (newAlloc w (.cells #[.int .i64 d,.int .i64 v,.int .i64 s,.int .i64 ti,.int .i64 nu,.int .i64 tk,.slice sa S.length sc,.slice ka KL.length kc,.slice ma M.length mc] 46)) (.cells #[.int .i64 d,.int .i64 v,.int .i64 s,.int .i64 ti',.int .i64 nu',.int .i64 tk',.slice sa' S'.length sc',.slice ka' KL'.length kc',.slice ma' M'.length mc'] 46))
 have hA:BxAt ((w.alloc (.cells #[.int .i64 d,.int .i64 v,.int .i64 s,.int .i64 ti,.int .i64 nu,.int .i64 tk,.slice sa S.length sc,.slice ka KL.length kc,.slice ma M.length mc] 46)).alloc (.cells #[.int .i64 d,.int .i64 v,.int .i64 s,.int .i64 ti',.int .i64 nu',.int .i64 tk',.slice sa' S'.length sc',.slice ka' KL'.length kc',.slice ma' M'.length mc'] 46)) w.heap.size (.cells #[.int .i64 d,.int .i64 v,.int .i64 s,.int .i64 ti,.int .i64 nu,.int .i64 tk,.slice sa S.length sc,.slice ka KL.length kc,.slice ma M.length mc] 46):=(BxAt.new w _).later (newAlloc _ _)
 have hE:BxAt ((w.alloc (.cells #[.int .i64 d,.int .i64 v,.int .i64 s,.int .i64 ti,.int .i64 nu,.int .i64 tk,.slice sa S.length sc,.slice ka KL.length kc,.slice ma M.length mc] 46)).alloc (.cells #[.int .i64 d,.int .i64 v,.int .i64 s,.int .i64 ti',.int .i64 nu',.int .i64 tk',.slice sa' S'.length sc',.slice ka' KL'.length kc',.slice ma' M'.length mc'] 46)) (w.heap.size+1) (.cells #[.int .i64 d,.int .i64 v,.int .i64 s,.int .i64 ti',.int .i64 nu',.int .i64 tk',.slice sa' S'.length sc',.slice ka' KL'.length kc',.slice ma' M'.length mc'] 46):=by
  have:=BxAt.new (w.alloc (.cells #[.int .i64 d,.int .i64 v,.int .i64 s,.int .i64 ti,.int .i64 nu,.int .i64 tk,.slice sa S.length sc,.slice ka KL.length kc,.slice ma M.length mc] 46)) (.cells #[.int .i64 d,.int .i64 v,.int .i64 s,.int .i64 ti',.int .i64 nu',.int .i64 tk',.slice sa' S'.length sc',.slice ka' KL'.length kc',.slice ma' M'.length mc'] 46)
  rwa [show(w.alloc (.cells #[.int .i64 d,.int .i64 v,.int .i64 s,.int .i64 ti,.int .i64 nu,.int .i64 tk,.slice sa S.length sc,.slice ka KL.length kc,.slice ma M.length mc] 46)).heap.size =w.heap.size+1 by simp] at this
 have HA:=hid hA
 have HE:=hid hE
 clear hA hE
 go_enter Tryz.func32,Tryz.ntmps32
 go_upto_region 1 with fail
 generalize (w.alloc (.cells #[.int .i64 d,.int .i64 v,.int .i64 s,.int .i64 ti,.int .i64 nu,.int .i64 tk,.slice sa S.length sc,.slice ka KL.length kc,.slice ma M.length mc] 46)).alloc (.cells #[.int .i64 d,.int .i64 v,.int .i64 s,.int .i64 ti',.int .i64 nu',.int .i64 tk',.slice sa' S'.length sc',.slice ka' KL'.length kc',.slice ma' M'.length mc'] 46)=W at HB HA HE ⊢
 have hA:=HA.out
 have hE:=HE.out
 have k0:=cell_atW hA 0
 have k1:=cell_atW hA 1
 have k2:=cell_atW hA 2
 have k3:=cell_atW hA 3
 have k4:=cell_atW hA 4
 have k5:=cell_atW hA 5
 have k6:=cell_atW hA 6
 have k7:=cell_atW hA 7
 have k8:=cell_atW hA 8
 simp only[List.getElem?_toArray,List.getElem?_cons_zero,List.getElem?_cons_succ] at k0 k1 k2 k3 k4 k5 k6 k7 k8
 have y0:=cell_atW hE 0
 have y1:=cell_atW hE 1
 have y2:=cell_atW hE 2
 have y3:=cell_atW hE 3
 have y4:=cell_atW hE 4
 have y5:=cell_atW hE 5
 have y6:=cell_atW hE 6
 have y7:=cell_atW hE 7
 have y8:=cell_atW hE 8
 simp only[List.getElem?_toArray,List.getElem?_cons_zero,List.getElem?_cons_succ] at y0 y1 y2 y3 y4 y5 y6 y7 y8
 clear hA hE HA HE
 go_wp2_with (go_at_call 16;refine(CS.out _ HB.out).mono ?_;rintro e w4 ⟨rfl,hb4⟩)
 go_ret
 exact⟨rfl,step HB.out hb4⟩
end Cm
end Go.Proofs.YtlnbmblbeaodcaaGreat

/- Package snap's PutSnap: any snapshot. -/
set_option linter.unusedVariables false
set_option maxRecDepth 8000
set_option linter.unusedSimpArgs false
namespace Go.Proofs.YtlnbmblbeaodcaaGreat
open Lib (hid)
open Go.RowKit
namespace Cm

set_option maxHeartbeats 2000000 in
theorem PutSnap_any (x:SnapC) (w:World) (h:RdSt w x.st) (h5:x.st.S.length<=1000) (h6:x.st.K.length<=9223372036854775807) (h7: ∀k∈x.st.K,k.line.length<=1000) (hn: ∀k∈x.st.K,k.name.length<=maxLen):
  Calls Tryz.prog 25 #[snapVal x] w (Made (putSn x) w):=by
 have CR:=hid (fun W hb=>MaySnap_any x W (h.later hb) h5 h6 h7 hn)
 unfold putSn
 have CP:maySn x=true-> ∀W W2 g bs,Below w.heap.size w W->WB W g bs W2->bs.length<=900000->Calls Tryz.prog 69 #[.pointer (some ⟨g,0,none⟩),stVal x.st] W2 fun e w'=>e= .returned (.tuple #[])/\WB W g (bs++bytesSt x.st.v) w'/\Kp W2 w':=fun hx W W2 g bs hb hw hl=>by
  unfold maySn at hx
  simp only[Bool.and_eq_true] at hx
  exact SnapPutState W g bs W2 hw x.st hx.2.2.2 (h.later hb) hl
 have CN:maySn x=true-> ∀v,v=x.done\/v=x.tv\/v=x.ts-> ∀W W2 g bs,WB W g bs W2->bs.length<=1000000->Calls Tryz.prog 76 #[.pointer (some ⟨g,0,none⟩),.int .i64 v] W2 fun e w'=>e= .returned (.tuple #[])/\WB W g (bs++be8 v.toNat) w'/\Kp W2 w':=fun hx v hv W W2 g bs hw hl=>by
  unfold maySn highF at hx
  simp at hx
  exact SnapPutNum W g bs W2 hw v (by omega) (by omega) hl
 clear h h5 h6 h7 hn
 cases hx:maySn x
 case false=>
  rw[hx] at CR
  rw[if_neg (by simp)]
  clear hx CP CN
  unfold snapVal StC.sv StC.kv StC.mv at CR ⊢
  obtain⟨d,v,s,ti,nu,tk,S,sa,sc,K,ka,kc,M,ma,mc⟩:=x
  dsimp only at CR ⊢
  go_enter Tryz.func25,Tryz.ntmps25
  go_upto_region 1 with fail
  have hst:=newAlloc w (.cells #[.int .i64 d,.int .i64 v,.int .i64 s,.int .i64 ti,.int .i64 nu,.int .i64 tk,.slice sa S.length sc,.slice ka K.length kc,.slice ma M.length mc] 46)
  have hq:(w.alloc (.cells #[.int .i64 d,.int .i64 v,.int .i64 s,.int .i64 ti,.int .i64 nu,.int .i64 tk,.slice sa S.length sc,.slice ka K.length kc,.slice ma M.length mc] 46)).heap[w.heap.size]?=some (Obj.cells #[.int .i64 d,.int .i64 v,.int .i64 s,.int .i64 ti,.int .i64 nu,.int .i64 tk,.slice sa S.length sc,.slice ka K.length kc,.slice ma M.length mc] 46):=by show(w.heap.push _)[w.heap.size]?= _;simp
  have k0:=cell_atW hq 0
  have k1:=cell_atW hq 1
  have k2:=cell_atW hq 2
  have k3:=cell_atW hq 3
  have k4:=cell_atW hq 4
  have k5:=cell_atW hq 5
  have k6:=cell_atW hq 6
  have k7:=cell_atW hq 7
  have k8:=cell_atW hq 8
  simp only[List.getElem?_toArray,List.getElem?_cons_zero,List.getElem?_cons_succ] at k0 k1 k2 k3 k4 k5 k6 k7 k8
  clear hq
  go_wp2_with (go_at_call 29;refine(CR.out _ hst).mono ?_;rintro e w2 ⟨rfl,hb2⟩)
  go_ret2
  exact⟨.slice none 0 0,rfl,World.ownsRow_nil _ _ _ _,step hst hb2⟩
 case true=>
  rw[hx] at CR
  rw[if_pos rfl]
  have CP:=hid (CP hx)
  have C1:=hid (CN hx x.done (.inl rfl))
  have C2:=hid (CN hx x.tv (.inr (.inl rfl)))
  have C3:=hid (CN hx x.ts (.inr (.inr rfl)))
  have hE:bytesSn x= []++be8 x.done.toNat++be8 x.tv.toNat++be8 x.ts.toNat++bytesSt x.st.v:=by simp [bytesSn]
  rw[hE]
  clear hx CN hE
  generalize hB:bytesSt x.st.v=B at CP ⊢
  clear hB
  unfold snapVal StC.sv StC.kv StC.mv at CR ⊢
  unfold stVal StC.sv StC.kv StC.mv at CP
  obtain⟨d,v,s,ti,nu,tk,S,sa,sc,K,ka,kc,M,ma,mc⟩:=x
  dsimp only at CR CP C1 C2 C3 ⊢
  obtain⟨R,hR⟩: ∃R,R= []++be8 d.toNat++be8 v.toNat++be8 s.toNat++B:=⟨_,rfl⟩
  rw[<-hR]
  have HR:=hid hR
  clear hR
  go_enter Tryz.func25,Tryz.ntmps25
  go_upto_region 1 with fail
  have hst:=newAlloc w (.cells #[.int .i64 d,.int .i64 v,.int .i64 s,.int .i64 ti,.int .i64 nu,.int .i64 tk,.slice sa S.length sc,.slice ka K.length kc,.slice ma M.length mc] 46)
  have hq:(w.alloc (.cells #[.int .i64 d,.int .i64 v,.int .i64 s,.int .i64 ti,.int .i64 nu,.int .i64 tk,.slice sa S.length sc,.slice ka K.length kc,.slice ma M.length mc] 46)).heap[w.heap.size]?=some (Obj.cells #[.int .i64 d,.int .i64 v,.int .i64 s,.int .i64 ti,.int .i64 nu,.int .i64 tk,.slice sa S.length sc,.slice ka K.length kc,.slice ma M.length mc] 46):=by show(w.heap.push _)[w.heap.size]?= _;simp
  have k0:=cell_atW hq 0
  have k1:=cell_atW hq 1
  have k2:=cell_atW hq 2
  have k3:=cell_atW hq 3
  have k4:=cell_atW hq 4
  have k5:=cell_atW hq 5
  have k6:=cell_atW hq 6
  have k7:=cell_atW hq 7
  have k8:=cell_atW hq 8
  simp only[List.getElem?_toArray,List.getElem?_cons_zero,List.getElem?_cons_succ] at k0 k1 k2 k3 k4 k5 k6 k7 k8
  have HST:=hid hst
  have HQ:=hid hq
  generalize hW:w.alloc _=W at HST HQ hq k0 k1 k2 k3 k4 k5 k6 k7 k8 ⊢
  generalize w.heap.size=xb at HQ hq k0 k1 k2 k3 k4 k5 k6 k7 k8 ⊢
  clear hq hst hW
  go_upto_region 3 with (go_at_call 29;refine(CR.out _ HST.out).mono ?_;rintro e w2 ⟨rfl,hb2⟩)
  have HB:=hid (step HST.out hb2)
  have HQ:=hid ((hb2.block xb (get_ltW HQ.out)).trans HQ.out)
  clear hb2 k0 k1 k2 k3 k4 k5 k6 k7 k8 CR HST
  go_upto_region 4 with fail
  have HW:Hid (WB w2 w2.heap.size [] (w2.alloc (.cells #[.slice none 0 0] 104))):=hid (WB.new w2 _ rfl)
  have HQ:=hid (((newAlloc w2 (.cells #[.slice none 0 0] 104)).block xb (get_ltW HQ.out)).trans HQ.out)
  generalize hW:w2.alloc _=W2 at HW HQ ⊢
  obtain⟨g,hg⟩: ∃g,w2.heap.size=g:=⟨_,rfl⟩
  have HG:=hid hg
  rw[hg] at HW ⊢
  clear hW hg
  have hq:=HQ.out
  have k0:=cell_atW hq 0
  have k1:=cell_atW hq 1
  have k2:=cell_atW hq 2
  have k3:=cell_atW hq 3
  have k4:=cell_atW hq 4
  have k5:=cell_atW hq 5
  have k6:=cell_atW hq 6
  have k7:=cell_atW hq 7
  have k8:=cell_atW hq 8
  simp only[List.getElem?_toArray,List.getElem?_cons_zero,List.getElem?_cons_succ] at k0 k1 k2 k3 k4 k5 k6 k7 k8
  clear hq
  go_wp2_with fail
  refine(C1.out _ _ _ _ HW.out (by simp [be8_length])).mono ?_
  rintro e u0 ⟨rfl,hw2,hk2⟩
  have HQ:=hid (hk2 xb _ _ HQ.out (by decide) (by decide))
  have HW:=hid hw2
  clear hw2 hk2 C1 k0 k1 k2 k3 k4 k5 k6 k7 k8
  have hq:=HQ.out
  have k0:=cell_atW hq 0
  have k1:=cell_atW hq 1
  have k2:=cell_atW hq 2
  have k3:=cell_atW hq 3
  have k4:=cell_atW hq 4
  have k5:=cell_atW hq 5
  have k6:=cell_atW hq 6
  have k7:=cell_atW hq 7
  have k8:=cell_atW hq 8
  simp only[List.getElem?_toArray,List.getElem?_cons_zero,List.getElem?_cons_succ] at k0 k1 k2 k3 k4 k5 k6 k7 k8
  clear hq
  go_wp2_with fail
  refine(C2.out _ _ _ _ HW.out (by simp [be8_length])).mono ?_
  rintro e u1 ⟨rfl,hw2,hk2⟩
  have HQ:=hid (hk2 xb _ _ HQ.out (by decide) (by decide))
  have HW:=hid hw2
  clear hw2 hk2 C2 k0 k1 k2 k3 k4 k5 k6 k7 k8
  have hq:=HQ.out
  have k0:=cell_atW hq 0
  have k1:=cell_atW hq 1
  have k2:=cell_atW hq 2
  have k3:=cell_atW hq 3
  have k4:=cell_atW hq 4
  have k5:=cell_atW hq 5
  have k6:=cell_atW hq 6
  have k7:=cell_atW hq 7
  have k8:=cell_atW hq 8
  simp only[List.getElem?_toArray,List.getElem?_cons_zero,List.getElem?_cons_succ] at k0 k1 k2 k3 k4 k5 k6 k7 k8
  clear hq
  go_wp2_with fail
  refine(C3.out _ _ _ _ HW.out (by simp [be8_length])).mono ?_
  rintro e u2 ⟨rfl,hw2,hk2⟩
  have HQ:=hid (hk2 xb _ _ HQ.out (by decide) (by decide))
  have HW:=hid hw2
  clear hw2 hk2 C3 k0 k1 k2 k3 k4 k5 k6 k7 k8
  have hq:=HQ.out
  have k0:=cell_atW hq 0
  have k1:=cell_atW hq 1
  have k2:=cell_atW hq 2
  have k3:=cell_atW hq 3
  have k4:=cell_atW hq 4
  have k5:=cell_atW hq 5
  have k6:=cell_atW hq 6
  have k7:=cell_atW hq 7
  have k8:=cell_atW hq 8
  simp only[List.getElem?_toArray,List.getElem?_cons_zero,List.getElem?_cons_succ] at k0 k1 k2 k3 k4 k5 k6 k7 k8
  clear hq
  go_wp2_with fail
  refine(CP.out _ _ _ _ HB.out HW.out (by simp [be8_length])).mono ?_
  rintro e w3 ⟨rfl,hw3,_⟩
  obtain⟨a,c,hbox,hown⟩:=WB.at (w2:=w3) hw3
  have HW:=hid hw3
  rw[<-HR.out] at hbox hown
  have HO:=hid hown
  have g0:=cell_atW hbox 0
  simp only[List.getElem?_toArray,List.getElem?_cons_zero] at g0
  clear hw3 hbox hown k0 k1 k2 k3 k4 k5 k6 k7 k8 CP
  go_wp2_with fail
  go_ret2
  refine⟨_,rfl,own_lowerX HO.out (by have:=HB.out.size;have:=HG.out;omega),step HB.out HW.out.below⟩
end Cm
end Go.Proofs.YtlnbmblbeaodcaaGreat
