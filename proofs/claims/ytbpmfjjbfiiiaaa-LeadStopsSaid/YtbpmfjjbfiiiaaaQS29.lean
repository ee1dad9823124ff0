/- Texts laid together by program. -/
import Derived.Test.YtbpmfjjbfiiiaaaQS24
import Derived.Test.YtbpmfjjbfiiiaaaQS28
import Derived.ProofKit
import Derived.OpenShut
import Derived.Deep.Strs
import Derived.Deep.Slices
import Derived.Lib.SmallJoins
import Derived.SizedLaws
/- awake of layer 17. -/
set_option linter.unusedVariables false
set_option maxRecDepth 8000
set_option linter.unusedSimpArgs false
namespace Go.Proofs.Ytbpmfjjbfiiiaaa
open Lib (hid)
open Go.RowKit
namespace Ld
open Cm Ac Pl Vw

theorem DidL.below {a w w':World} {B g m:Nat} {s s':LedV} {pv bv:Value} (hd:DidL g m s' pv bv w w') (h:HasL w g m s pv bv) (hB:Below B a w) (hm:B<=m):Below B a w':=by
 obtain⟨_,_,_,hc,_,_⟩:=hd
 have h1:=h.gm
 have h2:=h.lt
 exact hB.trans (hc.toBelow (by omega) (fun i q=>by have:=h.low i q;omega))
theorem LNew_yes {n:Int} (hn:someF n=true) (w:World):Calls Try.prog 17 #[.int .i64 n] w (fun e w'=>e= .returned (.pointer (some ⟨w.heap.size,0,none⟩))/\HasL w' w.heap.size w.heap.size (idleL n 0) (.slice none 0 0) (.slice none 0 0)/\Below w.heap.size w w'):=
 (LNew_any n w).mono fun e w' q=>by rw[if_pos hn] at q;exact q
theorem LNew_no {n:Int} (hn: ¬someF n=true) (w:World):Calls Try.prog 17 #[.int .i64 n] w (fun e w'=>e= .returned (.pointer none)/\w'=w):=
 (LNew_any n w).mono fun e w' q=>by rw[if_neg hn] at q;exact q
def pA:PromC:=⟨0,2,0,0,0,[],none,0⟩
def sA:LedV:=⟨1,2,4,[true,false,false,false,false,false,false],[],[],3,0,0,0⟩
def sB:LedV:=⟨1,2,4,[true,false,false,false,false,false,false],[],[⟨false,4,0,0,7,[]⟩],4,4,3,7⟩
theorem hearA:hearF (askL 1 4) pA.val=(sA,true,0):=by rfl
theorem addA:addF sA 2 7 []=(sB,3,0):=by rfl
theorem slotsA:slotsF sB 2= [⟨3,4,⟨false,4,0,0,7,[]⟩⟩]:=by rfl
set_option maxHeartbeats 8000000 in
theorem awake17_ok (w:World):Calls Try.prog 16 #[] w (SaysB true w):=by
 have CN:=hid (LNew_yes (n:=1) rfl w)
 have CB:=hid (fun W (h:HasL W w.heap.size w.heap.size (idleL 1 0) (.slice none 0 0) (.slice none 0 0))=>LBegin_any _ _ _ 4 _ _ W h)
 have CH:=hid (fun W pv bv (h:HasL W w.heap.size w.heap.size (askL 1 4) pv bv)=>LHear_any _ _ _ pA _ _ W h (RdV.nil _) ⟨(fun k hk=>by cases hk),(fun x hx=>by cases hx)⟩ rfl (by decide) rfl (fun q hq=>by cases hq) (by decide))
 have CA:=hid (fun W pv bv (h:HasL W w.heap.size w.heap.size sA pv bv)=>LAdd_any _ _ _ 2 7 (.slice none 0 0) [] _ _ W h (RdX.nil _) (by decide) (by decide))
 have CP:=hid (fun W pv bv (h:HasL W w.heap.size w.heap.size sB pv bv)=>LPhase_any _ _ _ _ _ W h)
 have CX:=hid (fun W pv bv (h:HasL W w.heap.size w.heap.size sB pv bv)=>LNext_any _ _ _ _ _ W h)
 have CS:=hid (fun W pv bv (h:HasL W w.heap.size w.heap.size sB pv bv)=>LSlots_any _ _ _ 2 _ _ W h (by decide) (by decide) (by decide) (by decide) (by intro b hb;rw[show sB.bats= [⟨false,4,0,0,7,[]⟩] from rfl,List.mem_singleton] at hb;rw[hb];decide))
 have C0:=hid (fun W=>LNew_no (n:=0) (by decide) W)
 unfold BeginL at CB
 rw[show beginF (idleL 1 0) 4=(askL 1 4,0) from rfl] at CB
 unfold HearL at CH
 rw[hearA] at CH
 unfold AddL at CA
 rw[addA] at CA
 rw[slotsA] at CS
 unfold promVal PromC.u pA at CH
 dsimp only[List.length_nil] at CB CH CA
 go_enter Try.func16,Try.ntmps16
 go_upto_region 2 with (go_at_call 17;refine CN.out.mono ?_;rintro e w1 ⟨rfl,h1,hb1⟩;have H1:=hid h1;have HB1:=hid hb1;clear h1 hb1)
 go_upto_region 5 with (go_at_call 19;refine(CB.out _ H1.out).mono ?_;rintro e w2 ⟨rfl,hd⟩;have HB2:=hid (hd.below H1.out HB1.out (Nat.le_refl _));obtain⟨pv2,bv2,h2, -⟩:=hd;have H2:=hid h2;clear h2)
 go_upto_region 6 with (go_at_call 18;refine(CH.out _ _ _ H2.out).mono ?_;rintro e w3 ⟨rfl,hd⟩;have HB3:=hid (hd.below H2.out HB2.out (Nat.le_refl _));obtain⟨pv3,bv3,h3, -⟩:=hd;have H3:=hid h3;clear h3)
 go_upto_region 7 with (go_at_call 9;refine(CA.out _ _ _ H3.out).mono ?_;rintro e w4 ⟨rfl,hd⟩;have HB4:=hid (hd.below H3.out HB3.out (Nat.le_refl _));obtain⟨pv4,bv4,h4, -⟩:=hd;have H4:=hid h4;clear h4)
 go_wp2_with fail
 go_at_call 21
 refine(CP.out _ _ _ H4.out).mono ?_
 rintro e w5 ⟨rfl,rfl⟩
 go_wp2_with fail
 go_at_call 8
 refine(CX.out _ _ _ H4.out).mono ?_
 rintro e w5 ⟨rfl,rfl⟩
 go_wp2_with fail
 go_at_call 13
 refine(CS.out _ _ _ H4.out).mono ?_
 rintro e w5 ⟨va,vc,M,rfl,hm, -,hb5⟩
 have hml:M.length=1:=by have:=congrArg List.length hm;rw[valsV_length] at this;exact this
 rw[hml]
 have HB5:=hid (HB4.out.trans (hb5.mono HB4.out.size))
 clear hm hml hb5
 go_wp2_with fail
 go_at_call 17
 refine(C0.out _).mono ?_
 rintro e w6 ⟨rfl,rfl⟩
 go_wp2
 go_ret
 exact⟨by first | rfl | simp [sB],HB5.out⟩
end Ld
end Go.Proofs.Ytbpmfjjbfiiiaaa

/- Arguments that are batches, tips, opened. -/
set_option linter.unusedVariables false
set_option maxRecDepth 8000
set_option linter.unusedSimpArgs false
namespace Go.Proofs.Ytbpmfjjbfiiiaaa
open Lib (hid)
open Go.RowKit Go.ChangeShapes Go.WideShapes Go.Deep
namespace Cm

theorem list_ofB {α:Type} {P:Nat->α->Prop} : ∀n,(∀i,i<n-> ∃g,P i g)-> ∃l:List α,l.length=n/\ ∀i (h:i<l.length),P i l[i]
 | 0,_=>⟨[],rfl,fun i h=>absurd h (Nat.not_lt_zero _)⟩
 | n+1,h=>by
  obtain⟨l,hl,hp⟩:=list_ofB n (fun i hi=>h i (by omega))
  obtain⟨g,hg⟩:=h n (by omega)
  refine⟨l++ [g],by simp [hl],fun i hi=>?_⟩
  rw[List.length_append,List.length_singleton,hl] at hi
  by_cases q:i<n
  ·rw[List.getElem_append_left (by omega)]
   exact hp i (by omega)
  ·obtain rfl:i=n:=by omega
   rw[List.getElem_append_right (by omega)]
   simpa [hl] using hg
section
variable {H : Type} {enc : TypeId × Value → H} {W : World} {base : Nat} {sp : Nat → Bool} {held : Bool}
end

section
variable {H : Type} {enc : TypeId × Value → H} {W : World}
end
end Cm
end Go.Proofs.Ytbpmfjjbfiiiaaa

/- Slices of whatever elements, bytes in them, opened within the form's reach. -/
set_option linter.unusedVariables false
set_option maxRecDepth 8000
set_option linter.unusedSimpArgs false
namespace Go.Proofs.Ytbpmfjjbfiiiaaa
open Lib (hid)
open Go.RowKit Go.ChangeShapes Go.WideShapes Go.Deep
namespace Ac
open Cm

section
variable {H : Type} {enc : TypeId × Value → H} {W : World}

theorem weightsAll_mem {P:Program} {e:TypeId} {d:DataW H} {n:Nat} (hn:n∈d.weights P e): ∀l:List (DataW H),d∈l->n∈DataW.weightsAll P e l
 | [],h=>by cases h
 | x::l,h=>by
  rw[DataW.weightsAll,List.mem_append]
  rcases List.mem_cons.1 h with rfl | h
  ·exact .inl hn
  ·exact .inr (weightsAll_mem hn l h)
theorem slice_ofW {α:Type} {sz:Nat} {f:α->List Value} {t e:TypeId} (hu:Try.prog.underlying t=some (.slice e)) (hce:Try.prog.cellsOf e=sz) (hsz:0<sz) (hf: ∀x,(f x).length =sz)
  (hel: ∀fuel cs x,DataW.trod enc Try.prog W 0 (fun _=>true) true fuel e cs=some x->(∀n∈x.1.weights Try.prog e,n<=reachBytes)-> ∃y:α,cs=f y)
  {fuel:Nat} {cs:List Value} {x:DataW H × List MemPlace} (h:DataW.trod enc Try.prog W 0 (fun _=>true) true fuel t cs=some x) (hw: ∀n∈x.1.weights Try.prog t,n<=reachBytes): ∃v l,cs= [v]/\RdX sz f W v l:=by
 rcases open_slice hu h with ⟨h0,_⟩ | ⟨ad,len,cap,m,n,D,Pl,h0,_,hl,hm,hmm,hx,hi⟩
 ·exact⟨_,[],h0,RdX.nil W⟩
 ·have hm':m=cap:=by rw[hmm];rfl
  subst hm'
  clear hmm
  have hwi: ∀i,i<len-> ∀n∈(D i).weights Try.prog e,n<=reachBytes:=fun i hil n hn=>by
   refine hw n ?_
   rw[hx]
   simp only[DataW.weights,hu,List.mem_cons,List.mem_append]
   exact .inr (.inl (weightsAll_mem hn _ (List.mem_map.2 ⟨i,List.mem_range.2 hil,rfl⟩)))
  have key: ∀i,i<len-> ∃g:α,∀k u,(f g)[k]?=some u->W.cell? (ad.add (i*sz+k))=some u:=by
   intro i hil
   obtain⟨cs',hc,ht⟩:=hi i (by omega)
   rw[hce] at hc
   obtain⟨y,rfl⟩:=hel _ _ _ ht (hwi i hil)
   obtain⟨_,hcl,hat⟩:=World.cells?_some hc
   refine⟨y,fun k u hk=>?_⟩
   have hks:k<(f y).length :=(List.getElem?_eq_some_iff.1 hk).1
   have a0:=hat k (by rw[hf] at hks;exact hks)
   rw[Go.Deep.add_add] at a0
   rw[<-hk,<-a0]
  obtain⟨l,hll,hp⟩:=list_ofB len key
  refine⟨_,l,h0,some ad,m,by rw[hll],by omega,hm,(fun q=>by cases q),fun x hx hne=>?_⟩
  cases hx
  obtain⟨b,o,spot⟩:=ad
  have hpos:0<l.length:=List.length_pos_iff.2 hne
  have h0l:0<(f l[0]).length :=by rw[hf];exact hsz
  have hc:=hp 0 hpos 0 _ (List.getElem?_eq_getElem h0l)
  have hspot:spot=none:=by simpa [Addr.add] using World.cell?_spot hc
  subst hspot
  refine⟨rfl,fun i hil k u hu=>?_⟩
  have hadd: ∀j,(⟨b,o,none⟩:Addr).add j=⟨b,o+j,none⟩:=fun j=>by unfold Addr.add;split<;>simp_all
  have:=hp i hil k u hu
  rw[hadd] at this
  exact this
theorem bytes_ofW {fuel:Nat} {cs:List Value} {x:DataW H × List MemPlace} (h:DataW.trod enc Try.prog W 0 (fun _=>true) true fuel 40 cs=some x) (hw: ∀n∈x.1.weights Try.prog 40,n<=reachBytes):
  ∃(a:Option Addr) (bs:List UInt8) (c:Nat),cs= [.slice a bs.length c]/\Rd W (.slice a bs.length c) bs/\bs.length<=140737488355328:=by
 rcases open_ints Try.underlying40 Try.underlying5 (by kernel_rfl) h with ⟨hcs,_⟩ | ⟨x',l,c,zs,hcs,_,hl,hm,hz,hdd,hcell,hwz⟩
 ·exact⟨none,[],0,hcs,(IsRow.rd (.inl ⟨rfl,rfl,rfl,rfl⟩:IsRow .u8 W none 0 0 [])).1,by simp⟩
 ·have hr:IsRow .u8 W (some x') l c zs:=.inr ⟨_,rfl,hl,hm,by simpa using hz,hcell,hwz⟩
  obtain⟨h1,h2⟩:=hr.rd
  have hb:Try.prog.bytesOf 5=1:=by kernel_rfl
  have hlen:l<=140737488355328:=by
   have:=hw ((lits .u8 (zs.take l):List (DataW H)).length +(lits .u8 (zs.drop l):List (DataW H)).length) (by
    rw[congrArg Prod.fst hdd]
    simp [DataW.weights,Try.underlying40,hb])
   have hrb:=reachBytes_lt
   simp [lits] at this
   simp at hz
   omega
  refine⟨some x',bytesOf zs l,c,?_,?_,?_⟩
  ·rw[hcs,h2]
  ·rw[h2];exact h1
  ·rw[h2];exact hlen
theorem _root_.Go.Proofs.Ytbpmfjjbfiiiaaa.RdX.mapQ {α β:Type} {sz:Nat} {f:β->List Value} (g:α->β) {w:World} {v:Value} {l:List α} (h:RdX sz (fun x=>f (g x)) w v l):RdX sz f w v (l.map g):=by
 obtain⟨a,cap,hv,h1,h2,h3,h4⟩:=h.ex
 refine⟨a,cap,by rw[List.length_map];exact hv,by rw[List.length_map];exact h1,h2,fun q=>by obtain⟨q1,q2⟩:=h3 q;subst q1;exact⟨rfl,q2⟩,fun x hx hp=>?_⟩
 obtain⟨hs,hc⟩:=h4 x hx (fun q=>hp (by rw[q];rfl))
 refine⟨hs,fun i hi k u hu=>?_⟩
 rw[List.length_map] at hi
 rw[List.getElem_map] at hu
 exact hc i hi k u hu
end
end Ac
end Go.Proofs.Ytbpmfjjbfiiiaaa

/- Arguments that are slices of promises by numbers, opened; their bytes within the form's reach. -/
set_option linter.unusedVariables false
set_option maxRecDepth 8000
set_option linter.unusedSimpArgs false
namespace Go.Proofs.Ytbpmfjjbfiiiaaa
open Lib (hid)
open Go.RowKit Go.ChangeShapes Go.WideShapes Go.Deep
namespace Pl
open Cm Ac

section
variable {H : Type} {enc : TypeId × Value → H} {W : World}
theorem u8_bounds {d:Int} (h:(Lit.int .u8 d).wf =true):0<=d/\d<256:=by
 simp [Lit.wf,IntKind.min,IntKind.max,IntKind.signed,IntKind.bits] at h
 omega
theorem vt_cells (fuel:Nat) (cs:List Value) (x:DataW H × List MemPlace) (h:DataW.trod enc Try.prog W 0 (fun _=>true) true fuel 89 cs=some x) (hw: ∀n∈x.1.weights Try.prog 89,n<=reachBytes): ∃a: {a:VtC // VtOk W a},cs=cellsT a.1:=by
 have hce:Try.prog.cellsOf 89=3:=by kernel_rfl
 have hcg:Try.prog.cellsOf 40=1:=by kernel_rfl
 obtain⟨xs,n',_,hx,hlen,hxl,hfi⟩:=DataW.trod_struct Try.underlying89 h
 match xs,hxl with
 | [y0,y1,y2],_=>
  have t0:=hfi 0 _ rfl
  have t1:=hfi 1 _ rfl
  have t2:=hfi 2 _ rfl
  simp only[List.getElem?_cons_zero,List.getElem?_cons_succ] at t0 t1 t2
  rw[hce] at hlen
  match cs,hlen with
  | [c0,c1,c2],_=>
   obtain⟨d,e0,v0⟩:=DataW.trod_int Try.underlying5 t0
   obtain⟨m,e1,v1⟩:=DataW.trod_int Try.underlying5 t1
   obtain⟨a,bs,c,e3,hr,hl⟩:=bytes_ofW t2 (fun n hn=>hw n (by
    rw[hx]
    simp only[DataW.weights,Try.underlying89,List.map_cons,List.map_nil,DataW.weightsEach,List.mem_append]
    exact .inr (.inr (.inl hn))))
   change List.take (Try.prog.cellsOf 40) (List.drop 2 [c0,c1,c2])= _ at e3
   rw[hcg] at e3
   have e0':c0= .int .u8 d:=by injection e0
   have e1':c1= .int .u8 m:=by injection e1
   have e3':c2= .slice a bs.length c:=by injection e3
   have b0:=u8_bounds v0.2
   have b1:=u8_bounds v1.2
   exact⟨⟨⟨⟨d,m,bs⟩,a,c⟩,⟨b0.1,b0.2,b1.1,b1.2,hr,hl⟩⟩,by rw[e0',e1',e3'];rfl⟩
theorem told_cells (fuel:Nat) (cs:List Value) (x:DataW H × List MemPlace) (h:DataW.trod enc Try.prog W 0 (fun _=>true) true fuel 24 cs=some x) (hw: ∀n∈x.1.weights Try.prog 24,n<=reachBytes): ∃a: {a:ToldC // ToldOk W a},cs=cellsD a.1:=by
 have hce:Try.prog.cellsOf 24=5:=by kernel_rfl
 have hcg:Try.prog.cellsOf 22=1:=by kernel_rfl
 obtain⟨xs,n',_,hx,hlen,hxl,hfi⟩:=DataW.trod_struct Try.underlying24 h
 match xs,hxl with
 | [y0,y1,y2,y3,y4],_=>
  have t0:=hfi 0 _ rfl
  have t1:=hfi 1 _ rfl
  have t2:=hfi 2 _ rfl
  have t3:=hfi 3 _ rfl
  have t4:=hfi 4 _ rfl
  simp only[List.getElem?_cons_zero,List.getElem?_cons_succ] at t0 t1 t2 t3 t4
  rw[hce] at hlen
  match cs,hlen with
  | [c0,c1,c2,c3,c4],_=>
   obtain⟨d,e0,v0⟩:=DataW.trod_int Try.underlying5 t0
   obtain⟨m,e1,v1⟩:=DataW.trod_int Try.underlying5 t1
   obtain⟨q,e2,v2⟩:=DataW.trod_int Try.underlying5 t2
   obtain⟨z,e3,v3⟩:=DataW.trod_int Try.underlying5 t3
   obtain⟨v,l,e4,hl⟩:=slice_ofW (f:=fun a: {a:VtC // VtOk W a} =>cellsT a.1) Try.underlying22 (show Try.prog.cellsOf 89=3 by kernel_rfl) (by omega) (fun a=>cellsT_length a.1) vt_cells t4 (fun n hn=>hw n (by
    rw[hx]
    simp only[DataW.weights,Try.underlying24,List.map_cons,List.map_nil,DataW.weightsEach,List.mem_append]
    exact .inr (.inr (.inr (.inr (.inl hn))))))
   change List.take (Try.prog.cellsOf 22) (List.drop 4 [c0,c1,c2,c3,c4])= _ at e4
   rw[hcg] at e4
   have e0':c0= .int .u8 d:=by injection e0
   have e1':c1= .int .u8 m:=by injection e1
   have e2':c2= .int .u8 q:=by injection e2
   have e3':c3= .int .u8 z:=by injection e3
   have e4':c4=v:=by injection e4
   have hrt:RdT W v (l.map Subtype.val):=⟨RdX.mapQ (f:=cellsT) Subtype.val hl,fun y hy=>by
    obtain⟨s,_,rfl⟩:=List.mem_map.1 hy
    exact s.2⟩
   obtain⟨va,vc,hv⟩:=hrt.row.form
   subst hv
   exact⟨⟨⟨d,m,q,z,l.map Subtype.val,va,vc⟩,⟨u8_bounds v0.2,u8_bounds v1.2,u8_bounds v2.2,u8_bounds v3.2,hrt⟩⟩,by rw[e0',e1',e2',e3',e4'];rfl⟩
end
end Pl
end Go.Proofs.Ytbpmfjjbfiiiaaa

/- Arguments that are promises by numbers, by value, opened. -/
set_option linter.unusedVariables false
set_option maxRecDepth 8000
set_option linter.unusedSimpArgs false
namespace Go.Proofs.Ytbpmfjjbfiiiaaa
open Lib (hid)
open Go.RowKit Go.ChangeShapes Go.WideShapes Go.Deep
namespace Pl
open Cm Ac

section
variable {H : Type} {enc : TypeId × Value → H} {W : World}
def toldV (a:ToldC):Value:=.agg #[.int .u8 a.done,.int .u8 a.view,.int .u8 a.slot,.int .u8 a.time,a.u]
theorem open_told {r:Reach} {b0:Nat} {v:Value} {d:DataW H} {p:List MemPlace} (hv:Value.okWide Try.prog W r b0 24 v) (h:DataW.Trod enc Try.prog W 0 (fun _=>true) true 24 v d p) (hw: ∀n∈d.weights Try.prog 24,n<=reachBytes): ∃a:ToldC,v=toldV a/\ToldOk W a:=by
 obtain⟨cs,rfl,hs⟩:=okWide_struct Try.underlying24 hv
 obtain⟨m,hm⟩:=h
 obtain⟨⟨a,ha⟩,hc⟩:=told_cells m _ _ hm hw
 exact⟨a,by unfold toldV;congr 1;apply Array.ext';simpa [Value.cells,cellsD] using hc,ha⟩
end
end Pl
end Go.Proofs.Ytbpmfjjbfiiiaaa

/- LeadQuorum of layer 17, as a contract. -/
set_option linter.unusedVariables false
set_option maxRecDepth 8000
set_option linter.unusedSimpArgs false
namespace Go.Proofs.Ytbpmfjjbfiiiaaa
open Lib (hid)
open Go.RowKit
namespace Ld
open Cm Ac Pl Vw

theorem told_okC {w:World} {x:ToldC} (ho:ToldOk w x):ToldB x.val:=by
 refine⟨ho.d.1,ho.v.1,ho.s.1,ho.t.1,ho.t.2,fun v hv=>?_⟩
 obtain⟨y,hy,rfl⟩:=List.mem_map.1 hv
 exact⟨(ho.rd.ok y hy).b0,(ho.rd.ok y hy).b1⟩
theorem HasL.far {w w':World} {g m h:Nat} {s:LedV} {pv bv:Value} {cs:Array Value} {t:TypeId} (k:HasL w g m s pv bv) (hg:w.grownBy w' (some h)) (hx:w.heap[h]?=some (.cells cs t)) (n1:79≠t) (n2:59≠t) (n3:48≠t) (n4:42≠t) (n5:71≠t):HasL w' g m s pv bv:=by
 obtain⟨P,h1,h2⟩:=k.ps
 obtain⟨B,h3,h4⟩:=k.bs
 refine⟨(hg.block g k.lt (fun q=>?_)).trans k.ex,⟨P,h1,OwnPs.far h2 hg hx n2 n3 n5⟩,⟨B,h3,OwnB.far h4 hg hx n4 n5⟩,k.gm⟩
 injection q with q
 subst q
 have e:=k.ex
 rw[hx] at e
 injection e with e
 injection e with _ e
 exact n1 e.symm
theorem Chg.box {w w':World} {g m h:Nat} {s s':LedV} {pv bv:Value} {cs:Array Value} {t:TypeId} (hd:DidL g m s' pv bv w w') (k:HasL w g m s pv bv) (hx:w.heap[h]?=some (.cells cs t)) (n1:t≠79) (n2:t≠59) (n3:t≠42):w'.heap[h]?=some (.cells cs t):=by
 obtain⟨_,_,_,hc,_,_⟩:=hd
 exact hc.at_ hx (k.ty hx n1 n2 n3)
end Ld
end Go.Proofs.Ytbpmfjjbfiiiaaa
