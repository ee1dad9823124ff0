/- Texts laid together by program. -/
import Derived.Test.YtheenjkmglmihaaQT5
import Derived.Test.YtheenjkmglmihaaQ19
import Derived.SizedLaws
/- Slices of whatever elements, bytes in them, opened within the form's reach. -/
set_option linter.unusedVariables false
set_option maxRecDepth 8000
set_option linter.unusedSimpArgs false
namespace Go.Proofs.Ytheenjkmglmihaa
open Lib (hid)
open Go.RowKit Go.ChangeShapes Go.WideShapes Go.Deep
namespace Ac
open Cm

section
variable {H : Type} {enc : TypeId × Value → H} {W : World}

theorem weightsAll_mem {P:Program} {e:TypeId} {d:DataW H} {n:Nat} (hn:n∈d.weights P e): ∀l:List (DataW H),d∈l->n∈DataW.weightsAll P e l
 | [],h=>by cases h
 | x::l,h=>by
  rw[DataW.weightsAll,List.mem_append]
  rcases List.mem_cons.1 h with rfl | h
  ·exact .inl hn
  ·exact .inr (weightsAll_mem hn l h)
theorem slice_ofW {α:Type} {sz:Nat} {f:α->List Value} {t e:TypeId} (hu:Try.prog.underlying t=some (.slice e)) (hce:Try.prog.cellsOf e=sz) (hsz:0<sz) (hf: ∀x,(f x).length =sz)
  (hel: ∀fuel cs x,DataW.trod enc Try.prog W 0 (fun _=>true) true fuel e cs=some x->(∀n∈x.1.weights Try.prog e,n<=reachBytes)-> ∃y:α,cs=f y)
  {fuel:Nat} {cs:List Value} {x:DataW H × List MemPlace} (h:DataW.trod enc Try.prog W 0 (fun _=>true) true fuel t cs=some x) (hw: ∀n∈x.1.weights Try.prog t,n<=reachBytes): ∃v l,cs= [v]/\RdX sz f W v l:=by
 rcases open_slice hu h with ⟨h0,_⟩ | ⟨ad,len,cap,m,n,D,Pl,h0,_,hl,hm,hmm,hx,hi⟩
 ·exact⟨_,[],h0,RdX.nil W⟩
 ·have hm':m=cap:=by rw[hmm];rfl
  subst hm'
  clear hmm
  have hwi: ∀i,i<len-> ∀n∈(D i).weights Try.prog e,n<=reachBytes:=fun i hil n hn=>by
   refine hw n ?_
   rw[hx]
   simp only[DataW.weights,hu,List.mem_cons,List.mem_append]
   exact .inr (.inl (weightsAll_mem hn _ (List.mem_map.2 ⟨i,List.mem_range.2 hil,rfl⟩)))
  have key: ∀i,i<len-> ∃g:α,∀k u,(f g)[k]?=some u->W.cell? (ad.add (i*sz+k))=some u:=by
   intro i hil
   obtain⟨cs',hc,ht⟩:=hi i (by omega)
   rw[hce] at hc
   obtain⟨y,rfl⟩:=hel _ _ _ ht (hwi i hil)
   obtain⟨_,hcl,hat⟩:=World.cells?_some hc
   refine⟨y,fun k u hk=>?_⟩
   have hks:k<(f y).length :=(List.getElem?_eq_some_iff.1 hk).1
   have a0:=hat k (by rw[hf] at hks;exact hks)
   rw[Go.Deep.add_add] at a0
   rw[<-hk,<-a0]
  obtain⟨l,hll,hp⟩:=list_ofB len key
  refine⟨_,l,h0,some ad,m,by rw[hll],by omega,hm,(fun q=>by cases q),fun x hx hne=>?_⟩
  cases hx
  obtain⟨b,o,spot⟩:=ad
  have hpos:0<l.length:=List.length_pos_iff.2 hne
  have h0l:0<(f l[0]).length :=by rw[hf];exact hsz
  have hc:=hp 0 hpos 0 _ (List.getElem?_eq_getElem h0l)
  have hspot:spot=none:=by simpa [Addr.add] using World.cell?_spot hc
  subst hspot
  refine⟨rfl,fun i hil k u hu=>?_⟩
  have hadd: ∀j,(⟨b,o,none⟩:Addr).add j=⟨b,o+j,none⟩:=fun j=>by unfold Addr.add;split<;>simp_all
  have:=hp i hil k u hu
  rw[hadd] at this
  exact this
theorem bytes_ofW {fuel:Nat} {cs:List Value} {x:DataW H × List MemPlace} (h:DataW.trod enc Try.prog W 0 (fun _=>true) true fuel 51 cs=some x) (hw: ∀n∈x.1.weights Try.prog 51,n<=reachBytes):
  ∃(a:Option Addr) (bs:List UInt8) (c:Nat),cs= [.slice a bs.length c]/\Rd W (.slice a bs.length c) bs/\bs.length<=140737488355328:=by
 rcases open_ints Try.underlying51 Try.underlying5 (by kernel_rfl) h with ⟨hcs,_⟩ | ⟨x',l,c,zs,hcs,_,hl,hm,hz,hdd,hcell,hwz⟩
 ·exact⟨none,[],0,hcs,(IsRow.rd (.inl ⟨rfl,rfl,rfl,rfl⟩:IsRow .u8 W none 0 0 [])).1,by simp⟩
 ·have hr:IsRow .u8 W (some x') l c zs:=.inr ⟨_,rfl,hl,hm,by simpa using hz,hcell,hwz⟩
  obtain⟨h1,h2⟩:=hr.rd
  have hb:Try.prog.bytesOf 5=1:=by kernel_rfl
  have hlen:l<=140737488355328:=by
   have:=hw ((lits .u8 (zs.take l):List (DataW H)).length +(lits .u8 (zs.drop l):List (DataW H)).length) (by
    rw[congrArg Prod.fst hdd]
    simp [DataW.weights,Try.underlying51,hb])
   have hrb:=reachBytes_lt
   simp [lits] at this
   simp at hz
   omega
  refine⟨some x',bytesOf zs l,c,?_,?_,?_⟩
  ·rw[hcs,h2]
  ·rw[h2];exact h1
  ·rw[h2];exact hlen
theorem _root_.Go.Proofs.Ytheenjkmglmihaa.RdX.mapQ {α β:Type} {sz:Nat} {f:β->List Value} (g:α->β) {w:World} {v:Value} {l:List α} (h:RdX sz (fun x=>f (g x)) w v l):RdX sz f w v (l.map g):=by
 obtain⟨a,cap,hv,h1,h2,h3,h4⟩:=h.ex
 refine⟨a,cap,by rw[List.length_map];exact hv,by rw[List.length_map];exact h1,h2,fun q=>by obtain⟨q1,q2⟩:=h3 q;subst q1;exact⟨rfl,q2⟩,fun x hx hp=>?_⟩
 obtain⟨hs,hc⟩:=h4 x hx (fun q=>hp (by rw[q];rfl))
 refine⟨hs,fun i hi k u hu=>?_⟩
 rw[List.length_map] at hi
 rw[List.getElem_map] at hu
 exact hc i hi k u hu
end
end Ac
end Go.Proofs.Ytheenjkmglmihaa

/- Arguments that are slices of promises by numbers, opened; their bytes within the form's reach. -/
set_option linter.unusedVariables false
set_option maxRecDepth 8000
set_option linter.unusedSimpArgs false
namespace Go.Proofs.Ytheenjkmglmihaa
open Lib (hid)
open Go.RowKit Go.ChangeShapes Go.WideShapes Go.Deep
namespace Pl
open Cm Ac

section
variable {H : Type} {enc : TypeId × Value → H} {W : World}
theorem u8_bounds {d:Int} (h:(Lit.int .u8 d).wf =true):0<=d/\d<256:=by
 simp [Lit.wf,IntKind.min,IntKind.max,IntKind.signed,IntKind.bits] at h
 omega
theorem vt_cells (fuel:Nat) (cs:List Value) (x:DataW H × List MemPlace) (h:DataW.trod enc Try.prog W 0 (fun _=>true) true fuel 92 cs=some x) (hw: ∀n∈x.1.weights Try.prog 92,n<=reachBytes): ∃a: {a:VtC // VtOk W a},cs=cellsT a.1:=by
 have hce:Try.prog.cellsOf 92=3:=by kernel_rfl
 have hcg:Try.prog.cellsOf 51=1:=by kernel_rfl
 obtain⟨xs,n',_,hx,hlen,hxl,hfi⟩:=DataW.trod_struct Try.underlying92 h
 match xs,hxl with
 | [y0,y1,y2],_=>
  have t0:=hfi 0 _ rfl
  have t1:=hfi 1 _ rfl
  have t2:=hfi 2 _ rfl
  simp only[List.getElem?_cons_zero,List.getElem?_cons_succ] at t0 t1 t2
  rw[hce] at hlen
  match cs,hlen with
  | [c0,c1,c2],_=>
   obtain⟨d,e0,v0⟩:=DataW.trod_int Try.underlying5 t0
   obtain⟨m,e1,v1⟩:=DataW.trod_int Try.underlying5 t1
   obtain⟨a,bs,c,e3,hr,hl⟩:=bytes_ofW t2 (fun n hn=>hw n (by
    rw[hx]
    simp only[DataW.weights,Try.underlying92,List.map_cons,List.map_nil,DataW.weightsEach,List.mem_append]
    exact .inr (.inr (.inl hn))))
   change List.take (Try.prog.cellsOf 51) (List.drop 2 [c0,c1,c2])= _ at e3
   rw[hcg] at e3
   have e0':c0= .int .u8 d:=by injection e0
   have e1':c1= .int .u8 m:=by injection e1
   have e3':c2= .slice a bs.length c:=by injection e3
   have b0:=u8_bounds v0.2
   have b1:=u8_bounds v1.2
   exact⟨⟨⟨⟨d,m,bs⟩,a,c⟩,⟨b0.1,b0.2,b1.1,b1.2,hr,hl⟩⟩,by rw[e0',e1',e3'];rfl⟩
theorem told_cells (fuel:Nat) (cs:List Value) (x:DataW H × List MemPlace) (h:DataW.trod enc Try.prog W 0 (fun _=>true) true fuel 73 cs=some x) (hw: ∀n∈x.1.weights Try.prog 73,n<=reachBytes): ∃a: {a:ToldC // ToldOk W a},cs=cellsD a.1:=by
 have hce:Try.prog.cellsOf 73=5:=by kernel_rfl
 have hcg:Try.prog.cellsOf 71=1:=by kernel_rfl
 obtain⟨xs,n',_,hx,hlen,hxl,hfi⟩:=DataW.trod_struct Try.underlying73 h
 match xs,hxl with
 | [y0,y1,y2,y3,y4],_=>
  have t0:=hfi 0 _ rfl
  have t1:=hfi 1 _ rfl
  have t2:=hfi 2 _ rfl
  have t3:=hfi 3 _ rfl
  have t4:=hfi 4 _ rfl
  simp only[List.getElem?_cons_zero,List.getElem?_cons_succ] at t0 t1 t2 t3 t4
  rw[hce] at hlen
  match cs,hlen with
  | [c0,c1,c2,c3,c4],_=>
   obtain⟨d,e0,v0⟩:=DataW.trod_int Try.underlying5 t0
   obtain⟨m,e1,v1⟩:=DataW.trod_int Try.underlying5 t1
   obtain⟨q,e2,v2⟩:=DataW.trod_int Try.underlying5 t2
   obtain⟨z,e3,v3⟩:=DataW.trod_int Try.underlying5 t3
   obtain⟨v,l,e4,hl⟩:=slice_ofW (f:=fun a: {a:VtC // VtOk W a} =>cellsT a.1) Try.underlying71 (show Try.prog.cellsOf 92=3 by kernel_rfl) (by omega) (fun a=>cellsT_length a.1) vt_cells t4 (fun n hn=>hw n (by
    rw[hx]
    simp only[DataW.weights,Try.underlying73,List.map_cons,List.map_nil,DataW.weightsEach,List.mem_append]
    exact .inr (.inr (.inr (.inr (.inl hn))))))
   change List.take (Try.prog.cellsOf 71) (List.drop 4 [c0,c1,c2,c3,c4])= _ at e4
   rw[hcg] at e4
   have e0':c0= .int .u8 d:=by injection e0
   have e1':c1= .int .u8 m:=by injection e1
   have e2':c2= .int .u8 q:=by injection e2
   have e3':c3= .int .u8 z:=by injection e3
   have e4':c4=v:=by injection e4
   have hrt:RdT W v (l.map Subtype.val):=⟨RdX.mapQ (f:=cellsT) Subtype.val hl,fun y hy=>by
    obtain⟨s,_,rfl⟩:=List.mem_map.1 hy
    exact s.2⟩
   obtain⟨va,vc,hv⟩:=hrt.row.form
   subst hv
   exact⟨⟨⟨d,m,q,z,l.map Subtype.val,va,vc⟩,⟨u8_bounds v0.2,u8_bounds v1.2,u8_bounds v2.2,u8_bounds v3.2,hrt⟩⟩,by rw[e0',e1',e2',e3',e4'];rfl⟩
def ToldsC:Type:=List ToldC × Value
def toldsVal (a:ToldsC):Value:=a.2
def toldsOk (w:World) (a:ToldsC):Prop:=RdD w a.2 a.1
theorem open_tolds {r:Reach} {b0:Nat} {v:Value} {d:DataW H} {p:List MemPlace} (hv:Value.okWide Try.prog W r b0 41 v) (h:DataW.Trod enc Try.prog W 0 (fun _=>true) true 41 v d p) (hw: ∀n∈d.weights Try.prog 41,n<=reachBytes): ∃a:ToldsC,v=toldsVal a/\toldsOk W a:=by
 obtain⟨a,len,cap,rfl⟩:=okWide_slice Try.underlying41 hv
 obtain⟨m,hm⟩:=h
 obtain⟨u,l,hu,hl⟩:=slice_ofW (f:=fun a: {a:ToldC // ToldOk W a} =>cellsD a.1) Try.underlying41 (show Try.prog.cellsOf 73=5 by kernel_rfl) (by omega) (fun a=>cellsD_length a.1) told_cells hm hw
 have:Value.slice a len cap=u:=by simpa [Value.cells] using hu
 subst this
 refine⟨(l.map Subtype.val,_),rfl,RdX.mapQ (f:=cellsD) Subtype.val hl,fun x hx=>?_⟩
 obtain⟨y,_,rfl⟩:=List.mem_map.1 hx
 exact y.2
end
end Pl
end Go.Proofs.Ytheenjkmglmihaa

/- The statement PlanMade as a contract. -/
set_option linter.unusedVariables false
set_option maxRecDepth 8000
set_option linter.unusedSimpArgs false
namespace Go.Proofs.Ytheenjkmglmihaa
open Lib (hid)
open Go.RowKit
namespace Pl
open Cm Ac

set_option maxHeartbeats 8000000 in
theorem Made_any (v:Value) (T:List ToldC) (tw:Int) (w:World) (h:RdD w v T):Calls Try.prog 4 #[v,.int .u8 tw] w (SaysB true w):=by
 obtain⟨ta,tcap,rfl⟩:=h.row.form
 have AW:=hid (fun W=>awake16_ok W)
 have CP:=hid (Promises_any _ T w h)
 clear h
 unfold GivesPs at CP
 generalize T.length=TN at*
 obtain⟨i6,hi6,h60,h61,h62⟩:=info_partsP infoPr
 have key: ∀(k:Nat),k=0\/ ∃m,k=m+1:=fun k=>by cases k<;>simp
 by_cases htw:tw=255
 case neg=>
  have dtw:(tw==255)=false:=by simpa using htw
  clear htw
  go_enter Try.func4,Try.ntmps4
  go_upto_region 4 with (go_at_call 14;refine CP.out.mono ?_;rintro e w1 ⟨a,cap,L,rfl, -,hl7,hop,hb1⟩;have HN12:Hid (L.length<=12):=hid (by omega);have HRD:=hid hop.rd;have HB:=hid hb1;clear hop hb1 hl7)
  have CMK:=hid (Make_any _ L _ HRD.out HN12.out)
  have CRF:=hid (fun W' (hb:Below _ _ W')=>MakePlan_any _ L W' (HRD.out.later hb) HN12.out)
  rw[<-make_same] at CMK
  obtain⟨⟨R,RC⟩,hR⟩: ∃R,makeR (valsP L)=R:=⟨_,rfl⟩
  rw[hR] at CMK CRF
  clear hR
  unfold GivesP at CMK
  unfold GivesQ at CRF
  dsimp only at CMK CRF
  generalize L.length=N at*
  go_upto_region 5 with (go_at_call 11;refine CMK.out.mono ?_;rintro e w2 ⟨va,vc,La,rfl,hva,hoa,hb2⟩;have HVA:=hid hva;have HOA:=hid hoa.rd;have HBA:=hid hb2;clear hva hoa hb2;unfold planVal;dsimp only)
  obtain⟨na,hna⟩: ∃na,La.length=na:=⟨_,rfl⟩
  rw[hna]
  have hbp:=newAlloc w2 (.cells #[.int .i64 R.done,.int .i64 R.tv,.int .i64 R.ts,.int .i64 R.time,.slice va na vc,.int .i64 R.ev,.int .i64 R.es,.int .i64 R.last] 32)
  have HX3:Hid (HeapAt (w2.alloc (.cells #[.int .i64 R.done,.int .i64 R.tv,.int .i64 R.ts,.int .i64 R.time,.slice va na vc,.int .i64 R.ev,.int .i64 R.es,.int .i64 R.last] 32)) w2.heap.size (.cells #[.int .i64 R.done,.int .i64 R.tv,.int .i64 R.ts,.int .i64 R.time,.slice va na vc,.int .i64 R.ev,.int .i64 R.es,.int .i64 R.last] 32)):=hid (alloc_atB _ _ _ rfl)
  have HOA3:=hid (HOA.out.later hbp)
  have HBA3:=hid (step HBA.out hbp)
  generalize w2.alloc (.cells #[.int .i64 R.done,.int .i64 R.tv,.int .i64 R.ts,.int .i64 R.time,.slice va na vc,.int .i64 R.ev,.int .i64 R.es,.int .i64 R.last] 32)=W3 at HX3 HOA3 HBA3 ⊢
  generalize w2.heap.size=g3 at HX3 ⊢
  clear hbp
  have CRF2:=hid (CRF.out _ HBA3.out)
  clear CRF CMK
  go_upto_region 6 with (go_at_call 12;refine CRF2.out.mono ?_;rintro e w4 ⟨vd,ve,Lb,rfl,hvb,hob,hb4⟩;have HVB:=hid hvb;have HOB:=hid hob;have HB4:=hid (step HBA3.out hb4);have HX4:=hid (HX3.out.later hb4);have HOA4:=hid (HOA3.out.later hb4);clear hvb hob hb4;unfold planVal;dsimp only)
  obtain⟨nb,hnb⟩: ∃nb,Lb.length=nb:=⟨_,rfl⟩
  rw[hnb]
  have hbp:=newAlloc w4 (.cells #[.int .i64 R.done,.int .i64 R.tv,.int .i64 R.ts,.int .i64 R.time,.slice vd nb ve,.int .i64 R.ev,.int .i64 R.es,.int .i64 R.last] 36)
  have HX5:=hid (HX4.out.later hbp)
  have HY5:Hid (HeapAt (w4.alloc (.cells #[.int .i64 R.done,.int .i64 R.tv,.int .i64 R.ts,.int .i64 R.time,.slice vd nb ve,.int .i64 R.ev,.int .i64 R.es,.int .i64 R.last] 36)) w4.heap.size (.cells #[.int .i64 R.done,.int .i64 R.tv,.int .i64 R.ts,.int .i64 R.time,.slice vd nb ve,.int .i64 R.ev,.int .i64 R.es,.int .i64 R.last] 36)):=hid (alloc_atB _ _ _ rfl)
  have HB5:=hid (step HB4.out hbp)
  have HOA5:=hid (HOA4.out.later hbp)
  have HOB5:=hid (HOB.out.later hbp)
  generalize w4.alloc (.cells #[.int .i64 R.done,.int .i64 R.tv,.int .i64 R.ts,.int .i64 R.time,.slice vd nb ve,.int .i64 R.ev,.int .i64 R.es,.int .i64 R.last] 36)=W5 at HX5 HY5 HB5 HOA5 HOB5 ⊢
  generalize w4.heap.size=g5 at HY5 ⊢
  clear hbp
  have CSM:=hid (Same_one R La Lb va vd vc ve W5 HOA5.out HOB5.out (by rw[HVA.out,HVB.out]))
  rw[hna,hnb] at CSM
  unfold planVal at CSM
  obtain⟨Rd,Rt,Rs,Rm,Rb,Re,Rf,Rl⟩:=R
  dsimp only at CSM HX5 HY5
  have c0:=cell_at HX5.out 0
  have c1:=cell_at HX5.out 1
  have c2:=cell_at HX5.out 2
  have c3:=cell_at HX5.out 3
  have c4:=cell_at HX5.out 4
  have c5:=cell_at HX5.out 5
  have c6:=cell_at HX5.out 6
  have c7:=cell_at HX5.out 7
  have d0:=cell_at HY5.out 0
  have d1:=cell_at HY5.out 1
  have d2:=cell_at HY5.out 2
  have d3:=cell_at HY5.out 3
  have d4:=cell_at HY5.out 4
  have d5:=cell_at HY5.out 5
  have d6:=cell_at HY5.out 6
  have d7:=cell_at HY5.out 7
  simp at c0 c1 c2 c3 c4 c5 c6 c7 d0 d1 d2 d3 d4 d5 d6 d7
  have eRC:(RC==RC)=true:=by simp
  clear hna hnb
  go_wp2_with (first
   | (go_at_call 13;refine CSM.out.mono ?_;rintro e w6 ⟨rfl,hb6⟩;have HB6:=hid (step HB5.out hb6);clear hb6 c0 c1 c2 c3 c4 c5 c6 c7 d0 d1 d2 d3 d4 d5 d6 d7)
   | (go_at_call 7;refine(AW.out _).mono ?_;rintro e w7 ⟨rfl,hb7⟩))
  go_ret
  exact⟨by simp,step HB.out (step HB6.out hb7)⟩
 have dtw:(tw==255)=true:=by simpa using htw
 subst htw
 go_enter Try.func4,Try.ntmps4
 go_upto_region 2 with (go_at_call 14;refine CP.out.mono ?_;rintro e w1 ⟨a,cap,L,rfl, -,hl7,hop,hb1⟩;have HN12:Hid (L.length<=12):=hid (by omega);have HL7:=hid hl7;have HOP:=hid hop;have HRD:=hid hop.rd;have HB:=hid hb1;clear hop hb1 hl7)
 rcases key L.length with h0 | ⟨m,hm⟩
 ·have d0:decide (0<(L.length:Int))=false:=by rw[h0];rfl
  rw[h0] at d0 ⊢
  have HL0:=hid h0
  rw[h0] at HRD
  clear h0
  go_upto_region 4 with fail
  have CMK:=hid (Make_any _ L _ HRD.out HN12.out)
  have CRF:=hid (fun W' (hb:Below _ _ W')=>MakePlan_any _ L W' (HRD.out.later hb) HN12.out)
  rw[<-make_same] at CMK
  obtain⟨⟨R,RC⟩,hR⟩: ∃R,makeR (valsP L)=R:=⟨_,rfl⟩
  rw[hR] at CMK CRF
  clear hR
  unfold GivesP at CMK
  unfold GivesQ at CRF
  dsimp only at CMK CRF
  go_upto_region 5 with (go_at_call 11;refine CMK.out.mono ?_;rintro e w2 ⟨va,vc,La,rfl,hva,hoa,hb2⟩;have HVA:=hid hva;have HOA:=hid hoa.rd;have HBA:=hid hb2;clear hva hoa hb2;unfold planVal;dsimp only)
  obtain⟨na,hna⟩: ∃na,La.length=na:=⟨_,rfl⟩
  rw[hna]
  have hbp:=newAlloc w2 (.cells #[.int .i64 R.done,.int .i64 R.tv,.int .i64 R.ts,.int .i64 R.time,.slice va na vc,.int .i64 R.ev,.int .i64 R.es,.int .i64 R.last] 32)
  have HX3:Hid (HeapAt (w2.alloc (.cells #[.int .i64 R.done,.int .i64 R.tv,.int .i64 R.ts,.int .i64 R.time,.slice va na vc,.int .i64 R.ev,.int .i64 R.es,.int .i64 R.last] 32)) w2.heap.size (.cells #[.int .i64 R.done,.int .i64 R.tv,.int .i64 R.ts,.int .i64 R.time,.slice va na vc,.int .i64 R.ev,.int .i64 R.es,.int .i64 R.last] 32)):=hid (alloc_atB _ _ _ rfl)
  have HOA3:=hid (HOA.out.later hbp)
  have HBA3:=hid (step HBA.out hbp)
  generalize w2.alloc (.cells #[.int .i64 R.done,.int .i64 R.tv,.int .i64 R.ts,.int .i64 R.time,.slice va na vc,.int .i64 R.ev,.int .i64 R.es,.int .i64 R.last] 32)=W3 at HX3 HOA3 HBA3 ⊢
  generalize w2.heap.size=g3 at HX3 ⊢
  clear hbp
  have CRF2:=hid (CRF.out _ HBA3.out)
  clear CRF CMK
  go_upto_region 6 with (go_at_call 12;refine CRF2.out.mono ?_;rintro e w4 ⟨vd,ve,Lb,rfl,hvb,hob,hb4⟩;have HVB:=hid hvb;have HOB:=hid hob;have HB4:=hid (step HBA3.out hb4);have HX4:=hid (HX3.out.later hb4);have HOA4:=hid (HOA3.out.later hb4);clear hvb hob hb4;unfold planVal;dsimp only)
  obtain⟨nb,hnb⟩: ∃nb,Lb.length=nb:=⟨_,rfl⟩
  rw[hnb]
  have hbp:=newAlloc w4 (.cells #[.int .i64 R.done,.int .i64 R.tv,.int .i64 R.ts,.int .i64 R.time,.slice vd nb ve,.int .i64 R.ev,.int .i64 R.es,.int .i64 R.last] 36)
  have HX5:=hid (HX4.out.later hbp)
  have HY5:Hid (HeapAt (w4.alloc (.cells #[.int .i64 R.done,.int .i64 R.tv,.int .i64 R.ts,.int .i64 R.time,.slice vd nb ve,.int .i64 R.ev,.int .i64 R.es,.int .i64 R.last] 36)) w4.heap.size (.cells #[.int .i64 R.done,.int .i64 R.tv,.int .i64 R.ts,.int .i64 R.time,.slice vd nb ve,.int .i64 R.ev,.int .i64 R.es,.int .i64 R.last] 36)):=hid (alloc_atB _ _ _ rfl)
  have HB5:=hid (step HB4.out hbp)
  have HOA5:=hid (HOA4.out.later hbp)
  have HOB5:=hid (HOB.out.later hbp)
  generalize w4.alloc (.cells #[.int .i64 R.done,.int .i64 R.tv,.int .i64 R.ts,.int .i64 R.time,.slice vd nb ve,.int .i64 R.ev,.int .i64 R.es,.int .i64 R.last] 36)=W5 at HX5 HY5 HB5 HOA5 HOB5 ⊢
  generalize w4.heap.size=g5 at HY5 ⊢
  clear hbp
  have CSM:=hid (Same_one R La Lb va vd vc ve W5 HOA5.out HOB5.out (by rw[HVA.out,HVB.out]))
  rw[hna,hnb] at CSM
  unfold planVal at CSM
  obtain⟨Rd,Rt,Rs,Rm,Rb,Re,Rf,Rl⟩:=R
  dsimp only at CSM HX5 HY5
  have c0:=cell_at HX5.out 0
  have c1:=cell_at HX5.out 1
  have c2:=cell_at HX5.out 2
  have c3:=cell_at HX5.out 3
  have c4:=cell_at HX5.out 4
  have c5:=cell_at HX5.out 5
  have c6:=cell_at HX5.out 6
  have c7:=cell_at HX5.out 7
  have d0:=cell_at HY5.out 0
  have d1:=cell_at HY5.out 1
  have d2:=cell_at HY5.out 2
  have d3:=cell_at HY5.out 3
  have d4:=cell_at HY5.out 4
  have d5:=cell_at HY5.out 5
  have d6:=cell_at HY5.out 6
  have d7:=cell_at HY5.out 7
  simp at c0 c1 c2 c3 c4 c5 c6 c7 d0 d1 d2 d3 d4 d5 d6 d7
  have eRC:(RC==RC)=true:=by simp
  clear hna hnb
  go_wp2_with (first
   | (go_at_call 13;refine CSM.out.mono ?_;rintro e w6 ⟨rfl,hb6⟩;have HB6:=hid (step HB5.out hb6);clear hb6 c0 c1 c2 c3 c4 c5 c6 c7 d0 d1 d2 d3 d4 d5 d6 d7)
   | (go_at_call 7;refine(AW.out _).mono ?_;rintro e w7 ⟨rfl,hb7⟩))
  go_ret
  exact⟨by simp,step HB.out (step HB6.out hb7)⟩
 have hL0:0<L.length:=by omega
 obtain⟨ga,gc,hv⟩:=own_shape HOP.out.row hL0
 cases hv
 obtain⟨b,o,e,hc⟩:=rdp_at HRD.out.row 0 hL0
 cases e
 obtain⟨q0,q1,q2,q3,q4,q5⟩:=hc _ (Below.refl _ _)
 simp only[Nat.zero_mul,Nat.add_zero,Nat.zero_add] at q0 q1 q2 q3 q4 q5
 have hvx:=HOP.out.votes L[0] (mem_get hL0)
 obtain⟨p,hp⟩: ∃p,L[0]=p:=⟨_,rfl⟩
 rw[hp] at q0 q1 q2 q3 q4 q5 hvx
 have HVX:=hid hvx
 have HONE:=hid (cellsP_one p)
 obtain⟨K,hK⟩: ∃K,L.length=K:=⟨_,rfl⟩
 have HK:=hid hK
 have dK:decide (0<(K:Int))=true:=by rw[<-hK];simp;omega
 have hK0:0<K:=by omega
 have hK7:K<=7:=by have:=HL7.out;omega
 rw[hK] at HRD ⊢
 clear hK hc hp hvx hm hL0 CP
 obtain⟨pw,pd,pv,pq,pt,pl,pa,pc⟩:=p
 unfold PromC.u at q5
 dsimp only at q0 q1 q2 q3 q4 q5
 have hsz:=HB.out.size
 go_upto_region 4 with (at_builtin;refine wpList_append_grD cellsP_length (by omega) rfl _ _ 22 rfl 29 i6 _ 64 Try.underlying22 hi6 h60 h61 h62 rfl #[.int .i64 pw,.int .i64 pd,.int .i64 pv,.int .i64 pq,.int .i64 pt,.slice pa pl.length pc] (⟨pw,pd,pv,pq,pt,pl,pa,pc⟩:PromC) rfl (cellsP_one _) L w.heap.size (.slice (some ⟨ga,0,none⟩) K cap) rfl rfl (by have q:=HOP.out.row;rw[HK.out] at q ⊢;exact q) (by have:=HK.out;unfold maxLen;omega) (by have:=HK.out;omega) (by omega) ?_;intro v6 w6 ho6 hg6 _;have HO6:Hid (OwnPs w.heap.size w6 v6 (L++ [⟨pw,pd,pv,pq,pt,pl,pa,pc⟩])):=hid (OwnPs.push (HOP.out.later (newAlloc _ _)) (HVX.out.later (newAlloc _ _)) (by rw[HK.out];exact hg6) ho6);have HB6:Hid (Below w.heap.size w w6):=hid ((stepAlloc HB.out _).grown hg6 (by simp;omega) (fun g hg=>(Rw.own_lt HOP.out.row g (by rw[HK.out];exact hg)).1));obtain⟨a,cap6,hv6⟩:=Rw.own_form ho6;rw[List.length_append,HK.out,List.length_singleton] at hv6;subst hv6;clear ho6 hg6 q0 q1 q2 q3 q4 q5)
 have HN12:Hid ((L++ [(⟨pw,pd,pv,pq,pt,pl,pa,pc⟩:PromC)]).length <=12):=hid (by rw[List.length_append,HK.out,List.length_singleton];omega)
 have HRD:=hid HO6.out.rd
 have HB:=HB6
 generalize L++ [(⟨pw,pd,pv,pq,pt,pl,pa,pc⟩:PromC)]=L at HN12 HRD
 clear HO6 HB6 HOP HVX HONE HK HL7
 have CMK:=hid (Make_any _ L _ HRD.out HN12.out)
 have CRF:=hid (fun W' (hb:Below _ _ W')=>MakePlan_any _ L W' (HRD.out.later hb) HN12.out)
 rw[<-make_same] at CMK
 obtain⟨⟨R,RC⟩,hR⟩: ∃R,makeR (valsP L)=R:=⟨_,rfl⟩
 rw[hR] at CMK CRF
 clear hR
 unfold GivesP at CMK
 unfold GivesQ at CRF
 dsimp only at CMK CRF
 go_upto_region 5 with (go_at_call 11;refine CMK.out.mono ?_;rintro e w2 ⟨va,vc,La,rfl,hva,hoa,hb2⟩;have HVA:=hid hva;have HOA:=hid hoa.rd;have HBA:=hid hb2;clear hva hoa hb2;unfold planVal;dsimp only)
 obtain⟨na,hna⟩: ∃na,La.length=na:=⟨_,rfl⟩
 rw[hna]
 have hbp:=newAlloc w2 (.cells #[.int .i64 R.done,.int .i64 R.tv,.int .i64 R.ts,.int .i64 R.time,.slice va na vc,.int .i64 R.ev,.int .i64 R.es,.int .i64 R.last] 32)
 have HX3:Hid (HeapAt (w2.alloc (.cells #[.int .i64 R.done,.int .i64 R.tv,.int .i64 R.ts,.int .i64 R.time,.slice va na vc,.int .i64 R.ev,.int .i64 R.es,.int .i64 R.last] 32)) w2.heap.size (.cells #[.int .i64 R.done,.int .i64 R.tv,.int .i64 R.ts,.int .i64 R.time,.slice va na vc,.int .i64 R.ev,.int .i64 R.es,.int .i64 R.last] 32)):=hid (alloc_atB _ _ _ rfl)
 have HOA3:=hid (HOA.out.later hbp)
 have HBA3:=hid (step HBA.out hbp)
 generalize w2.alloc (.cells #[.int .i64 R.done,.int .i64 R.tv,.int .i64 R.ts,.int .i64 R.time,.slice va na vc,.int .i64 R.ev,.int .i64 R.es,.int .i64 R.last] 32)=W3 at HX3 HOA3 HBA3 ⊢
 generalize w2.heap.size=g3 at HX3 ⊢
 clear hbp
 have CRF2:=hid (CRF.out _ HBA3.out)
 clear CRF CMK
 go_upto_region 6 with (go_at_call 12;refine CRF2.out.mono ?_;rintro e w4 ⟨vd,ve,Lb,rfl,hvb,hob,hb4⟩;have HVB:=hid hvb;have HOB:=hid hob;have HB4:=hid (step HBA3.out hb4);have HX4:=hid (HX3.out.later hb4);have HOA4:=hid (HOA3.out.later hb4);clear hvb hob hb4;unfold planVal;dsimp only)
 obtain⟨nb,hnb⟩: ∃nb,Lb.length=nb:=⟨_,rfl⟩
 rw[hnb]
 have hbp:=newAlloc w4 (.cells #[.int .i64 R.done,.int .i64 R.tv,.int .i64 R.ts,.int .i64 R.time,.slice vd nb ve,.int .i64 R.ev,.int .i64 R.es,.int .i64 R.last] 36)
 have HX5:=hid (HX4.out.later hbp)
 have HY5:Hid (HeapAt (w4.alloc (.cells #[.int .i64 R.done,.int .i64 R.tv,.int .i64 R.ts,.int .i64 R.time,.slice vd nb ve,.int .i64 R.ev,.int .i64 R.es,.int .i64 R.last] 36)) w4.heap.size (.cells #[.int .i64 R.done,.int .i64 R.tv,.int .i64 R.ts,.int .i64 R.time,.slice vd nb ve,.int .i64 R.ev,.int .i64 R.es,.int .i64 R.last] 36)):=hid (alloc_atB _ _ _ rfl)
 have HB5:=hid (step HB4.out hbp)
 have HOA5:=hid (HOA4.out.later hbp)
 have HOB5:=hid (HOB.out.later hbp)
 generalize w4.alloc (.cells #[.int .i64 R.done,.int .i64 R.tv,.int .i64 R.ts,.int .i64 R.time,.slice vd nb ve,.int .i64 R.ev,.int .i64 R.es,.int .i64 R.last] 36)=W5 at HX5 HY5 HB5 HOA5 HOB5 ⊢
 generalize w4.heap.size=g5 at HY5 ⊢
 clear hbp
 have CSM:=hid (Same_one R La Lb va vd vc ve W5 HOA5.out HOB5.out (by rw[HVA.out,HVB.out]))
 rw[hna,hnb] at CSM
 unfold planVal at CSM
 obtain⟨Rd,Rt,Rs,Rm,Rb,Re,Rf,Rl⟩:=R
 dsimp only at CSM HX5 HY5
 have c0:=cell_at HX5.out 0
 have c1:=cell_at HX5.out 1
 have c2:=cell_at HX5.out 2
 have c3:=cell_at HX5.out 3
 have c4:=cell_at HX5.out 4
 have c5:=cell_at HX5.out 5
 have c6:=cell_at HX5.out 6
 have c7:=cell_at HX5.out 7
 have d0:=cell_at HY5.out 0
 have d1:=cell_at HY5.out 1
 have d2:=cell_at HY5.out 2
 have d3:=cell_at HY5.out 3
 have d4:=cell_at HY5.out 4
 have d5:=cell_at HY5.out 5
 have d6:=cell_at HY5.out 6
 have d7:=cell_at HY5.out 7
 simp at c0 c1 c2 c3 c4 c5 c6 c7 d0 d1 d2 d3 d4 d5 d6 d7
 have eRC:(RC==RC)=true:=by simp
 clear hna hnb
 go_wp2_with (first
  | (go_at_call 13;refine CSM.out.mono ?_;rintro e w6 ⟨rfl,hb6⟩;have HB6:=hid (step HB5.out hb6);clear hb6 c0 c1 c2 c3 c4 c5 c6 c7 d0 d1 d2 d3 d4 d5 d6 d7)
  | (go_at_call 7;refine(AW.out _).mono ?_;rintro e w7 ⟨rfl,hb7⟩))
 go_ret
 exact⟨by simp,step HB.out (step HB6.out hb7)⟩
end Pl
end Go.Proofs.Ytheenjkmglmihaa
