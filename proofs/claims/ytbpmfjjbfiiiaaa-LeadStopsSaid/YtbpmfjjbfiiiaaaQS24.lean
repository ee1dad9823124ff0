/- Texts laid together by program. -/
import Derived.Test.YtbpmfjjbfiiiaaaQS23
/- lead's Slots. -/
set_option linter.unusedVariables false
set_option maxRecDepth 8000
set_option linter.unusedSimpArgs false
namespace Go.Proofs.Ytbpmfjjbfiiiaaa
open Lib (hid)
open List (getElem_toArray getElem_cons_succ getElem_cons_zero setIfInBounds_toArray set_cons_zero set_cons_succ)
open Go.RowKit
namespace Ld
open Cm Ac Pl Vw

def TellsS (l:List VoteV) (w:World) (e:Ending) (w':World):Prop:= ∃va vc,∃M:List VoteC,e= .returned (.slice va M.length vc)/\valsV M=l/\OwnV w.heap.size w' (.slice va M.length vc) M/\Below w.heap.size w w'
theorem own_vS {base base':Nat} {w w':World} {m:Value} {x:VoteC} {n:Nat} {xs:List Value} (h:OwnR base w x) (hm:w.ownsRow base' 48 8 m n xs) (hg:w.grownBy w' m.ownBlock):OwnR base w' x:=Rw.own_other h hg (own_typesD hm h (by decide))
theorem OwnV.push {base:Nat} {w3 w6:World} {m v':Value} {L:List VoteC} {x:VoteC} (h:OwnV base w3 m L) (hl:OwnR base w3 x) (hg:w3.grownBy w6 m.ownBlock) (ho:w6.ownsRow base 48 8 v' (L++ [x]).length (flatX cellsV (L++ [x]))):OwnV base w6 v' (L++ [x]):=by
 refine⟨ho,fun y hy=>?_⟩
 rcases List.mem_append.1 hy with q | q
 ·exact own_vS (h.reqs y q) h.row hg
 ·rw[List.mem_singleton] at q
  subst q
  exact own_vS hl h.row hg
theorem infoVS:(Try.prog.info? 48).map (fun i=>(i.zero,i.size,i.bytes))=some (some (voteVal zeroC),8,80):=by kernel_rfl
def upS (view st:Int) (L:List BatV) (a k:Nat):List VoteV:=votesAt view st ((L.drop a).take k)
theorem upS_succ (view st:Int) (L:List BatV) (a k:Nat) (h:a+k<L.length):upS view st L a (k+1)=upS view st L a k++ [⟨st+(k:Int),view,L[a+k]⟩]:=by
 unfold upS
 have e:(L.drop a).take (k+1)=(L.drop a).take k++ [L[a+k]]:=by
  rw[List.take_succ_eq_append_getElem (by rw[List.length_drop];omega),List.getElem_drop]
 rw[e,votesAt_snoc]
 congr 4
 rw[List.length_take,List.length_drop]
 omega
set_option maxHeartbeats 8000000 in
theorem LSlots_any (g m:Nat) (s:LedV) (done:Int) (pv bv:Value) (w:World) (h:HasL w g m s pv bv) (h0:0<=firstF s) (h1:s.next<=2305843009213693962) (hd0: -9223372036854775808<=done) (hd1:done<=9223372036854775807) (hq: ∀b∈s.bats,b.reqs.length<=1000):Calls Try.prog 13 #[.pointer (some ⟨g,0,none⟩),.int .i64 done] w (TellsS (slotsF s done) w):=by
 have CF:=hid (fun W (hb:Below w.heap.size w W)=>LFirst_any g m s pv bv W (h.later hb) h0 h1)
 have c12:=h.c12
 have HEX:=hid h.ex
 obtain⟨B,eB,hB⟩:=h.bs
 have HEB:=hid eB
 have HRD:=hid hB.rd
 have HQ3:Hid (∀x∈B,x.bat.reqs.length<=1000):=hid (fun x hx=>hq x.bat (by rw[<-eB];exact List.mem_map.2 ⟨x,hx,rfl⟩))
 have hBl:=valsB_length B
 have hlm:=hB.rd.row.len
 rw[eB] at hBl
 have HA:=hid (fun i hi=>rdb_at (a:=none) (n:=0) (cap:=0) (L:=B) (w:=w) · i hi)
 clear HA
 clear h hq eB
 obtain⟨R,hR⟩: ∃R,slotsF s done=R:=⟨_,rfl⟩
 have HR:=hid hR
 rw[hR]
 clear hR
 obtain⟨sn,sp,sv,sh,sps,sb,sx,s1,s2,s3⟩:=s
 unfold slotsF startS firstF at HR
 unfold firstF at h0 CF
 dsimp only at HR h0 h1 CF c12 HEX HEB hBl
 by_cases hle:sx<=done
 ·have d:decide (sx<=done)=true:=decide_eq_true hle
  have hRv:R= []:=HR.out.symm.trans (by rw[if_pos hle])
  subst hRv
  clear HR hle h0 h1 hd0 hd1
  go_enter Try.func13,Try.ntmps13
  go_wp2
  go_ret
  exact⟨none,0,[],rfl,rfl,OwnV.nil _ _,Below.refl _ _⟩
 have d:decide (sx<=done)=false:=decide_eq_false hle
 have HR2:Hid (R= _):=hid (HR.out.symm.trans (by rw[if_neg hle]))
 clear HR
 obtain⟨ft,hft⟩: ∃ft,sx - (sb.length:Int)=ft:=⟨_,rfl⟩
 rw[hft] at HR2 h0 CF
 obtain⟨st,hst⟩: ∃st:Int,(if ft<done+1 then done+1 else ft)=st:=⟨_,rfl⟩
 have hst':max ft (done+1)=st:=by rw[<-hst,max_eq]
 rw[hst'] at HR2
 have ew1:IntKind.i64.wrap (done+1)=done+1:=by rw[IntKind.wrap_i64];omega
 have ew3:IntKind.i64.wrap (done+3)=done+3:=by rw[IntKind.wrap_i64];omega
 obtain⟨A,hA⟩: ∃A,(st - ft).toNat =A:=⟨_,rfl⟩
 obtain⟨C,hC⟩: ∃C,(done+4 - st).toNat =C:=⟨_,rfl⟩
 rw[hA,hC] at HR2
 have hAi:(A:Int)=st - ft:=by omega
 obtain⟨ba,bc,hbv⟩:=hB.form
 subst hbv
 go_enter Try.func13,Try.ntmps13
 go_upto_region 4 with fail
 go_upto_region 6 with (go_at_call 35;refine(CF.out _ (Below.refl _ _)).mono ?_;rintro e w1 ⟨rfl,hb1⟩;have HB1:=hid hb1;clear hb1)
 obtain⟨N,hN⟩: ∃N,sb.length=N:=⟨_,rfl⟩
 have HNB:Hid (B.length=N):=hid (by rw[<-hBl];exact hN)
 have HNS:=hid hN
 rw[hN] at hft
 have hAN:A<=N:=by omega
 have HAI:=hid hAi
 have HST:=hid hst'
 have HFT:=hid hft
 have HD:=hid (And.intro hd0 hd1)
 have HSX:=hid (And.intro h1 h0)
 have HCC:=hid hC
 have HLE:=hid hle
 clear hst hst' hft hN hBl hA hC hAi hle hd0 hd1 h1 h0 d ew1
 go_loopw [5,7] (fun v i wr=> ∃(k:Nat) (va:Option Addr) (vc:Nat) (G:List VoteC),A+k<=N/\k<=C/\i= .int .i64 (st+(k:Int))/\v= .slice va k vc/\Hid (G.length=k)/\Hid (Below w.heap.size w wr)/\Hid (OwnV w.heap.size wr (.slice va k vc) G)/\Hid (valsV G=upS sv st sb A k)) (fun _ i _=>(sx - intOf i).toNat)
 case atStart=>exact⟨0,none,0,[],by omega,by omega,by simp,rfl,hid rfl,HB1,hid (OwnV.nil _ _),hid rfl⟩
 case round=>
  obtain⟨k,va,vc,G,hk,hkC,rfl,rfl,HGK,HB,HO,HVS⟩:=hrel
  have g12:=cell_at (cells_later HEX.out HB.out) 12
  simp only[List.getElem?_toArray,List.getElem?_cons_zero,List.getElem?_cons_succ] at g12
  clear c12
  by_cases hlt:A+k<N
  case neg=>
   have hkN:A+k=N:=by omega
   have d1:decide (st+(k:Int)<sx)=false:=decide_eq_false (by have:=HAI.out;have:=HFT.out;omega)
   have HF:Hid (R=upS sv st sb A k):=hid (by
    have e1:=List.take_of_length_le (l:=sb.drop A) (i:=C) (by rw[List.length_drop,HNS.out];omega)
    have e2:=List.take_of_length_le (l:=sb.drop A) (i:=k) (by rw[List.length_drop,HNS.out];omega)
    unfold upS
    rw[HR2.out,e1,e2])
   clear hlt hkN hk hkC
   go_wp2
   go_ret
   exact⟨va,vc,G,by rw[HGK.out];rfl,HVS.out.trans HF.out.symm,by rw[HGK.out];exact HO.out,HB.out⟩
  have d1:decide (st+(k:Int)<sx)=true:=decide_eq_true (by have:=HAI.out;have:=HFT.out;omega)
  by_cases hkc:k<C
  case neg=>
   have hkN:k=C:=by omega
   have d2:decide (st+(k:Int)<=done+3)=false:=decide_eq_false (by have:=HCC.out;omega)
   have HF:Hid (R=upS sv st sb A k):=hid (by rw[HR2.out,hkN];rfl)
   clear hlt hkN hk hkC hkc
   go_wp2
   go_ret
   exact⟨va,vc,G,by rw[HGK.out];rfl,HVS.out.trans HF.out.symm,by rw[HGK.out];exact HO.out,HB.out⟩
  have d2:decide (st+(k:Int)<=done+3)=true:=decide_eq_true (by have:=HCC.out;omega)
  have hJl:A+k<B.length:=by rw[HNB.out];exact hlt
  obtain⟨bb,bo,hbo,hc⟩:=rdb_at HRD.out.row (A+k) hJl
  have hr:=HRD.out.reqs _ (List.getElem_mem hJl)
  have hr3:=HQ3.out _ (List.getElem_mem hJl)
  have HUP:=hid (upS_succ sv st sb A k (by rw[HNS.out];exact hlt))
  have hsb:sb[A+k]'(by rw[HNS.out];exact hlt)=B[A+k].bat :=by
   have e:=HEB.out
   subst e
   exact valsB_get B _ hJl _
  rw[hsb] at HUP
  subst hbo
  obtain⟨x,hx⟩: ∃x,B[A+k]=x:=⟨_,rfl⟩
  rw[hx] at hc hr hr3 HUP
  clear hx hsb
  obtain⟨J,hJ⟩: ∃J,A+k=J:=⟨_,rfl⟩
  rw[hJ] at hc
  have ewJ:IntKind.i64.wrap (st+(k:Int) - ft)=(J:Int):=by
   have h1:=HAI.out
   have h2:=HSX.out
   have h3:=HFT.out
   rw[IntKind.wrap_i64]
   omega
  have ewK:IntKind.i64.wrap (st+(k:Int)+1)=st+(k:Int)+1:=by
   have h1:=HAI.out
   have h2:=HSX.out
   have h3:=HFT.out
   rw[IntKind.wrap_i64]
   omega
  have hJ0:(0:Int)<=(J:Int):=by omega
  have hJ1:(J:Int)<(N:Int):=by omega
  have HKB:Hid (k<2305843009213693962/\st+(k:Int)<sx):=hid (by
   have h1:=HAI.out
   have h2:=HSX.out
   have h3:=HFT.out
   omega)
  obtain⟨⟨xf,xv,xtv,xts,xt,xr⟩,xa,xc⟩:=x
  unfold BatC.u at hc hr
  dsimp only at hc hr hr3 HUP
  have CC:=hid (fun V (hb:Below w.heap.size w V)=>LCopy_any ⟨⟨xf,xv,xtv,xts,xt,xr⟩,xa,xc⟩ V (hr.later hb) hr3)
  unfold batVal BatC.u at CC
  dsimp only at CC
  rw[HNB.out] at HEX
  have HSS:Hid (∀W,Below w.heap.size w W->W.cell? ⟨g,2,none⟩=some (.int .i64 sv)/\W.cell? ⟨g,11,none⟩=some (.slice (some ⟨bb,bo,none⟩) N bc)/\W.cell? ⟨bb,bo+J*6,none⟩=some (.bool xf)/\W.cell? ⟨bb,bo+J*6+1,none⟩=some (.int .i64 xv)/\W.cell? ⟨bb,bo+J*6+2,none⟩=some (.int .i64 xtv)/\W.cell? ⟨bb,bo+J*6+3,none⟩=some (.int .i64 xts)/\W.cell? ⟨bb,bo+J*6+4,none⟩=some (.int .i64 xt)/\W.cell? ⟨bb,bo+J*6+5,none⟩=some (.slice xa xr.length xc)):=hid (fun W hb=>by
   obtain⟨x0,x1,x2,x3,x4,x5⟩:=hc W hb
   have e:=cells_later HEX.out hb
   exact⟨cell_at e 2,cell_at e 11,x0,x1,x2,x3,x4,x5⟩)
  generalize xr.length=xn at HSS CC
  have HK3:Hid (k<3):=hid (by have h1:=HST.out;have h2:=HCC.out;omega)
  have HLT:=hid (And.intro hlt hkc)
  clear hc hr hr3 hlt hkc hk hkC hJ
  obtain⟨i8,hi8,h80,h81,h82⟩:=info_partsP infoVS
  go_upto_region 8 with fail
  clear g12 d1 d2
  refine wp_region_held_drew (S:=fun W=>W.cell? ⟨g,2,none⟩=some (.int .i64 sv)/\W.cell? ⟨g,11,none⟩=some (.slice (some ⟨bb,bo,none⟩) N bc)/\W.cell? ⟨bb,bo+J*6,none⟩=some (.bool xf)/\W.cell? ⟨bb,bo+J*6+1,none⟩=some (.int .i64 xv)/\W.cell? ⟨bb,bo+J*6+2,none⟩=some (.int .i64 xtv)/\W.cell? ⟨bb,bo+J*6+3,none⟩=some (.int .i64 xts)/\W.cell? ⟨bb,bo+J*6+4,none⟩=some (.int .i64 xt)/\W.cell? ⟨bb,bo+J*6+5,none⟩=some (.slice xa xn xc)) (by kernel_rfl) (HSS.out _ (step HB.out (Below.refl _ _).drew)) (fun hHeld=>?_)
  obtain⟨V,hV⟩: ∃V,V=wr.drew:=⟨_,rfl⟩
  have hb:Below wr.heap.size wr V:=(by rw[hV];exact(Below.refl _ _).drew)
  rw[<-hV] at hHeld ⊢
  have HB:=hid (step HB.out hb)
  have HO:=hid (HO.out.later hb)
  clear hV hb
  refine wpAnyH_take (i:=0) (v:=?_) rfl (by kernel_rfl) (by kernel_rfl) (by kernel_rfl) (fun _ _ _ h=>h) (Or.inl ⟨by rfl,?_⟩) (by assumption) ?_
  rotate_left
  ·intro w hSw;(try dsimp only at hSw);go_simp<;>with_reducible rfl
  try simp only[Act.put,getElem_toArray,getElem_cons_succ,getElem_cons_zero,setIfInBounds_toArray,set_cons_zero,set_cons_succ]
  refine wpAnyH_take (i:=1) (v:=?_) rfl (by kernel_rfl) (by kernel_rfl) (by kernel_rfl) (fun _ _ _ h=>h) (Or.inl ⟨by rfl,?_⟩) (by assumption) ?_
  rotate_left
  ·intro w hSw;(try dsimp only at hSw);go_simp<;>with_reducible rfl
  try simp only[Act.put,getElem_toArray,getElem_cons_succ,getElem_cons_zero,setIfInBounds_toArray,set_cons_zero,set_cons_succ]
  refine wpAnyH_take (i:=2) (v:=?_) rfl (by kernel_rfl) (by kernel_rfl) (by kernel_rfl) (fun _ _ _ h=>h) (Or.inl ⟨by rfl,?_⟩) (by assumption) ?_
  rotate_left
  ·intro w hSw;(try dsimp only at hSw);go_simp<;>with_reducible rfl
  try simp only[Act.put,getElem_toArray,getElem_cons_succ,getElem_cons_zero,setIfInBounds_toArray,set_cons_zero,set_cons_succ]
  refine wpAnyH_take (i:=3) (v:=?_) rfl (by kernel_rfl) (by kernel_rfl) (by kernel_rfl) (fun _ _ _ h=>h) (Or.inl ⟨by rfl,?_⟩) (by assumption) ?_
  rotate_left
  ·intro w hSw;(try dsimp only at hSw);go_simp<;>with_reducible rfl
  try simp only[Act.put,getElem_toArray,getElem_cons_succ,getElem_cons_zero,setIfInBounds_toArray,set_cons_zero,set_cons_succ]
  refine wpAnyH_take (i:=4) (v:=?_) rfl (by kernel_rfl) (by kernel_rfl) (by kernel_rfl) (fun _ _ _ h=>h) (Or.inl ⟨by rfl,?_⟩) (by assumption) ?_
  rotate_left
  ·intro w hSw;(try dsimp only at hSw);go_simp<;>with_reducible rfl
  try simp only[Act.put,getElem_toArray,getElem_cons_succ,getElem_cons_zero,setIfInBounds_toArray,set_cons_zero,set_cons_succ]
  refine wpAnyH_take (i:=5) (v:=?_) rfl (by kernel_rfl) (by kernel_rfl) (by kernel_rfl) (fun _ _ _ h=>h) (Or.inl ⟨by rfl,?_⟩) (by assumption) ?_
  rotate_left
  ·intro w hSw;(try dsimp only at hSw);go_simp<;>with_reducible rfl
  try simp only[Act.put,getElem_toArray,getElem_cons_succ,getElem_cons_zero,setIfInBounds_toArray,set_cons_zero,set_cons_succ]
  refine wpAnyH_take (i:=6) (v:=?_) rfl (by kernel_rfl) (by kernel_rfl) (by kernel_rfl) (fun _ _ _ h=>h) (Or.inl ⟨by rfl,?_⟩) (by assumption) ?_
  rotate_left
  ·intro w hSw;(try dsimp only at hSw);go_simp<;>with_reducible rfl
  try simp only[Act.put,getElem_toArray,getElem_cons_succ,getElem_cons_zero,setIfInBounds_toArray,set_cons_zero,set_cons_succ]
  refine wpAnyH_take (i:=7) (v:=?_) rfl (by kernel_rfl) (by kernel_rfl) (by kernel_rfl) (fun _ _ _ h=>h) (Or.inl ⟨by rfl,?_⟩) (by assumption) ?_
  rotate_left
  ·intro w hSw;(try dsimp only at hSw);go_simp<;>with_reducible rfl
  try simp only[Act.put,getElem_toArray,getElem_cons_succ,getElem_cons_zero,setIfInBounds_toArray,set_cons_zero,set_cons_succ]
  refine wpAnyH_take (i:=8) (v:=?_) rfl (by kernel_rfl) (by kernel_rfl) (by kernel_rfl) (fun _ _ _ h=>h) (Or.inl ⟨by rfl,?_⟩) (by assumption) ?_
  rotate_left
  ·intro w hSw;(try dsimp only at hSw);go_simp<;>with_reducible rfl
  try simp only[Act.put,getElem_toArray,getElem_cons_succ,getElem_cons_zero,setIfInBounds_toArray,set_cons_zero,set_cons_succ]
  refine wpAnyH_take (i:=9) (v:=?_) rfl (by kernel_rfl) (by kernel_rfl) (by kernel_rfl) (fun _ _ _ h=>h) (Or.inl ⟨by rfl,?_⟩) (by assumption) ?_
  rotate_left
  ·intro w hSw;(try dsimp only at hSw);go_simp<;>with_reducible rfl
  try simp only[Act.put,getElem_toArray,getElem_cons_succ,getElem_cons_zero,setIfInBounds_toArray,set_cons_zero,set_cons_succ]
  refine wpAnyH_take (i:=10) (v:=?_) rfl (by kernel_rfl) (by kernel_rfl) (by kernel_rfl) (fun _ _ _ h=>h) (Or.inl ⟨by rfl,?_⟩) (by assumption) ?_
  rotate_left
  ·intro w hSw;(try dsimp only at hSw);go_simp<;>with_reducible rfl
  try simp only[Act.put,getElem_toArray,getElem_cons_succ,getElem_cons_zero,setIfInBounds_toArray,set_cons_zero,set_cons_succ]
  refine wpAnyH_take (i:=11) (v:=?_) rfl (by kernel_rfl) (by kernel_rfl) (by kernel_rfl) (fun _ _ _ h=>h) (Or.inl ⟨by rfl,?_⟩) (by assumption) ?_
  rotate_left
  ·intro w hSw;(try dsimp only at hSw);go_simp<;>with_reducible rfl
  try simp only[Act.put,getElem_toArray,getElem_cons_succ,getElem_cons_zero,setIfInBounds_toArray,set_cons_zero,set_cons_succ]
  refine wpAnyH_take (i:=12) (v:=?_) rfl (by kernel_rfl) (by kernel_rfl) (by kernel_rfl) (fun _ _ _ h=>h) (Or.inl ⟨by rfl,?_⟩) (by assumption) ?_
  rotate_left
  ·intro w hSw;(try dsimp only at hSw);go_simp<;>with_reducible rfl
  try simp only[Act.put,getElem_toArray,getElem_cons_succ,getElem_cons_zero,setIfInBounds_toArray,set_cons_zero,set_cons_succ]
  refine wpAnyH_take (i:=13) (v:=?_) rfl (by kernel_rfl) (by kernel_rfl) (by kernel_rfl) (fun _ _ _ h=>h) (Or.inl ⟨by rfl,?_⟩) (by assumption) ?_
  rotate_left
  ·intro w hSw;(try dsimp only at hSw);go_simp<;>with_reducible rfl
  try simp only[Act.put,getElem_toArray,getElem_cons_succ,getElem_cons_zero,setIfInBounds_toArray,set_cons_zero,set_cons_succ]
  refine wpAnyH_take (i:=14) (v:=?_) rfl (by kernel_rfl) (by kernel_rfl) (by kernel_rfl) (fun _ _ _ h=>h) (Or.inl ⟨by rfl,?_⟩) (by assumption) ?_
  rotate_left
  ·intro w hSw;(try dsimp only at hSw);go_simp<;>with_reducible rfl
  try simp only[Act.put,getElem_toArray,getElem_cons_succ,getElem_cons_zero,setIfInBounds_toArray,set_cons_zero,set_cons_succ]
  refine wpAnyH_ready (rs:= [15]) (by kernel_rfl) (by simp) ?_
  refine AllReadyH.cons rfl (fun K hK=>?_) AllReadyH.nil
  go_simp
  go_at_call 31
  refine(CC.out _ HB.out).mono ?_
  rintro e V' ⟨⟨⟨yf,yv,ytv,yts,yt,yr⟩,ya,yc⟩,rfl,hyb,hyo,hb⟩
  unfold batVal BatC.u
  dsimp only
  have HYB:=hid hyb
  have HYO:Hid (OwnR w.heap.size V' (⟨st+(k:Int),sv,⟨yf,yv,ytv,yts,yt,yr⟩,ya,yc⟩:VoteC)):=hid (OwnQ.lower hyo HB.out.size)
  have HB:=hid (step HB.out hb)
  have HO:=hid (HO.out.later hb)
  clear hyb hyo hb
  obtain⟨V,rfl⟩: ∃V,V=V':=⟨_,rfl⟩
  refine hK.out _ _ (HSS.out _ HB.out) (fun hHeld=>?_)
  clear hK K
  try simp only[Act.put,getElem_toArray,getElem_cons_succ,getElem_cons_zero,setIfInBounds_toArray,set_cons_zero,set_cons_succ]
  refine wpAnyH_take (i:=16) (v:=?_) rfl (by kernel_rfl) (by kernel_rfl) (by kernel_rfl) (fun _ _ _ h=>h) (Or.inl ⟨by rfl,?_⟩) (by assumption) ?_
  rotate_left
  ·intro w hSw;(try dsimp only at hSw);go_simp<;>with_reducible rfl
  try simp only[Act.put,getElem_toArray,getElem_cons_succ,getElem_cons_zero,setIfInBounds_toArray,set_cons_zero,set_cons_succ]
  refine wpAnyH_ready (rs:= [17]) (by kernel_rfl) (by simp) ?_
  refine AllReadyH.cons rfl (fun K hK=>?_) AllReadyH.nil
  go_simp
  obtain⟨V',hV'⟩: ∃V',V'=V.alloc (.cells #[.int .i64 (st+(k:Int)),.int .i64 sv,.bool yf,.int .i64 yv,.int .i64 ytv,.int .i64 yts,.int .i64 yt,.slice ya yr.length yc] 48):=⟨_,rfl⟩
  have hb:Below V.heap.size V V':=(by rw[hV'];exact newAlloc _ _)
  have HNV:Hid (HeapAt V' V.heap.size (.cells #[.int .i64 (st+(k:Int)),.int .i64 sv,.bool yf,.int .i64 yv,.int .i64 ytv,.int .i64 yts,.int .i64 yt,.slice ya yr.length yc] 48)):=hid (by rw[hV'];exact alloc_atB _ _ _ rfl)
  rw[<-hV']
  have HB:=hid (step HB.out hb)
  have HO:=hid (HO.out.later hb)
  have HYO:=hid (HYO.out.later hb)
  clear hV' hb
  generalize V.heap.size=n5 at HNV ⊢
  obtain⟨V,rfl⟩: ∃V,V=V':=⟨_,rfl⟩
  refine hK.out _ _ (HSS.out _ HB.out) (fun hHeld=>?_)
  clear hK K
  try simp only[Act.put,getElem_toArray,getElem_cons_succ,getElem_cons_zero,setIfInBounds_toArray,set_cons_zero,set_cons_succ]
  refine wpAnyH_ready (rs:= [18]) (by kernel_rfl) (by simp) ?_
  refine AllReadyH.cons rfl (fun K hK=>?_) AllReadyH.nil
  refine step_append_own (by rfl) _ _ _ (by rfl) w.heap.size 48 i8 _ 8 80 Try.underlying45 hi8 h80 h81 h82 rfl (by omega) (.slice va k vc) G.length _ (by rfl) (by have:=HO.out.row;exact this) ⟨n5,0,none⟩ 1 1 (cellsV (⟨st+(k:Int),sv,⟨yf,yv,ytv,yts,yt,yr⟩,ya,yc⟩:VoteC)) (by rfl) rfl (World.news_of_block (cs:=#[.int .i64 (st+(k:Int)),.int .i64 sv,.bool yf,.int .i64 yv,.int .i64 ytv,.int .i64 yts,.int .i64 yt,.slice ya yr.length yc]) (t:=48) (fr:=(0,0)) HNV.out) (cellsV_one (⟨st+(k:Int),sv,⟨yf,yv,ytv,yts,yt,yr⟩,ya,yc⟩:VoteC)) (by unfold maxLen;have:=HGK.out;have:=HK3.out;omega) (by have:=HGK.out;have:=HK3.out;omega) HB.out.size ?_
  intro v' V' hown hgrow _
  have HB:=hid (HB.out.grown hgrow HB.out.size (fun g hg=>(Rw.own_lt HO.out.row g hg).1))
  have HO:Hid (OwnV w.heap.size V' v' (G++ [(⟨st+(k:Int),sv,⟨yf,yv,ytv,yts,yt,yr⟩,ya,yc⟩:VoteC)])):=hid (OwnV.push HO.out HYO.out hgrow (by rw[List.length_append,flatX_snoc];exact hown))
  obtain⟨vb,vd,rfl⟩:=Rw.own_form HO.out.row
  clear hown hgrow HNV HYO
  rw[List.length_append,List.length_singleton,HGK.out] at HO ⊢
  obtain⟨V,rfl⟩: ∃V,V=V':=⟨_,rfl⟩
  refine hK.out _ _ (HSS.out _ HB.out) (fun hHeld=>?_)
  clear hK K
  try simp only[Act.put,getElem_toArray,getElem_cons_succ,getElem_cons_zero,setIfInBounds_toArray,set_cons_zero,set_cons_succ]
  refine wpAnyH_take (i:=19) (v:=?_) rfl (by kernel_rfl) (by kernel_rfl) (by kernel_rfl) (fun _ _ _ h=>h) (Or.inl ⟨by rfl,?_⟩) (by assumption) ?_
  rotate_left
  ·intro w hSw;(try dsimp only at hSw);go_simp<;>with_reducible rfl
  try simp only[Act.put,getElem_toArray,getElem_cons_succ,getElem_cons_zero,setIfInBounds_toArray,set_cons_zero,set_cons_succ]
  refine wpAnyH_done (by kernel_rfl) ?_ _
  go_wp2_with fail
  go_roundw
  case rel=>have h9:=HLT.out;exact⟨k+1,vb,vd,G++ [(⟨st+(k:Int),sv,⟨yf,yv,ytv,yts,yt,yr⟩,ya,yc⟩:VoteC)],by omega,by omega,by congr 1;push_cast;omega,rfl,hid (by rw[List.length_append,HGK.out];rfl),HB,HO,hid (by rw[valsV_snoc,HVS.out,HUP.out,HYB.out.symm];rfl)⟩
  case measure=>have:=HKB.out;simp [intOf,ewK];omega
end Ld
end Go.Proofs.Ytbpmfjjbfiiiaaa
