/- Texts laid together by program. -/
import Derived.Test.YtbpmfjjbfiiiaaaQS21
/- Rows that stay where other blocks are written; lead.copyOfPromise. -/
set_option linter.unusedVariables false
set_option maxRecDepth 8000
set_option linter.unusedSimpArgs false
namespace Go.Proofs.Ytbpmfjjbfiiiaaa
open Lib (hid)
open List (getElem_toArray getElem_cons_succ getElem_cons_zero setIfInBounds_toArray set_cons_zero set_cons_succ)
open Go.RowKit
namespace Ld
open Cm Ac Pl Vw

theorem flatV6 (M:List VoteC) (p:Nat) (hp:p<M.length) (y:BatC):
  (((((((flatX cellsV M).set (p*8+2) (.bool y.bat.fill)).set (p*8+3) (.int .i64 y.bat.view)).set (p*8+4) (.int .i64 y.bat.tv)).set (p*8+5) (.int .i64 y.bat.ts)).set (p*8+6) (.int .i64 y.bat.time)).set (p*8+7) y.u)=flatX cellsV (M.set p ⟨M[p].slot,M[p].ballot,y.bat,y.ua,y.uc⟩):=by
 have e1:flatX cellsV M=flatX cellsV (M.take p)++(cellsV M[p]++flatX cellsV (M.drop (p+1))):=by
  rw[<-flatX_cons,<-flatX_append,<-List.drop_eq_getElem_cons hp,List.take_append_drop]
 have e2:flatX cellsV (M.set p ⟨M[p].slot,M[p].ballot,y.bat,y.ua,y.uc⟩)=flatX cellsV (M.take p)++(cellsV ⟨M[p].slot,M[p].ballot,y.bat,y.ua,y.uc⟩++flatX cellsV (M.drop (p+1))):=by
  rw[<-flatX_cons,<-flatX_append,List.set_eq_take_append_cons_drop,if_pos hp]
 have hl:(flatX cellsV (M.take p)).length =p*8:=by rw[flatX_length cellsV_length,List.length_take];congr 1;omega
 rw[e1,e2]
 generalize flatX cellsV (M.take p)=A at hl
 generalize flatX cellsV (M.drop (p+1))=C
 have key: ∀(B:List Value) (k:Nat) (u:Value),k<B.length->(A++B).set (p*8+k) u=A++B.set k u:=fun B k u hk=>by rw[<-hl];exact set_at A B k u hk
 unfold cellsV
 rw[key _ _ _ (by simp),key _ _ _ (by simp),key _ _ _ (by simp),key _ _ _ (by simp),key _ _ _ (by simp),key _ _ _ (by simp)]
 rfl
def set6B (w:World) (g o:Nat) (y:BatC):World:=(((((w.setCell ⟨g,o,none⟩ (.bool y.bat.fill)).setCell ⟨g,o+1,none⟩ (.int .i64 y.bat.view)).setCell ⟨g,o+2,none⟩ (.int .i64 y.bat.tv)).setCell ⟨g,o+3,none⟩ (.int .i64 y.bat.ts)).setCell ⟨g,o+4,none⟩ (.int .i64 y.bat.time)).setCell ⟨g,o+5,none⟩ y.u
theorem set6B_grown (w:World) (g o:Nat) (y:BatC):w.grownBy (set6B w g o y) (some g):=
 (((((grown_set1 w g _ _).trans (grown_set1 _ g _ _)).trans (grown_set1 _ g _ _)).trans (grown_set1 _ g _ _)).trans (grown_set1 _ g _ _)).trans (grown_set1 _ g _ _)
theorem rowV_put {w:World} {base g n cap:Nat} {M:List VoteC} (h:w.ownsRow base 48 8 (.slice (some ⟨g,0,none⟩) n cap) n (flatX cellsV M)) (p:Nat) (hp:p<M.length) (y:BatC):
  (set6B w g (p*8+2) y).ownsRow base 48 8 (.slice (some ⟨g,0,none⟩) n cap) n (flatX cellsV (M.set p ⟨M[p].slot,M[p].ballot,y.bat,y.ua,y.uc⟩)):=by
 rw[<-flatV6 M p hp y]
 unfold set6B
 have h1:=(h.stored (p*8+2) (.bool y.bat.fill)).1
 have h2:=(h1.stored (p*8+2+1) (.int .i64 y.bat.view)).1
 have h3:=(h2.stored (p*8+2+2) (.int .i64 y.bat.tv)).1
 have h4:=(h3.stored (p*8+2+3) (.int .i64 y.bat.ts)).1
 have h5:=(h4.stored (p*8+2+4) (.int .i64 y.bat.time)).1
 exact(h5.stored (p*8+2+5) y.u).1
theorem own_cur {w:World} {base size n g cap:Nat} {e:TypeId} {xs:List Value} (h:w.ownsRow base e size (.slice (some ⟨g,0,none⟩) n cap) n xs): ∃cur:Array Value,w.heap[g]?=some (.cells cur e)/\n*size<=cur.size:=by
 rcases h.2 with ⟨q,_⟩ | ⟨g',cap',cur,hv,_,h2,h3,_,h5,_⟩
 ·cases q
 ·cases hv
  exact⟨cur,h2,by rw[h5];exact Nat.mul_le_mul_right _ h3⟩
theorem infoVP:(Try.prog.info? 48).map (fun i=>(i.zero,i.size,i.bytes))=some (some (voteVal zeroC),8,80):=by kernel_rfl
theorem at_gr {w w':World} {g k:Nat} {o:Obj} (h:HeapAt w g o) (hg:w.grownBy w' (some k)) (hne:g≠k):HeapAt w' g o:=(hg.block g (get_ltB h) (fun q=>hne (by cases q;rfl))).trans h
theorem own_far {w w':World} {k base size n:Nat} {e t:TypeId} {v:Value} {xs:List Value} {cs:Array Value} (h:w.ownsRow base e size v n xs) (hg:w.grownBy w' (some k)) (hk:w.heap[k]?=some (.cells cs t)) (hne:e≠t):w'.ownsRow base e size v n xs:=
 Rw.own_keep h fun g hg'=>hg.block g (Rw.own_lt h g hg').2 (fun q=>by cases q;exact ho_ne h hk hne hg')
set_option maxHeartbeats 8000000 in
theorem LCopyP_any (p:PromC) (w:World) (h:RdV w p.u p.votes) (h9:p.votes.length<=1000) (h3: ∀x∈p.votes,x.bat.reqs.length<=1000):Calls Try.prog 39 #[promVal p] w (GivesPr p.val w):=by
 obtain⟨pw,pd,pv,pq,pt,L,a,c⟩:=p
 unfold promVal PromC.u PromC.val GivesPr
 unfold PromC.u at h
 dsimp only at h h9 h3 ⊢
 have H9:=hid h9
 have H3:=hid h3
 have HRQ:=hid h.reqs
 have hb1:=newAlloc w (.cells #[.int .i64 pw,.int .i64 pd,.int .i64 pv,.int .i64 pq,.int .i64 pt,.slice a L.length c] 59)
 have k1:=alloc_atB w (.cells #[.int .i64 pw,.int .i64 pd,.int .i64 pv,.int .i64 pq,.int .i64 pt,.slice a L.length c] 59) _ rfl
 obtain⟨W1,hW1⟩: ∃W1,W1=w.alloc (.cells #[.int .i64 pw,.int .i64 pd,.int .i64 pv,.int .i64 pq,.int .i64 pt,.slice a L.length c] 59):=⟨_,rfl⟩
 rw[<-hW1] at hb1 k1
 have hs1:W1.heap.size=w.heap.size+1:=by rw[hW1];simp
 have hb2:=newAlloc W1 (.cells #[.int .i64 0,.int .i64 0,.int .i64 0,.int .i64 0,.int .i64 0,.slice none 0 0] 59)
 have d2:=alloc_atB W1 (.cells #[.int .i64 0,.int .i64 0,.int .i64 0,.int .i64 0,.int .i64 0,.slice none 0 0] 59) _ hs1
 have k2:=cells_later k1 hb2
 obtain⟨W2,hW2⟩: ∃W2,W2=W1.alloc (.cells #[.int .i64 0,.int .i64 0,.int .i64 0,.int .i64 0,.int .i64 0,.slice none 0 0] 59):=⟨_,rfl⟩
 rw[<-hW2] at hb2 d2 k2
 have hs2:W2.heap.size=w.heap.size+2:=by rw[hW2];simp [hs1]
 have HB2:=hid (step hb1 hb2)
 have HR2:=hid (h.row.later (step hb1 hb2))
 have HK2:=hid k2
 have HD2:=hid d2
 have HS2:=hid hs2
 have c5:=cell_at k2 5
 simp at c5
 obtain⟨i8,hi8,h80,h81,h82⟩:=info_partsP infoVP
 clear h hb1 hb2 k1 k2 d2 h3 h9
 obtain⟨n,hn⟩: ∃n,L.length=n:=⟨_,rfl⟩
 have HN:=hid hn
 rw[hn] at hW1 HK2 HR2 c5 H9 ⊢
 clear hn
 go_enter Try.func39,Try.ntmps39
 go_upto_region 1 with fail
 rw[<-hW1,<-hW2]
 clear hW1 hW2 hs1 hs2
 go_upto_region 2 with (at_builtin;refine wpList_append_rdx cellsV_length (by omega) cellsV_one rfl _ _ 45 rfl (w.heap.size+2) 48 i8 _ 80 Try.underlying45 hi8 h80 h81 h82 rfl (.slice none 0 0) 0 [] rfl (World.ownsRow_nil _ _ _ _) _ L rfl HR2.out (by have:=H9.out;have:=HN.out;unfold maxLen;omega) (by have:=H9.out;have:=HN.out;omega) (by have:=HS2.out;omega) ?_;intro v6 w6 hown6 hg6;rw[Nat.zero_add,List.nil_append,HN.out] at hown6;obtain⟨va,vc,rfl⟩:=Rw.own_form hown6;have HO6:=hid hown6;have k6:w6.heap[w.heap.size]?= _:=(hg6.block _ (get_ltB HK2.out) (fun q=>by cases q)).trans HK2.out;have d6:w6.heap[w.heap.size+1]?= _:=(hg6.block _ (get_ltB HD2.out) (fun q=>by cases q)).trans HD2.out;have HB6:Hid (Below w.heap.size w w6):=hid (HB2.out.grown hg6 (by have:=HS2.out;omega) (fun k hk=>by cases hk));clear hown6 hg6;have g5:=cell_at k6 5;have gf:=frozen_at k6;simp at g5;have HK6:=hid k6;have HD6:=hid d6;clear k6 d6 c5)
 have k7:=set_atB HK6.out 5 (.slice va n vc)
 simp only[setIfInBounds_toArray,set_cons_zero,set_cons_succ] at k7
 have d7:(w6.setCell ⟨w.heap.size,5,none⟩ (.slice va n vc)).heap[w.heap.size+1]?= _:=(Below.heap_setCell _ _ _ _ (by show w.heap.size+1≠w.heap.size;omega)).trans HD6.out
 have HO7:=hid (own_far HO6.out (grown_set1 w6 w.heap.size 5 (.slice va n vc)) HK6.out (by decide))
 have HB7:=hid (HB6.out.setCell (p:=⟨w.heap.size,5,none⟩) (Nat.le_refl _) (.slice va n vc))
 have HK7:=hid k7
 have HD7:=hid d7
 clear k7 d7 HK6 HD6 HO6 HB6 g5 gf
 generalize w6.setCell ⟨w.heap.size,5,none⟩ (.slice va n vc)=W7 at HO7 HB7 HK7 HD7 ⊢
 have c5:=cell_at HK7.out 5
 simp at c5
 go_wp2
 go_loopw [3,4,12] (fun _ _ i wr=> ∃(k:Nat) (D:List VoteC),k<=n/\i= .int .i64 (k:Int)/\Hid (Below w.heap.size w wr)/\Hid (HeapAt wr w.heap.size (.cells #[.int .i64 pw,.int .i64 pd,.int .i64 pv,.int .i64 pq,.int .i64 pt,.slice va n vc] 59))/\Hid (HeapAt wr (w.heap.size+1) (.cells #[.int .i64 0,.int .i64 0,.int .i64 0,.int .i64 0,.int .i64 0,.slice none 0 0] 59))/\Hid (D.length=k)/\Hid (wr.ownsRow (w.heap.size+2) 48 8 (.slice va n vc) n (flatX cellsV (D++L.drop k)))/\Hid (valsV D=valsV (L.take k))/\Hid (∀x∈D,OwnR (w.heap.size+2) wr x)) (fun _ _ i _=>n - (intOf i).toNat)
 case atStart=>exact⟨0,[],by omega,rfl,HB7,HK7,HD7,hid rfl,HO7,hid rfl,hid (fun x hx=>by cases hx)⟩
 case round=>
  obtain⟨k,D,hk,rfl,HB,HK,HD,HDK,HO,HV,HX⟩:=hrel
  clear c5
  by_cases hlt:k<n
  case neg=>
   obtain rfl:k=n:=by omega
   have g0:=cell_at HK.out 0
   have g1:=cell_at HK.out 1
   have g2:=cell_at HK.out 2
   have g3:=cell_at HK.out 3
   have g4:=cell_at HK.out 4
   have g5:=cell_at HK.out 5
   have e0:=cell_at HD.out 0
   have e1:=cell_at HD.out 1
   have e2:=cell_at HD.out 2
   have e3:=cell_at HD.out 3
   have e4:=cell_at HD.out 4
   have e5:=cell_at HD.out 5
   have ef:=frozen_at HD.out
   simp at g0 g1 g2 g3 g4 g5 e0 e1 e2 e3 e4 e5
   have HF:=hid (show HeapAt (putP wr (w.heap.size+1) ⟨pw,pd,pv,pq,pt,D,va,vc⟩) (w.heap.size+1) _ from(BoxP.put (p:=⟨0,0,0,0,0,[],none,0⟩) ⟨HD.out⟩ ⟨pw,pd,pv,pq,pt,D,va,vc⟩).ex)
   have HOF:Hid (OwnV w.heap.size (putP wr (w.heap.size+1) ⟨pw,pd,pv,pq,pt,D,va,vc⟩) (.slice va D.length vc) D):=hid (by
    have ho:=HO.out
    rw[List.drop_eq_nil_of_le (by rw[HN.out];exact Nat.le_refl _),List.append_nil] at ho
    refine OwnV.otherP (b:=w.heap.size+1) ⟨by rw[HDK.out];exact own_lowerX ho (by omega),fun x hx=>own_lowerX (HX.out x hx) (by omega)⟩ (grown_putP _ _ _) HD.out (by decide) (by decide))
   have HBF:=hid (below_putP HB.out (b:=w.heap.size+1) (by omega) ⟨pw,pd,pv,pq,pt,D,va,vc⟩)
   unfold putP PromC.u at HOF HBF
   dsimp only at HOF HBF
   rw[HDK.out] at HBF HOF
   go_wp2
   refine bodyPost_ret (by simp [results,Try.results39,go_sem,g0,g1,g2,g3,g4,g5,e0,e1,e2,e3,e4,e5]<;>rfl) rfl ⟨⟨pw,pd,pv,pq,pt,D,va,vc⟩,by unfold promVal PromC.u;dsimp only;rw[HDK.out],?_,by unfold PromC.u;dsimp only;rw[HDK.out];exact HOF.out,HBF.out⟩
   have hv:=HV.out
   rw[List.take_of_length_le (by rw[HN.out];exact Nat.le_refl _)] at hv
   show PromC.val _= _
   unfold PromC.val
   rw[hv]
  have hkl:k<L.length:=by rw[HN.out];exact hlt
  have hdk:D.length=k:=HDK.out
  have hml:k<(D++L.drop k).length :=by rw[List.length_append,List.length_drop,hdk,HN.out];omega
  have hml2:(D++L.drop k).length =n:=by rw[List.length_append,List.length_drop,hdk,HN.out];omega
  have hme:(D++L.drop k)[k]=L[k]:=by
   rw[List.getElem_append_right (by omega)]
   simp [hdk]
  obtain⟨ga,rfl,hga⟩:=own_some HO.out (by omega)
  obtain⟨b,o,hbo,hc⟩:=rdv_at (RdX.own cellsV_length (by rw[hml2];exact HO.out)) k hml
  cases hbo
  obtain⟨x0,x1,x2,x3,x4,x5,x6,x7⟩:=hc _ (Below.refl _ _)
  rw[hme] at x0 x1 x2 x3 x4 x5 x6 x7
  simp only[Nat.zero_add] at x0 x1 x2 x3 x4 x5 x6 x7
  have HPUT:=hid (fun(V:World) (hv:V.ownsRow (w.heap.size+2) 48 8 (.slice (some ⟨ga,0,none⟩) n vc) n (flatX cellsV (D++L.drop k))) (y:BatC)=>rowV_put hv k hml y)
  rw[hme] at HPUT
  have hset: ∀y,(D++L.drop k).set k y=(D++ [y])++L.drop (k+1):=fun y=>by
   rw[List.set_append_right _ _ (by omega),hdk,Nat.sub_self,List.drop_eq_getElem_cons hkl,set_cons_zero,List.append_assoc]
   rfl
  have HSET:=hid hset
  have hr:=HRQ.out L[k] (mem_get hkl)
  have hr3:=H3.out L[k] (mem_get hkl)
  have HTK:Hid (valsV (L.take (k+1))=valsV (L.take k)++ [L[k].val]):=hid (by rw[List.take_succ_eq_append_getElem hkl,valsV_snoc])
  obtain⟨x,hx⟩: ∃x,L[k]=x:=⟨_,rfl⟩
  rw[hx] at x0 x1 x2 x3 x4 x5 x6 x7 HPUT hr hr3 HTK
  clear hc hme hml hml2 hx hset hdk hkl
  obtain⟨xs,xb,⟨xf,xv,xtv,xts,xt,xr⟩,xa,xc⟩:=x
  unfold VoteC.u at x7 hr
  dsimp only at x0 x1 x2 x3 x4 x5 x6 x7 HPUT hr hr3
  have CC:=hid (fun V (hb:Below w.heap.size w V)=>LCopy_any ⟨⟨xf,xv,xtv,xts,xt,xr⟩,xa,xc⟩ V (hr.later hb) hr3)
  unfold batVal BatC.u at CC
  dsimp only at CC
  generalize xr.length=xn at x7 CC
  clear hr hr3
  have hj0:(0:Int)<=(k:Int):=by omega
  have hj1:(k:Int)<(n:Int):=by omega
  have hnv:=newAlloc wr (.cells #[.int .i64 xs,.int .i64 xb,.bool xf,.int .i64 xv,.int .i64 xtv,.int .i64 xts,.int .i64 xt,.slice xa xn xc] 48)
  have HZ:Hid (HeapAt (wr.alloc (.cells #[.int .i64 xs,.int .i64 xb,.bool xf,.int .i64 xv,.int .i64 xtv,.int .i64 xts,.int .i64 xt,.slice xa xn xc] 48)) wr.heap.size (.cells #[.int .i64 xs,.int .i64 xb,.bool xf,.int .i64 xv,.int .i64 xtv,.int .i64 xts,.int .i64 xt,.slice xa xn xc] 48)):=hid (alloc_atB _ _ _ rfl)
  have HB8:=hid (step HB.out hnv)
  have HK8:=hid (HK.out.later hnv)
  have HD8:=hid (HD.out.later hnv)
  have HO8:=hid (Rw.own_below HO.out hnv)
  have HX8:=hid (fun x hx=>Rw.own_below (HX.out x hx) hnv)
  have HGL:Hid (ga<wr.heap.size):=hid (Rw.own_lt HO.out ga rfl).2
  go_upto_region 5 with fail
  generalize wr.alloc (.cells #[.int .i64 xs,.int .i64 xb,.bool xf,.int .i64 xv,.int .i64 xtv,.int .i64 xts,.int .i64 xt,.slice xa xn xc] 48)=W8 at HZ HB8 HK8 HD8 HO8 HX8 ⊢
  clear hnv x0 x1 x2 x3 x4 x5 x6 x7 HB HK HD HO HX
  generalize wr.heap.size=b4 at HZ HGL ⊢
  have hga2: ¬w.heap.size=ga:=by omega
  have hgz: ¬b4=ga:=by have:=HGL.out;omega
  refine wp_region_held_drew (S:=fun W=>W.cell? ⟨w.heap.size,5,none⟩=some (.slice (some ⟨ga,0,none⟩) n vc)/\(W.cell? ⟨b4,2,none⟩=some (.bool xf)/\W.cell? ⟨b4,3,none⟩=some (.int .i64 xv)/\W.cell? ⟨b4,4,none⟩=some (.int .i64 xtv)/\W.cell? ⟨b4,5,none⟩=some (.int .i64 xts)/\W.cell? ⟨b4,6,none⟩=some (.int .i64 xt)/\W.cell? ⟨b4,7,none⟩=some (.slice xa xn xc))) (by kernel_rfl) (by have hz:=HZ.out.later (Below.refl _ _).drew;have hk:=HK8.out.later (Below.refl _ _).drew;exact⟨cell_at hk 5,cell_at hz 2,cell_at hz 3,cell_at hz 4,cell_at hz 5,cell_at hz 6,cell_at hz 7⟩) (fun hHeld=>?_)
  obtain⟨V,hV⟩: ∃V,V=W8.drew:=⟨_,rfl⟩
  have hb:Below W8.heap.size W8 V:=(by rw[hV];exact(Below.refl _ _).drew)
  rw[<-hV] at hHeld ⊢
  have HB:=HB8
  have HK:=HK8
  have HD:=HD8
  have HO:=HO8
  have HX:=HX8
  have HB:=hid (step HB.out hb)
  have HK:=hid (HK.out.later hb)
  have HD:=hid (HD.out.later hb)
  have HZ:=hid (HZ.out.later hb)
  have HO:=hid (Rw.own_below HO.out hb)
  have HX:=hid (fun x hx=>Rw.own_below (HX.out x hx) hb)
  clear hV hb HB8 HK8 HD8 HO8 HX8
  refine wpAnyH_take (i:=0) (v:=?_) rfl (by kernel_rfl) (by kernel_rfl) (by kernel_rfl) (fun _ _ _ h=>h) (Or.inl ⟨by rfl,?_⟩) (by assumption) ?_
  rotate_left
  ·intro w hSw;(try dsimp only at hSw);go_simp<;>with_reducible rfl
  try simp only[Act.put,getElem_toArray,getElem_cons_succ,getElem_cons_zero,setIfInBounds_toArray,set_cons_zero,set_cons_succ]
  refine wpAnyH_take (i:=1) (v:=?_) rfl (by kernel_rfl) (by kernel_rfl) (by kernel_rfl) (fun _ _ _ h=>h) (Or.inl ⟨by rfl,?_⟩) (by assumption) ?_
  rotate_left
  ·intro w hSw;(try dsimp only at hSw);go_simp<;>with_reducible rfl
  try simp only[Act.put,getElem_toArray,getElem_cons_succ,getElem_cons_zero,setIfInBounds_toArray,set_cons_zero,set_cons_succ]
  refine wpAnyH_take (i:=2) (v:=?_) rfl (by kernel_rfl) (by kernel_rfl) (by kernel_rfl) (fun _ _ _ h=>h) (Or.inl ⟨by rfl,?_⟩) (by assumption) ?_
  rotate_left
  ·intro w hSw;(try dsimp only at hSw);go_simp<;>with_reducible rfl
  try simp only[Act.put,getElem_toArray,getElem_cons_succ,getElem_cons_zero,setIfInBounds_toArray,set_cons_zero,set_cons_succ]
  refine wpAnyH_take (i:=3) (v:=?_) rfl (by kernel_rfl) (by kernel_rfl) (by kernel_rfl) (fun _ _ _ h=>h) (Or.inl ⟨by rfl,?_⟩) (by assumption) ?_
  rotate_left
  ·intro w hSw;(try dsimp only at hSw);go_simp<;>with_reducible rfl
  try simp only[Act.put,getElem_toArray,getElem_cons_succ,getElem_cons_zero,setIfInBounds_toArray,set_cons_zero,set_cons_succ]
  refine wpAnyH_take (i:=4) (v:=?_) rfl (by kernel_rfl) (by kernel_rfl) (by kernel_rfl) (fun _ _ _ h=>h) (Or.inl ⟨by rfl,?_⟩) (by assumption) ?_
  rotate_left
  ·intro w hSw;(try dsimp only at hSw);go_simp<;>with_reducible rfl
  try simp only[Act.put,getElem_toArray,getElem_cons_succ,getElem_cons_zero,setIfInBounds_toArray,set_cons_zero,set_cons_succ]
  refine wpAnyH_ready (rs:= [5]) (by kernel_rfl) (by simp) ?_
  refine AllReadyH.cons rfl (fun K hK=>?_) AllReadyH.nil
  go_simp
  go_at_call 31
  refine(CC.out _ HB.out).mono ?_
  rintro e V' ⟨⟨⟨yf,yv,ytv,yts,yt,yr⟩,ya,yc⟩,rfl,hyb,hyo,hb⟩
  unfold batVal BatC.u
  dsimp only
  have HYB:=hid hyb
  have HYO:=hid (show OwnQ (w.heap.size+2) V' ⟨⟨yf,yv,ytv,yts,yt,yr⟩,ya,yc⟩ from hyo.lower (by have:=get_ltB HK.out;have:=(Rw.own_lt HO.out ga rfl).2;omega))
  have HB:=hid (step HB.out hb)
  have HK:=hid (HK.out.later hb)
  have HD:=hid (HD.out.later hb)
  have HZ:=hid (HZ.out.later hb)
  have HO:=hid (Rw.own_below HO.out hb)
  have HX:=hid (fun x hx=>Rw.own_below (HX.out x hx) hb)
  clear hyb hyo hb
  obtain⟨V,rfl⟩: ∃V,V=V':=⟨_,rfl⟩
  refine hK.out _ _ (⟨cell_at HK.out 5,cell_at HZ.out 2,cell_at HZ.out 3,cell_at HZ.out 4,cell_at HZ.out 5,cell_at HZ.out 6,cell_at HZ.out 7⟩) (fun hHeld=>?_)
  clear hK K
  try simp only[Act.put,getElem_toArray,getElem_cons_succ,getElem_cons_zero,setIfInBounds_toArray,set_cons_zero,set_cons_succ]
  refine wpAnyH_take (i:=6) (v:=?_) rfl (by kernel_rfl) (by kernel_rfl) (by kernel_rfl) (fun _ _ _ h=>h) (Or.inl ⟨by rfl,?_⟩) (by assumption) ?_
  rotate_left
  ·intro w hSw;(try dsimp only at hSw);go_simp<;>with_reducible rfl
  try simp only[Act.put,getElem_toArray,getElem_cons_succ,getElem_cons_zero,setIfInBounds_toArray,set_cons_zero,set_cons_succ]
  refine wpAnyH_take (i:=7) (v:=?_) rfl (by kernel_rfl) (by kernel_rfl) (by kernel_rfl) (fun _ _ _ h=>h) (Or.inl ⟨by rfl,?_⟩) (by assumption) ?_
  rotate_left
  ·intro w hSw;(try dsimp only at hSw);go_simp<;>with_reducible rfl
  try simp only[Act.put,getElem_toArray,getElem_cons_succ,getElem_cons_zero,setIfInBounds_toArray,set_cons_zero,set_cons_succ]
  refine wpAnyH_ready (rs:= [8]) (by kernel_rfl) (by simp) ?_
  refine AllReadyH.cons rfl (fun K hK=>?_) AllReadyH.nil
  obtain⟨cur,hcur,hcs⟩:=own_cur HO.out
  have hfz:=frozen_at hcur
  have hlk:k*8+8<=cur.size:=(by omega)
  have y2: ∃u,V.cell? ⟨ga,k*8+2,none⟩=some u:=⟨_,(cell_at hcur _).trans (Array.getElem?_eq_getElem (by omega))⟩
  have y3: ∃u,V.cell? ⟨ga,k*8+2+1,none⟩=some u:=⟨_,(cell_at hcur _).trans (Array.getElem?_eq_getElem (by omega))⟩
  have y4: ∃u,V.cell? ⟨ga,k*8+2+2,none⟩=some u:=⟨_,(cell_at hcur _).trans (Array.getElem?_eq_getElem (by omega))⟩
  have y5: ∃u,V.cell? ⟨ga,k*8+2+3,none⟩=some u:=⟨_,(cell_at hcur _).trans (Array.getElem?_eq_getElem (by omega))⟩
  have y6: ∃u,V.cell? ⟨ga,k*8+2+4,none⟩=some u:=⟨_,(cell_at hcur _).trans (Array.getElem?_eq_getElem (by omega))⟩
  have y7: ∃u,V.cell? ⟨ga,k*8+2+5,none⟩=some u:=⟨_,(cell_at hcur _).trans (Array.getElem?_eq_getElem (by omega))⟩
  obtain⟨y2v,y2⟩:=y2
  obtain⟨y3v,y3⟩:=y3
  obtain⟨y4v,y4⟩:=y4
  obtain⟨y5v,y5⟩:=y5
  obtain⟨y6v,y6⟩:=y6
  obtain⟨y7v,y7⟩:=y7
  go_simp
  have hg:=set6B_grown V ga (k*8+2) (⟨⟨yf,yv,ytv,yts,yt,yr⟩,ya,yc⟩:BatC)
  have HO:=hid (HPUT.out V HO.out (⟨⟨yf,yv,ytv,yts,yt,yr⟩,ya,yc⟩:BatC))
  rw[HSET.out] at HO
  have HB:Hid (Below w.heap.size w (set6B V ga (k*8+2) (⟨⟨yf,yv,ytv,yts,yt,yr⟩,ya,yc⟩:BatC))):=hid (HB.out.grown hg HB.out.size (fun q e=>by cases e;omega))
  have HK:=hid (at_gr HK.out hg (by omega))
  have HD:=hid (at_gr HD.out hg (by omega))
  have HZ:=hid (at_gr HZ.out hg (by omega))
  have HX:=hid (fun x hx=>own_far (HX.out x hx) hg hcur (by decide))
  have HYO:Hid (OwnQ (w.heap.size+2) (set6B V ga (k*8+2) (⟨⟨yf,yv,ytv,yts,yt,yr⟩,ya,yc⟩:BatC)) (⟨⟨yf,yv,ytv,yts,yt,yr⟩,ya,yc⟩:BatC)):=hid (own_far HYO.out hg hcur (by decide))
  unfold set6B BatC.u at HB HK HD HZ HX HO HYO
  dsimp only at HB HK HD HZ HX HO HYO
  refine hK.out _ _ (⟨cell_at HK.out 5,cell_at HZ.out 2,cell_at HZ.out 3,cell_at HZ.out 4,cell_at HZ.out 5,cell_at HZ.out 6,cell_at HZ.out 7⟩) (fun hHeld=>?_)
  clear hK K
  try simp only[Act.put,getElem_toArray,getElem_cons_succ,getElem_cons_zero,setIfInBounds_toArray,set_cons_zero,set_cons_succ]
  refine wpAnyH_done (by kernel_rfl) ?_ _
  have hn9:k<1000:=(by have:=H9.out;omega)
  have ew:IntKind.i64.wrap ((k:Int)+1)=(k:Int)+1:=(by rw[IntKind.wrap_i64];omega)
  go_wp2_with fail
  go_roundw
  case rel=>exact⟨k+1,D++ [⟨xs,xb,⟨yf,yv,ytv,yts,yt,yr⟩,ya,yc⟩],by omega,by go_num,HB,HK,HD,hid (by rw[List.length_append,HDK.out];rfl),HO,hid (by rw[valsV_snoc,HV.out,HTK.out,HYB.out.symm];rfl),hid (fun z hz=>by
   rcases List.mem_append.1 hz with q | q
   ·exact HX.out z q
   ·rw[List.mem_singleton] at q
    rw[q]
    exact HYO.out)⟩
  case measure=>simp [intOf];omega
end Ld
end Go.Proofs.Ytbpmfjjbfiiiaaa
