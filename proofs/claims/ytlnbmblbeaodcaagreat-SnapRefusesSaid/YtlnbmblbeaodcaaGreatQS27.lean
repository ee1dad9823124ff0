/- Texts laid together by program. -/
import Derived.Test.YtlnbmblbeaodcaaGreatQS26
/- The developers' reader of package snap: a state. -/
set_option linter.unusedVariables false
set_option maxRecDepth 8000
set_option linter.unusedSimpArgs false
namespace Go.Proofs.YtlnbmblbeaodcaaGreat
open Lib (hid)
open List (getElem_toArray getElem_cons_succ getElem_cons_zero setIfInBounds_toArray set_cons_zero set_cons_succ)
open Go.RowKit
open Go.Sort (grow)
namespace Cm

structure StO (b:Nat) (x:StC) (w:World):Prop where
 s:w.ownsRow b 73 3 x.sv x.S.length (flatX cellsS x.S)
 k:w.ownsRow b 71 4 x.kv x.K.length (flatX cellsK x.K)
 n: ∀y∈x.K,w.ownsRow b 3 1 y.lv y.line.length (flatX cellsI y.line)
 m:w.ownsRow b 76 6 x.mv x.M.length (flatX cellsM x.M)
 d: ∀y∈x.M,w.ownsRow b 141 2 y.hv y.m.rep.held.length (flatX cellsG y.m.rep.held)
theorem StO.keep {b:Nat} {x:StC} {w w':World} (h:StO b x w) (hk: ∀k,b<=k->k<w.heap.size->w'.heap[k]?=w.heap[k]?):StO b x w':=by
 have key: ∀ {n sz:Nat} {e:TypeId} {lv:Value} {xs:List Value},w.ownsRow b e sz lv n xs->w'.ownsRow b e sz lv n xs:=fun ho=>Rw.own_keep ho fun k q=>hk k (Rw.own_lt ho k q).1 (Rw.own_lt ho k q).2
 exact⟨key h.s,key h.k,fun y hy=>key (h.n y hy),key h.m,fun y hy=>key (h.d y hy)⟩
theorem StO.later {b:Nat} {x:StC} {w w':World} (h:StO b x w) (hb:Below w.heap.size w w'):StO b x w':=h.keep fun k _ hk=>hb.block k hk
theorem StO.set {b g:Nat} {x:StC} {w:World} (h:StO b x w) (hg:g<b) (i:Nat) (u:Value):StO b x (w.setCell ⟨g,i,none⟩ u):=h.keep fun k hk _=>Below.heap_setCell _ _ _ _ (by show k≠g;omega)
theorem StO.lower {b b':Nat} {x:StC} {w:World} (h:StO b x w) (hb:b'<=b):StO b' x w:=⟨own_lowerX h.s hb,own_lowerX h.k hb,fun y hy=>own_lowerX (h.n y hy) hb,own_lowerX h.m hb,fun y hy=>own_lowerX (h.d y hy) hb⟩
theorem StO.rd {b:Nat} {x:StC} {w:World} (h:StO b x w):RdSt w x:=⟨RdX.own cellsS_length h.s,⟨RdX.own cellsK_length h.k,fun y hy=>RdX.own cellsI_length (h.n y hy)⟩,OwnM.rd ⟨h.m,h.d⟩⟩
def StateO (g:Nat) (s:StV) (u:Value) (w:World):Prop:= ∃x:StC,x.v=s/\u=stVal x/\StO (g+1) x w
theorem vals_push (M:List LockC) (x:LockC):vals M++ [x.val]=vals (M++ [x]):=by simp [vals]
theorem valsM_push (M:List MemC) (x:MemC):valsM M++ [x.m]=valsM (M++ [x]):=by simp [valsM]
theorem all_push {α:Type} {P:α->Prop} {M:List α} {x:α} (h: ∀y∈M,P y) (hx:P x): ∀y∈M++ [x],P y:=fun y hy=>by
 rcases List.mem_append.1 hy with q | q
 ·exact h y q
 ·rw[List.mem_singleton] at q;subst q;exact hx
set_option maxRecDepth 100000 in
set_option maxHeartbeats 8000000 in
theorem SnapGetState (w0:World) (g:Nat) (v:Value) (bs:List UInt8) (t:Int) (w:World) (h:RX w0 g v bs t w):
  Calls Tryz.prog 138 #[.pointer (some ⟨g,0,none⟩)] w (GetsRl (StateO g) (stateR bs t) w0 g v bs w):=by
 have hlt:=h.lt
 have HX:Hid (RX w0 g v bs t (w.alloc (.cells #[.int .i64 0,.int .i64 0,.int .i64 0,.slice none 0 0,.slice none 0 0,.slice none 0 0] 26))):=hid (h.later (newAlloc _ _))
 have HG:Hid (Gr g w (w.alloc (.cells #[.int .i64 0,.int .i64 0,.int .i64 0,.slice none 0 0,.slice none 0 0,.slice none 0 0] 26))):=hid (Gr.new (newAlloc _ _))
 have HB:Hid (BxAt (w.alloc (.cells #[.int .i64 0,.int .i64 0,.int .i64 0,.slice none 0 0,.slice none 0 0,.slice none 0 0] 26)) w.heap.size (.cells #[.int .i64 0,.int .i64 0,.int .i64 0,.slice none 0 0,.slice none 0 0,.slice none 0 0] 26)):=hid (BxAt.new _ _)
 have HL:Hid (g<w.heap.size):=hid hlt
 obtain⟨i0,hi,hz0,hz1,hz2⟩:=info_parts infoS
 obtain⟨j0,ji,jz0,jz1,jz2⟩:=info_parts infoK
 obtain⟨m0,mi,mz0,mz1,mz2⟩:=info_parts infoM
 have HR:Hid (stateR bs t=thenR numR (fun t=>thenR numR fun n=>thenR numR fun k=>thenR (countR 5) fun a=>thenR (rowR sesR [] a.toNat) fun ses=>thenR (countR 4) fun b=>thenR (rowR lockR [] b.toNat) fun locks=>
  thenR (countR 8) fun c=>thenR (rowR ansR [] c.toNat) fun memos=>pureR ⟨t,n,k,ses,locks,memos⟩) bs t):=hid rfl
 clear h hlt
 go_enter Tryz.func138,Tryz.ntmps138
 go_upto_region 1 with fail
 generalize hW:w.alloc _=W at HX HG HB ⊢
 clear hW
 have C:=hid (SnapGetNum w0 g v bs t W HX.out)
 cases hq:numR bs t with
 | error c=>
  have HQ:=hid hq
  clear hq
  go_wp2_with fail
  refine C.out.mono ?_
  rintro e w2 hh
  obtain⟨hf,hb⟩:=hh.bad HQ.out
  rw[hf]
  exact⟨rfl,GetsRl.fails (HR.out.trans (thenR_err HQ.out)) rfl hb⟩
 | ok p=>
 obtain⟨ti,t1⟩:=p
 have HR:=hid (HR.out.trans (thenR_ok hq))
 have HQ:=hid hq
 clear hq
 go_wp2_with fail
 refine C.out.mono ?_
 rintro e w2 hh
 obtain⟨rfl,hx,hg⟩:=hh.good HQ.out
 have HX:=hid hx
 have hA:BxAt w2 w.heap.size (.cells #[.int .i64 0,.int .i64 0,.int .i64 0,.slice none 0 0,.slice none 0 0,.slice none 0 0] 26):=hg.at HB.out (by have:=HL.out;omega)
 have HG:=hid (HG.out.trans hg)
 clear hh hx hg C HQ HB
 unfold intV
 have k0:=cell_atW hA 0
 have k1:=cell_atW hA 1
 have k2:=cell_atW hA 2
 have k3:=cell_atW hA 3
 have k4:=cell_atW hA 4
 have k5:=cell_atW hA 5
 have kf:=frozen_atW hA
 simp only[List.getElem?_toArray,List.getElem?_cons_zero,List.getElem?_cons_succ] at k0 k1 k2 k3 k4 k5
 go_upto_region 2 with fail
 have HX:=hid (HX.out.set HL.out 0 (.int .i64 ti))
 have HG:=hid (HG.out.set (Nat.le_refl _) 0 (.int .i64 ti))
 have HB:Hid (BxAt (w2.setCell ⟨w.heap.size,0,none⟩ (.int .i64 ti)) w.heap.size (.cells #[.int .i64 ti,.int .i64 0,.int .i64 0,.slice none 0 0,.slice none 0 0,.slice none 0 0] 26)):=hid (hA.set 0 (.int .i64 ti))
 generalize hW:w2.setCell _ _=W at HX HG HB ⊢
 clear hW hA kf k0 k1 k2 k3 k4 k5
 have C:=hid (SnapGetNum w0 g v bs t1 W HX.out)
 cases hq:numR bs t1 with
 | error c=>
  have HQ:=hid hq
  clear hq
  go_wp2_with fail
  refine C.out.mono ?_
  rintro e w2 hh
  obtain⟨hf,hb⟩:=hh.bad HQ.out
  rw[hf]
  exact⟨rfl,GetsRl.fails (HR.out.trans (thenR_err HQ.out)) rfl hb⟩
 | ok p=>
 obtain⟨nu,t2⟩:=p
 have HR:=hid (HR.out.trans (thenR_ok hq))
 have HQ:=hid hq
 clear hq
 go_wp2_with fail
 refine C.out.mono ?_
 rintro e w2 hh
 obtain⟨rfl,hx,hg⟩:=hh.good HQ.out
 have HX:=hid hx
 have hA:BxAt w2 w.heap.size (.cells #[.int .i64 ti,.int .i64 0,.int .i64 0,.slice none 0 0,.slice none 0 0,.slice none 0 0] 26):=hg.at HB.out (by have:=HL.out;omega)
 have HG:=hid (HG.out.trans hg)
 clear hh hx hg C HQ HB
 unfold intV
 have k0:=cell_atW hA 0
 have k1:=cell_atW hA 1
 have k2:=cell_atW hA 2
 have k3:=cell_atW hA 3
 have k4:=cell_atW hA 4
 have k5:=cell_atW hA 5
 have kf:=frozen_atW hA
 simp only[List.getElem?_toArray,List.getElem?_cons_zero,List.getElem?_cons_succ] at k0 k1 k2 k3 k4 k5
 go_upto_region 3 with fail
 have HX:=hid (HX.out.set HL.out 1 (.int .i64 nu))
 have HG:=hid (HG.out.set (Nat.le_refl _) 1 (.int .i64 nu))
 have HB:Hid (BxAt (w2.setCell ⟨w.heap.size,1,none⟩ (.int .i64 nu)) w.heap.size (.cells #[.int .i64 ti,.int .i64 nu,.int .i64 0,.slice none 0 0,.slice none 0 0,.slice none 0 0] 26)):=hid (hA.set 1 (.int .i64 nu))
 generalize hW:w2.setCell _ _=W at HX HG HB ⊢
 clear hW hA kf k0 k1 k2 k3 k4 k5
 have C:=hid (SnapGetNum w0 g v bs t2 W HX.out)
 cases hq:numR bs t2 with
 | error c=>
  have HQ:=hid hq
  clear hq
  go_wp2_with fail
  refine C.out.mono ?_
  rintro e w2 hh
  obtain⟨hf,hb⟩:=hh.bad HQ.out
  rw[hf]
  exact⟨rfl,GetsRl.fails (HR.out.trans (thenR_err HQ.out)) rfl hb⟩
 | ok p=>
 obtain⟨tk,t3⟩:=p
 have HR:=hid (HR.out.trans (thenR_ok hq))
 have HQ:=hid hq
 clear hq
 go_wp2_with fail
 refine C.out.mono ?_
 rintro e w2 hh
 obtain⟨rfl,hx,hg⟩:=hh.good HQ.out
 have HX:=hid hx
 have hA:BxAt w2 w.heap.size (.cells #[.int .i64 ti,.int .i64 nu,.int .i64 0,.slice none 0 0,.slice none 0 0,.slice none 0 0] 26):=hg.at HB.out (by have:=HL.out;omega)
 have HG:=hid (HG.out.trans hg)
 clear hh hx hg C HQ HB
 unfold intV
 have k0:=cell_atW hA 0
 have k1:=cell_atW hA 1
 have k2:=cell_atW hA 2
 have k3:=cell_atW hA 3
 have k4:=cell_atW hA 4
 have k5:=cell_atW hA 5
 have kf:=frozen_atW hA
 simp only[List.getElem?_toArray,List.getElem?_cons_zero,List.getElem?_cons_succ] at k0 k1 k2 k3 k4 k5
 go_upto_region 4 with fail
 have HX:=hid (HX.out.set HL.out 2 (.int .i64 tk))
 have HG:=hid (HG.out.set (Nat.le_refl _) 2 (.int .i64 tk))
 have HB:Hid (BxAt (w2.setCell ⟨w.heap.size,2,none⟩ (.int .i64 tk)) w.heap.size (.cells #[.int .i64 ti,.int .i64 nu,.int .i64 tk,.slice none 0 0,.slice none 0 0,.slice none 0 0] 26)):=hid (hA.set 2 (.int .i64 tk))
 generalize hW:w2.setCell _ _=W at HX HG HB ⊢
 clear hW hA kf k0 k1 k2 k3 k4 k5
 have C:=hid (SnapGetCount 5 w0 g v bs t3 W HX.out)
 cases hq:countR 5 bs t3 with
 | error c=>
  have HQ:=hid hq
  clear hq
  go_wp2_with fail
  refine C.out.mono ?_
  rintro e w2 hh
  obtain⟨hf,hb⟩:=hh.bad HQ.out
  rw[hf]
  exact⟨rfl,GetsRl.fails (HR.out.trans (thenR_err HQ.out)) rfl hb⟩
 | ok p=>
 obtain⟨N1,t4⟩:=p
 have HR:=hid (HR.out.trans (thenR_ok hq))
 have hN:=count_ok hq
 have HQ:=hid hq
 clear hq
 go_wp2_with fail
 refine C.out.mono ?_
 rintro e w2 hh
 obtain⟨rfl,hx,hg⟩:=hh.good HQ.out
 have HX:=hid hx
 have hA:BxAt w2 w.heap.size (.cells #[.int .i64 ti,.int .i64 nu,.int .i64 tk,.slice none 0 0,.slice none 0 0,.slice none 0 0] 26):=hg.at HB.out (by have:=HL.out;omega)
 have HG:=hid (HG.out.trans hg)
 clear hh hx hg C HQ HB
 unfold intV
 have HB:=hid hA
 clear hA
 obtain⟨A1,rfl⟩:=Int.eq_ofNat_of_zero_le hN.1
 rw[Int.toNat_natCast] at HR
 have hN3:A1<=5:=by omega
 clear hN
 go_wp2_with fail
 go_loopw [14] (fun i wr=> ∃(j:Nat) (T:Int) (G:List SesV) (ua:Option Addr) (uc:Nat),j<=A1/\i= .int .i64 (j:Int)/\G.length=j/\Hid (RX w0 g v bs T wr)/\Hid (Gr g w wr)/\Hid (BxAt wr w.heap.size (.cells #[.int .i64 ti,.int .i64 nu,.int .i64 tk,.slice ua G.length uc,.slice none 0 0,.slice none 0 0] 26))/\
  Hid (wr.ownsRow w.heap.size 73 3 (.slice ua G.length uc) G.length (flatX cellsS G))/\Hid (rowR sesR [] A1 bs t4=rowR sesR G (A1 - j) bs T)) (fun i _=>A1 - (intOf i).toNat)
 case atStart=>exact⟨0,t4,[],none,0,by omega,rfl,rfl,HX,HG,HB,hid (World.ownsRow_nil _ _ _ _),hid rfl⟩
 case round=>
  obtain⟨j,T,G,ua,uc,hj,rfl,hGl,HX,HG,HB,HO,HF⟩:=hrel
  have HGL:Hid (G.length<=5):=hid (by omega)
  have HGJ:=hid hGl
  by_cases hlt:j<A1
  ·obtain⟨m,hm⟩: ∃m,A1 - j=m+1:=⟨A1 - j - 1,by omega⟩
   have HM:Hid (m=A1 - (j+1)):=hid (by omega)
   rw[hm] at HF
   clear hm hGl
   cases hq:sesR bs T with
   | error c=>
    have HQ:=hid hq
    have HE:=hid (HR.out.trans (thenR_err (HF.out.trans (rowR_bad hq))))
    clear hq
    go_upto_region 6 with fail
    refine wp_region_held_drew (S:=fun _=>True) (by kernel_rfl) trivial (fun hHeld=>?_)
    obtain⟨V,hV⟩: ∃V,V=wr.drew:=⟨_,rfl⟩
    have hb:Below wr.heap.size wr V:=(by rw[hV];exact(Below.refl _ _).drew)
    rw[<-hV]
    have HX:=hid (HX.out.later hb)
    have HG:=hid (HG.out.below hb)
    have HB:=hid (HB.out.later hb)
    have HO:=hid (Rw.own_below HO.out hb)
    clear hV hb
    refine wpAnyH_take (i:=0) (v:=?_) rfl (by kernel_rfl) (by kernel_rfl) (by kernel_rfl) (fun _ _ _ h=>h) (Or.inl ⟨by rfl,?_⟩) (by assumption) ?_
    rotate_left
    ·intro w hSw;(try dsimp only at hSw);go_simp<;>with_reducible rfl
    try simp only[Act.put,getElem_toArray,getElem_cons_succ,getElem_cons_zero,setIfInBounds_toArray,set_cons_zero,set_cons_succ]
    refine wpAnyH_take (i:=2) (v:=?_) rfl (by kernel_rfl) (by kernel_rfl) (by kernel_rfl) (fun _ _ _ h=>h) (Or.inl ⟨by rfl,?_⟩) (by assumption) ?_
    rotate_left
    ·intro w hSw;(try dsimp only at hSw);go_simp<;>with_reducible rfl
    try simp only[Act.put,getElem_toArray,getElem_cons_succ,getElem_cons_zero,setIfInBounds_toArray,set_cons_zero,set_cons_succ]
    refine wpAnyH_ready (rs:= [1,3]) (by kernel_rfl) (by simp) ?_
    refine AllReadyH.cons rfl (fun K hK=>?_) (AllReadyH.cons rfl (fun K hK=>?_) AllReadyH.nil)
    ·skip
     have kl:=cell_atW HB.out 3
     simp only[List.getElem?_toArray,List.getElem?_cons_zero,List.getElem?_cons_succ] at kl
     go_simp
     clear kl
     refine hK.out _ _ trivial (fun hHeld=>?_)
     clear hK K
     try simp only[Act.put,getElem_toArray,getElem_cons_succ,getElem_cons_zero,setIfInBounds_toArray,set_cons_zero,set_cons_succ]
     refine wpAnyH_ready (rs:= [3]) (by kernel_rfl) (by simp) ?_
     refine AllReadyH.cons rfl (fun K hK=>?_) AllReadyH.nil
     ·skip
      go_simp
      go_at_call 182
      refine(SnapGetSession w0 g v bs T V HX.out).mono ?_
      rintro e V' hh
      obtain⟨hf,hb⟩:=hh.bad HQ.out
      rw[hf]
      exact⟨rfl,GetsRl.fails HE.out rfl hb⟩
    ·skip
     go_simp
     go_at_call 182
     refine(SnapGetSession w0 g v bs T V HX.out).mono ?_
     rintro e V' hh
     obtain⟨hf,hb⟩:=hh.bad HQ.out
     rw[hf]
     exact⟨rfl,GetsRl.fails HE.out rfl hb⟩
   | ok p=>
    obtain⟨x,T'⟩:=p
    have HQ:=hid hq
    have HF:=hid (HF.out.trans (rowR_good hq))
    rw[HM.out] at HF
    clear hq
    go_upto_region 6 with fail
    refine wp_region_held_drew (S:=fun _=>True) (by kernel_rfl) trivial (fun hHeld=>?_)
    obtain⟨V,hV⟩: ∃V,V=wr.drew:=⟨_,rfl⟩
    have hb:Below wr.heap.size wr V:=(by rw[hV];exact(Below.refl _ _).drew)
    rw[<-hV]
    have HX:=hid (HX.out.later hb)
    have HG:=hid (HG.out.below hb)
    have HB:=hid (HB.out.later hb)
    have HO:=hid (Rw.own_below HO.out hb)
    clear hV hb
    refine wpAnyH_take (i:=0) (v:=?_) rfl (by kernel_rfl) (by kernel_rfl) (by kernel_rfl) (fun _ _ _ h=>h) (Or.inl ⟨by rfl,?_⟩) (by assumption) ?_
    rotate_left
    ·intro w hSw;(try dsimp only at hSw);go_simp<;>with_reducible rfl
    try simp only[Act.put,getElem_toArray,getElem_cons_succ,getElem_cons_zero,setIfInBounds_toArray,set_cons_zero,set_cons_succ]
    refine wpAnyH_take (i:=2) (v:=?_) rfl (by kernel_rfl) (by kernel_rfl) (by kernel_rfl) (fun _ _ _ h=>h) (Or.inl ⟨by rfl,?_⟩) (by assumption) ?_
    rotate_left
    ·intro w hSw;(try dsimp only at hSw);go_simp<;>with_reducible rfl
    try simp only[Act.put,getElem_toArray,getElem_cons_succ,getElem_cons_zero,setIfInBounds_toArray,set_cons_zero,set_cons_succ]
    refine wpAnyH_ready (rs:= [1,3]) (by kernel_rfl) (by simp) ?_
    refine AllReadyH.cons rfl (fun K hK=>?_) (AllReadyH.cons rfl (fun K hK=>?_) AllReadyH.nil)
    ·skip
     have kl:=cell_atW HB.out 3
     simp only[List.getElem?_toArray,List.getElem?_cons_zero,List.getElem?_cons_succ] at kl
     go_simp
     clear kl
     refine hK.out _ _ trivial (fun hHeld=>?_)
     clear hK K
     try simp only[Act.put,getElem_toArray,getElem_cons_succ,getElem_cons_zero,setIfInBounds_toArray,set_cons_zero,set_cons_succ]
     refine wpAnyH_ready (rs:= [3]) (by kernel_rfl) (by simp) ?_
     refine AllReadyH.cons rfl (fun K hK=>?_) AllReadyH.nil
     ·skip
      go_simp
      go_at_call 182
      refine(SnapGetSession w0 g v bs T V HX.out).mono ?_
      rintro e V' hh
      obtain⟨rfl,hx,hg⟩:=hh.good HQ.out
      obtain⟨xc,xn,xr⟩:=x
      unfold sesVal
      dsimp only
      have HX:=hid hx
      have HB:=hid (show BxAt _ _ _ from hg.at HB.out (by have:=HL.out;omega))
      have HO:=hid (own_gr HO.out HL.out hg)
      have HG:=hid (HG.out.trans hg)
      clear hh hx hg
      obtain⟨V,rfl⟩: ∃V,V=V':=⟨_,rfl⟩
      refine hK.out _ _ trivial (fun hHeld=>?_)
      clear hK K
      try simp only[Act.put,getElem_toArray,getElem_cons_succ,getElem_cons_zero,setIfInBounds_toArray,set_cons_zero,set_cons_succ]
      refine wpAnyH_ready (rs:= [4]) (by kernel_rfl) (by simp) ?_
      refine AllReadyH.cons rfl (fun K hK=>?_) AllReadyH.nil
      ·skip
       go_simp
       obtain⟨V',hV'⟩: ∃V',V'=V.alloc (.cells #[.int .i64 xc,.int .i64 xn,.int .i64 xr] 73):=⟨_,rfl⟩
       have hb:Below V.heap.size V V':=(by rw[hV'];exact newAlloc _ _)
       have HZ:Hid (BxAt V' V.heap.size (.cells #[.int .i64 xc,.int .i64 xn,.int .i64 xr] 73)):=hid (by rw[hV'];exact BxAt.new _ _)
       rw[<-hV']
       have HX:=hid (HX.out.later hb)
       have HG:=hid (HG.out.below hb)
       have HB:=hid (HB.out.later hb)
       have HO:=hid (Rw.own_below HO.out hb)
       clear hV' hb
       generalize V.heap.size=n5 at HZ ⊢
       obtain⟨V,rfl⟩: ∃V,V=V':=⟨_,rfl⟩
       refine hK.out _ _ trivial (fun hHeld=>?_)
       clear hK K
       try simp only[Act.put,getElem_toArray,getElem_cons_succ,getElem_cons_zero,setIfInBounds_toArray,set_cons_zero,set_cons_succ]
       refine wpAnyH_ready (rs:= [5]) (by kernel_rfl) (by simp) ?_
       refine AllReadyH.cons rfl (fun K hK=>?_) AllReadyH.nil
       ·skip
        refine step_append_own (by rfl) _ _ _ (by rfl) w.heap.size 73 i0 _ 3 24 Tryz.underlying22 hi hz0 hz1 hz2 rfl (by omega) (.slice ua G.length uc) G.length _ (by rfl) HO.out ⟨n5,0,none⟩ 1 1 (cellsS (⟨xc,xn,xr⟩:SesV)) (by rfl) rfl (World.news_of_block (cs:=#[.int .i64 xc,.int .i64 xn,.int .i64 xr]) (t:=73) (fr:=(0,0)) HZ.out) (cellsS_one _) (by unfold maxLen;have:=HGL.out;omega) (by have:=HGL.out;omega) HG.out.size ?_
        intro v' V' hown hgrow _
        have HX:=hid (HX.out.grown HO.out HL.out hgrow)
        have HG:=hid (HG.out.grown HO.out (Nat.le_refl _) hgrow)
        have HB:=hid (HB.out.grown HO.out (by decide) hgrow)
        have HO:=hid hown
        obtain⟨va,vc,rfl⟩:=Rw.own_form hown
        clear hown hgrow HZ
        obtain⟨V,rfl⟩: ∃V,V=V':=⟨_,rfl⟩
        refine hK.out _ _ trivial (fun hHeld=>?_)
        clear hK K
        try simp only[Act.put,getElem_toArray,getElem_cons_succ,getElem_cons_zero,setIfInBounds_toArray,set_cons_zero,set_cons_succ]
        refine wpAnyH_take (i:=6) (v:=?_) rfl (by kernel_rfl) (by kernel_rfl) (by kernel_rfl) (fun _ _ _ h=>h) (Or.inl ⟨by rfl,?_⟩) (by assumption) ?_
        rotate_left
        ·intro w hSw;(try dsimp only at hSw);go_simp<;>with_reducible rfl
        try simp only[Act.put,getElem_toArray,getElem_cons_succ,getElem_cons_zero,setIfInBounds_toArray,set_cons_zero,set_cons_succ]
        refine wpAnyH_ready (rs:= [7]) (by kernel_rfl) (by simp) ?_
        refine AllReadyH.cons rfl (fun K hK=>?_) AllReadyH.nil
        ·skip
         have kl:=cell_atW HB.out 3
         simp only[List.getElem?_toArray,List.getElem?_cons_zero,List.getElem?_cons_succ] at kl
         have kf:=frozen_atW HB.out
         go_simp
         have HO:Hid ((V.setCell ⟨w.heap.size,3,none⟩ (.slice va (G.length+1) vc)).ownsRow w.heap.size 73 3 (.slice va (G.length+1) vc) (G++ [(⟨xc,xn,xr⟩:SesV)]).length (flatX cellsS (G++ [(⟨xc,xn,xr⟩:SesV)]))):=hid (by have q:=own_store HO.out HB.out (by decide) 3 (.slice va (G.length+1) vc);rw[List.length_append,flatX_snoc];exact q)
         have HX:=hid (HX.out.set HL.out 3 (.slice va (G.length+1) vc))
         have HG:=hid (HG.out.set (Nat.le_refl _) 3 (.slice va (G.length+1) vc))
         have HB:Hid (BxAt (V.setCell ⟨w.heap.size,3,none⟩ (.slice va (G.length+1) vc)) w.heap.size (.cells #[.int .i64 ti,.int .i64 nu,.int .i64 tk,.slice va (G.length+1) vc,.slice none 0 0,.slice none 0 0] 26)):=hid (HB.out.set 3 (.slice va (G.length+1) vc))
         clear kl kf
         refine hK.out _ _ trivial (fun hHeld=>?_)
         clear hK K
         try simp only[Act.put,getElem_toArray,getElem_cons_succ,getElem_cons_zero,setIfInBounds_toArray,set_cons_zero,set_cons_succ]
         refine wpAnyH_done (by kernel_rfl) ?_ _
         go_wp2
         go_roundw
         case rel=>exact⟨j+1,T',G++ [⟨xc,xn,xr⟩],va,vc,by omega,by first | rfl | go_num,by have:=HGJ.out;simp;omega,HX,HG,by simpa only[List.length_append,List.length_singleton] using HB,by simpa only[List.length_append,List.length_singleton] using HO,HF⟩
         case measure=>simp [intOf]<;>omega
    ·skip
     go_simp
     go_at_call 182
     refine(SnapGetSession w0 g v bs T V HX.out).mono ?_
     rintro e V' hh
     obtain⟨rfl,hx,hg⟩:=hh.good HQ.out
     obtain⟨xc,xn,xr⟩:=x
     unfold sesVal
     dsimp only
     have HX:=hid hx
     have HB:=hid (show BxAt _ _ _ from hg.at HB.out (by have:=HL.out;omega))
     have HO:=hid (own_gr HO.out HL.out hg)
     have HG:=hid (HG.out.trans hg)
     clear hh hx hg
     obtain⟨V,rfl⟩: ∃V,V=V':=⟨_,rfl⟩
     refine hK.out _ _ trivial (fun hHeld=>?_)
     clear hK K
     try simp only[Act.put,getElem_toArray,getElem_cons_succ,getElem_cons_zero,setIfInBounds_toArray,set_cons_zero,set_cons_succ]
     refine wpAnyH_ready (rs:= [1,4]) (by kernel_rfl) (by simp) ?_
     refine AllReadyH.cons rfl (fun K hK=>?_) (AllReadyH.cons rfl (fun K hK=>?_) AllReadyH.nil)
     ·skip
      have kl:=cell_atW HB.out 3
      simp only[List.getElem?_toArray,List.getElem?_cons_zero,List.getElem?_cons_succ] at kl
      go_simp
      clear kl
      refine hK.out _ _ trivial (fun hHeld=>?_)
      clear hK K
      try simp only[Act.put,getElem_toArray,getElem_cons_succ,getElem_cons_zero,setIfInBounds_toArray,set_cons_zero,set_cons_succ]
      refine wpAnyH_ready (rs:= [4]) (by kernel_rfl) (by simp) ?_
      refine AllReadyH.cons rfl (fun K hK=>?_) AllReadyH.nil
      ·skip
       go_simp
       obtain⟨V',hV'⟩: ∃V',V'=V.alloc (.cells #[.int .i64 xc,.int .i64 xn,.int .i64 xr] 73):=⟨_,rfl⟩
       have hb:Below V.heap.size V V':=(by rw[hV'];exact newAlloc _ _)
       have HZ:Hid (BxAt V' V.heap.size (.cells #[.int .i64 xc,.int .i64 xn,.int .i64 xr] 73)):=hid (by rw[hV'];exact BxAt.new _ _)
       rw[<-hV']
       have HX:=hid (HX.out.later hb)
       have HG:=hid (HG.out.below hb)
       have HB:=hid (HB.out.later hb)
       have HO:=hid (Rw.own_below HO.out hb)
       clear hV' hb
       generalize V.heap.size=n5 at HZ ⊢
       obtain⟨V,rfl⟩: ∃V,V=V':=⟨_,rfl⟩
       refine hK.out _ _ trivial (fun hHeld=>?_)
       clear hK K
       try simp only[Act.put,getElem_toArray,getElem_cons_succ,getElem_cons_zero,setIfInBounds_toArray,set_cons_zero,set_cons_succ]
       refine wpAnyH_ready (rs:= [5]) (by kernel_rfl) (by simp) ?_
       refine AllReadyH.cons rfl (fun K hK=>?_) AllReadyH.nil
       ·skip
        refine step_append_own (by rfl) _ _ _ (by rfl) w.heap.size 73 i0 _ 3 24 Tryz.underlying22 hi hz0 hz1 hz2 rfl (by omega) (.slice ua G.length uc) G.length _ (by rfl) HO.out ⟨n5,0,none⟩ 1 1 (cellsS (⟨xc,xn,xr⟩:SesV)) (by rfl) rfl (World.news_of_block (cs:=#[.int .i64 xc,.int .i64 xn,.int .i64 xr]) (t:=73) (fr:=(0,0)) HZ.out) (cellsS_one _) (by unfold maxLen;have:=HGL.out;omega) (by have:=HGL.out;omega) HG.out.size ?_
        intro v' V' hown hgrow _
        have HX:=hid (HX.out.grown HO.out HL.out hgrow)
        have HG:=hid (HG.out.grown HO.out (Nat.le_refl _) hgrow)
        have HB:=hid (HB.out.grown HO.out (by decide) hgrow)
        have HO:=hid hown
        obtain⟨va,vc,rfl⟩:=Rw.own_form hown
        clear hown hgrow HZ
        obtain⟨V,rfl⟩: ∃V,V=V':=⟨_,rfl⟩
        refine hK.out _ _ trivial (fun hHeld=>?_)
        clear hK K
        try simp only[Act.put,getElem_toArray,getElem_cons_succ,getElem_cons_zero,setIfInBounds_toArray,set_cons_zero,set_cons_succ]
        refine wpAnyH_take (i:=6) (v:=?_) rfl (by kernel_rfl) (by kernel_rfl) (by kernel_rfl) (fun _ _ _ h=>h) (Or.inl ⟨by rfl,?_⟩) (by assumption) ?_
        rotate_left
        ·intro w hSw;(try dsimp only at hSw);go_simp<;>with_reducible rfl
        try simp only[Act.put,getElem_toArray,getElem_cons_succ,getElem_cons_zero,setIfInBounds_toArray,set_cons_zero,set_cons_succ]
        refine wpAnyH_ready (rs:= [7]) (by kernel_rfl) (by simp) ?_
        refine AllReadyH.cons rfl (fun K hK=>?_) AllReadyH.nil
        ·skip
         have kl:=cell_atW HB.out 3
         simp only[List.getElem?_toArray,List.getElem?_cons_zero,List.getElem?_cons_succ] at kl
         have kf:=frozen_atW HB.out
         go_simp
         have HO:Hid ((V.setCell ⟨w.heap.size,3,none⟩ (.slice va (G.length+1) vc)).ownsRow w.heap.size 73 3 (.slice va (G.length+1) vc) (G++ [(⟨xc,xn,xr⟩:SesV)]).length (flatX cellsS (G++ [(⟨xc,xn,xr⟩:SesV)]))):=hid (by have q:=own_store HO.out HB.out (by decide) 3 (.slice va (G.length+1) vc);rw[List.length_append,flatX_snoc];exact q)
         have HX:=hid (HX.out.set HL.out 3 (.slice va (G.length+1) vc))
         have HG:=hid (HG.out.set (Nat.le_refl _) 3 (.slice va (G.length+1) vc))
         have HB:Hid (BxAt (V.setCell ⟨w.heap.size,3,none⟩ (.slice va (G.length+1) vc)) w.heap.size (.cells #[.int .i64 ti,.int .i64 nu,.int .i64 tk,.slice va (G.length+1) vc,.slice none 0 0,.slice none 0 0] 26)):=hid (HB.out.set 3 (.slice va (G.length+1) vc))
         clear kl kf
         refine hK.out _ _ trivial (fun hHeld=>?_)
         clear hK K
         try simp only[Act.put,getElem_toArray,getElem_cons_succ,getElem_cons_zero,setIfInBounds_toArray,set_cons_zero,set_cons_succ]
         refine wpAnyH_done (by kernel_rfl) ?_ _
         go_wp2
         go_roundw
         case rel=>exact⟨j+1,T',G++ [⟨xc,xn,xr⟩],va,vc,by omega,by first | rfl | go_num,by have:=HGJ.out;simp;omega,HX,HG,by simpa only[List.length_append,List.length_singleton] using HB,by simpa only[List.length_append,List.length_singleton] using HO,HF⟩
         case measure=>simp [intOf]<;>omega
     ·skip
      go_simp
      obtain⟨V',hV'⟩: ∃V',V'=V.alloc (.cells #[.int .i64 xc,.int .i64 xn,.int .i64 xr] 73):=⟨_,rfl⟩
      have hb:Below V.heap.size V V':=(by rw[hV'];exact newAlloc _ _)
      have HZ:Hid (BxAt V' V.heap.size (.cells #[.int .i64 xc,.int .i64 xn,.int .i64 xr] 73)):=hid (by rw[hV'];exact BxAt.new _ _)
      rw[<-hV']
      have HX:=hid (HX.out.later hb)
      have HG:=hid (HG.out.below hb)
      have HB:=hid (HB.out.later hb)
      have HO:=hid (Rw.own_below HO.out hb)
      clear hV' hb
      generalize V.heap.size=n5 at HZ ⊢
      obtain⟨V,rfl⟩: ∃V,V=V':=⟨_,rfl⟩
      refine hK.out _ _ trivial (fun hHeld=>?_)
      clear hK K
      try simp only[Act.put,getElem_toArray,getElem_cons_succ,getElem_cons_zero,setIfInBounds_toArray,set_cons_zero,set_cons_succ]
      refine wpAnyH_ready (rs:= [1]) (by kernel_rfl) (by simp) ?_
      refine AllReadyH.cons rfl (fun K hK=>?_) AllReadyH.nil
      ·skip
       have kl:=cell_atW HB.out 3
       simp only[List.getElem?_toArray,List.getElem?_cons_zero,List.getElem?_cons_succ] at kl
       go_simp
       clear kl
       refine hK.out _ _ trivial (fun hHeld=>?_)
       clear hK K
       try simp only[Act.put,getElem_toArray,getElem_cons_succ,getElem_cons_zero,setIfInBounds_toArray,set_cons_zero,set_cons_succ]
       refine wpAnyH_ready (rs:= [5]) (by kernel_rfl) (by simp) ?_
       refine AllReadyH.cons rfl (fun K hK=>?_) AllReadyH.nil
       ·skip
        refine step_append_own (by rfl) _ _ _ (by rfl) w.heap.size 73 i0 _ 3 24 Tryz.underlying22 hi hz0 hz1 hz2 rfl (by omega) (.slice ua G.length uc) G.length _ (by rfl) HO.out ⟨n5,0,none⟩ 1 1 (cellsS (⟨xc,xn,xr⟩:SesV)) (by rfl) rfl (World.news_of_block (cs:=#[.int .i64 xc,.int .i64 xn,.int .i64 xr]) (t:=73) (fr:=(0,0)) HZ.out) (cellsS_one _) (by unfold maxLen;have:=HGL.out;omega) (by have:=HGL.out;omega) HG.out.size ?_
        intro v' V' hown hgrow _
        have HX:=hid (HX.out.grown HO.out HL.out hgrow)
        have HG:=hid (HG.out.grown HO.out (Nat.le_refl _) hgrow)
        have HB:=hid (HB.out.grown HO.out (by decide) hgrow)
        have HO:=hid hown
        obtain⟨va,vc,rfl⟩:=Rw.own_form hown
        clear hown hgrow HZ
        obtain⟨V,rfl⟩: ∃V,V=V':=⟨_,rfl⟩
        refine hK.out _ _ trivial (fun hHeld=>?_)
        clear hK K
        try simp only[Act.put,getElem_toArray,getElem_cons_succ,getElem_cons_zero,setIfInBounds_toArray,set_cons_zero,set_cons_succ]
        refine wpAnyH_take (i:=6) (v:=?_) rfl (by kernel_rfl) (by kernel_rfl) (by kernel_rfl) (fun _ _ _ h=>h) (Or.inl ⟨by rfl,?_⟩) (by assumption) ?_
        rotate_left
        ·intro w hSw;(try dsimp only at hSw);go_simp<;>with_reducible rfl
        try simp only[Act.put,getElem_toArray,getElem_cons_succ,getElem_cons_zero,setIfInBounds_toArray,set_cons_zero,set_cons_succ]
        refine wpAnyH_ready (rs:= [7]) (by kernel_rfl) (by simp) ?_
        refine AllReadyH.cons rfl (fun K hK=>?_) AllReadyH.nil
        ·skip
         have kl:=cell_atW HB.out 3
         simp only[List.getElem?_toArray,List.getElem?_cons_zero,List.getElem?_cons_succ] at kl
         have kf:=frozen_atW HB.out
         go_simp
         have HO:Hid ((V.setCell ⟨w.heap.size,3,none⟩ (.slice va (G.length+1) vc)).ownsRow w.heap.size 73 3 (.slice va (G.length+1) vc) (G++ [(⟨xc,xn,xr⟩:SesV)]).length (flatX cellsS (G++ [(⟨xc,xn,xr⟩:SesV)]))):=hid (by have q:=own_store HO.out HB.out (by decide) 3 (.slice va (G.length+1) vc);rw[List.length_append,flatX_snoc];exact q)
         have HX:=hid (HX.out.set HL.out 3 (.slice va (G.length+1) vc))
         have HG:=hid (HG.out.set (Nat.le_refl _) 3 (.slice va (G.length+1) vc))
         have HB:Hid (BxAt (V.setCell ⟨w.heap.size,3,none⟩ (.slice va (G.length+1) vc)) w.heap.size (.cells #[.int .i64 ti,.int .i64 nu,.int .i64 tk,.slice va (G.length+1) vc,.slice none 0 0,.slice none 0 0] 26)):=hid (HB.out.set 3 (.slice va (G.length+1) vc))
         clear kl kf
         refine hK.out _ _ trivial (fun hHeld=>?_)
         clear hK K
         try simp only[Act.put,getElem_toArray,getElem_cons_succ,getElem_cons_zero,setIfInBounds_toArray,set_cons_zero,set_cons_succ]
         refine wpAnyH_done (by kernel_rfl) ?_ _
         go_wp2
         go_roundw
         case rel=>exact⟨j+1,T',G++ [⟨xc,xn,xr⟩],va,vc,by omega,by first | rfl | go_num,by have:=HGJ.out;simp;omega,HX,HG,by simpa only[List.length_append,List.length_singleton] using HB,by simpa only[List.length_append,List.length_singleton] using HO,HF⟩
         case measure=>simp [intOf]<;>omega
  ·obtain rfl:j=A1:=by omega
   rw[Nat.sub_self] at HF
   have HR:=hid (HR.out.trans (thenR_ok (x:=G) (t':=T) (HF.out.trans rfl)))
   clear HF
   obtain⟨S,hS⟩: ∃S,S=G:=⟨_,rfl⟩
   subst hS
   obtain⟨sa,hsa⟩: ∃sa,sa=ua:=⟨_,rfl⟩
   subst hsa
   obtain⟨sc,hsc⟩: ∃sc,sc=uc:=⟨_,rfl⟩
   subst hsc
   obtain⟨W,hW⟩: ∃W,W=wr:=⟨_,rfl⟩
   subst hW
   have HS:=HO
   clear HO HGL HGJ hGl hlt hj hN3
   have C:=hid (SnapGetCount 4 w0 g v bs T W HX.out)
   cases hq:countR 4 bs T with
   | error c=>
    have HQ:=hid hq
    clear hq
    go_wp2_with fail
    refine C.out.mono ?_
    rintro e w2 hh
    obtain⟨hf,hb⟩:=hh.bad HQ.out
    rw[hf]
    exact⟨rfl,GetsRl.fails (HR.out.trans (thenR_err HQ.out)) rfl hb⟩
   | ok p=>
   obtain⟨N2,t5⟩:=p
   have HR:=hid (HR.out.trans (thenR_ok hq))
   have hN:=count_ok hq
   have HQ:=hid hq
   clear hq
   go_wp2_with fail
   refine C.out.mono ?_
   rintro e w2 hh
   obtain⟨rfl,hx,hg⟩:=hh.good HQ.out
   have HX:=hid hx
   have hA:BxAt w2 w.heap.size (.cells #[.int .i64 ti,.int .i64 nu,.int .i64 tk,.slice sa S.length sc,.slice none 0 0,.slice none 0 0] 26):=hg.at HB.out (by have:=HL.out;omega)
   have HS:Hid (w2.ownsRow w.heap.size 73 3 (.slice sa S.length sc) S.length (flatX cellsS S)):=hid (own_gr HS.out HL.out hg)
   have HG:=hid (HG.out.trans hg)
   clear hh hx hg C HQ HB
   unfold intV
   have HB:=hid hA
   clear hA
   obtain⟨A2,rfl⟩:=Int.eq_ofNat_of_zero_le hN.1
   rw[Int.toNat_natCast] at HR
   have hN3:A2<=4:=by omega
   clear hN
   go_wp2_with fail
   go_loopw [26] (fun i wr=> ∃(j:Nat) (T:Int) (G:List LockC) (ua:Option Addr) (uc:Nat),j<=A2/\i= .int .i64 (j:Int)/\G.length=j/\Hid (RX w0 g v bs T wr)/\Hid (Gr g w wr)/\Hid (BxAt wr w.heap.size (.cells #[.int .i64 ti,.int .i64 nu,.int .i64 tk,.slice sa S.length sc,.slice ua G.length uc,.slice none 0 0] 26))/\
    Hid (wr.ownsRow w.heap.size 71 4 (.slice ua G.length uc) G.length (flatX cellsK G))/\Hid (rowR lockR [] A2 bs t5=rowR lockR (vals G) (A2 - j) bs T)/\Hid (wr.ownsRow w.heap.size 73 3 (.slice sa S.length sc) S.length (flatX cellsS S))/\Hid (∀x∈G,wr.ownsRow (g+1) 3 1 x.lv x.line.length (flatX cellsI x.line))) (fun i _=>A2 - (intOf i).toNat)
   case atStart=>exact⟨0,t5,[],none,0,by omega,rfl,rfl,HX,HG,HB,hid (World.ownsRow_nil _ _ _ _),hid rfl,HS,hid (fun x hx=>by cases hx)⟩
   case round=>
    obtain⟨j,T,G,ua,uc,hj,rfl,hGl,HX,HG,HB,HO,HF,HS,HN⟩:=hrel
    have HGL:Hid (G.length<=4):=hid (by omega)
    have HGJ:=hid hGl
    by_cases hlt:j<A2
    ·obtain⟨m,hm⟩: ∃m,A2 - j=m+1:=⟨A2 - j - 1,by omega⟩
     have HM:Hid (m=A2 - (j+1)):=hid (by omega)
     rw[hm] at HF
     clear hm hGl
     cases hq:lockR bs T with
     | error c=>
      have HQ:=hid hq
      have HE:=hid (HR.out.trans (thenR_err (HF.out.trans (rowR_bad hq))))
      clear hq
      go_upto_region 10 with fail
      refine wp_region_held_drew (S:=fun _=>True) (by kernel_rfl) trivial (fun hHeld=>?_)
      obtain⟨V,hV⟩: ∃V,V=wr.drew:=⟨_,rfl⟩
      have hb:Below wr.heap.size wr V:=(by rw[hV];exact(Below.refl _ _).drew)
      rw[<-hV]
      have HX:=hid (HX.out.later hb)
      have HG:=hid (HG.out.below hb)
      have HB:=hid (HB.out.later hb)
      have HO:=hid (Rw.own_below HO.out hb)
      have HS:Hid (V.ownsRow w.heap.size 73 3 (.slice sa S.length sc) S.length (flatX cellsS S)):=hid (Rw.own_below HS.out hb)
      have HN:Hid (∀x∈G,V.ownsRow (g+1) 3 1 x.lv x.line.length (flatX cellsI x.line)):=hid (fun x hx=>Rw.own_below (HN.out x hx) hb)
      clear hV hb
      refine wpAnyH_take (i:=0) (v:=?_) rfl (by kernel_rfl) (by kernel_rfl) (by kernel_rfl) (fun _ _ _ h=>h) (Or.inl ⟨by rfl,?_⟩) (by assumption) ?_
      rotate_left
      ·intro w hSw;(try dsimp only at hSw);go_simp<;>with_reducible rfl
      try simp only[Act.put,getElem_toArray,getElem_cons_succ,getElem_cons_zero,setIfInBounds_toArray,set_cons_zero,set_cons_succ]
      refine wpAnyH_take (i:=2) (v:=?_) rfl (by kernel_rfl) (by kernel_rfl) (by kernel_rfl) (fun _ _ _ h=>h) (Or.inl ⟨by rfl,?_⟩) (by assumption) ?_
      rotate_left
      ·intro w hSw;(try dsimp only at hSw);go_simp<;>with_reducible rfl
      try simp only[Act.put,getElem_toArray,getElem_cons_succ,getElem_cons_zero,setIfInBounds_toArray,set_cons_zero,set_cons_succ]
      refine wpAnyH_ready (rs:= [1,3]) (by kernel_rfl) (by simp) ?_
      refine AllReadyH.cons rfl (fun K hK=>?_) (AllReadyH.cons rfl (fun K hK=>?_) AllReadyH.nil)
      ·skip
       have kl:=cell_atW HB.out 4
       simp only[List.getElem?_toArray,List.getElem?_cons_zero,List.getElem?_cons_succ] at kl
       go_simp
       clear kl
       refine hK.out _ _ trivial (fun hHeld=>?_)
       clear hK K
       try simp only[Act.put,getElem_toArray,getElem_cons_succ,getElem_cons_zero,setIfInBounds_toArray,set_cons_zero,set_cons_succ]
       refine wpAnyH_ready (rs:= [3]) (by kernel_rfl) (by simp) ?_
       refine AllReadyH.cons rfl (fun K hK=>?_) AllReadyH.nil
       ·skip
        go_simp
        go_at_call 183
        refine(SnapGetLock w0 g v bs T V HX.out).mono ?_
        rintro e V' hh
        obtain⟨hf,hb⟩:=hh.bad HQ.out
        rw[hf]
        exact⟨rfl,GetsRl.fails HE.out rfl hb⟩
      ·skip
       go_simp
       go_at_call 183
       refine(SnapGetLock w0 g v bs T V HX.out).mono ?_
       rintro e V' hh
       obtain⟨hf,hb⟩:=hh.bad HQ.out
       rw[hf]
       exact⟨rfl,GetsRl.fails HE.out rfl hb⟩
     | ok p=>
      obtain⟨y,T'⟩:=p
      have HQ:=hid hq
      have HF:=hid (HF.out.trans (rowR_good hq))
      rw[HM.out] at HF
      clear hq
      go_upto_region 10 with fail
      refine wp_region_held_drew (S:=fun _=>True) (by kernel_rfl) trivial (fun hHeld=>?_)
      obtain⟨V,hV⟩: ∃V,V=wr.drew:=⟨_,rfl⟩
      have hb:Below wr.heap.size wr V:=(by rw[hV];exact(Below.refl _ _).drew)
      rw[<-hV]
      have HX:=hid (HX.out.later hb)
      have HG:=hid (HG.out.below hb)
      have HB:=hid (HB.out.later hb)
      have HO:=hid (Rw.own_below HO.out hb)
      have HS:Hid (V.ownsRow w.heap.size 73 3 (.slice sa S.length sc) S.length (flatX cellsS S)):=hid (Rw.own_below HS.out hb)
      have HN:Hid (∀x∈G,V.ownsRow (g+1) 3 1 x.lv x.line.length (flatX cellsI x.line)):=hid (fun x hx=>Rw.own_below (HN.out x hx) hb)
      clear hV hb
      refine wpAnyH_take (i:=0) (v:=?_) rfl (by kernel_rfl) (by kernel_rfl) (by kernel_rfl) (fun _ _ _ h=>h) (Or.inl ⟨by rfl,?_⟩) (by assumption) ?_
      rotate_left
      ·intro w hSw;(try dsimp only at hSw);go_simp<;>with_reducible rfl
      try simp only[Act.put,getElem_toArray,getElem_cons_succ,getElem_cons_zero,setIfInBounds_toArray,set_cons_zero,set_cons_succ]
      refine wpAnyH_take (i:=2) (v:=?_) rfl (by kernel_rfl) (by kernel_rfl) (by kernel_rfl) (fun _ _ _ h=>h) (Or.inl ⟨by rfl,?_⟩) (by assumption) ?_
      rotate_left
      ·intro w hSw;(try dsimp only at hSw);go_simp<;>with_reducible rfl
      try simp only[Act.put,getElem_toArray,getElem_cons_succ,getElem_cons_zero,setIfInBounds_toArray,set_cons_zero,set_cons_succ]
      refine wpAnyH_ready (rs:= [1,3]) (by kernel_rfl) (by simp) ?_
      refine AllReadyH.cons rfl (fun K hK=>?_) (AllReadyH.cons rfl (fun K hK=>?_) AllReadyH.nil)
      ·skip
       have kl:=cell_atW HB.out 4
       simp only[List.getElem?_toArray,List.getElem?_cons_zero,List.getElem?_cons_succ] at kl
       go_simp
       clear kl
       refine hK.out _ _ trivial (fun hHeld=>?_)
       clear hK K
       try simp only[Act.put,getElem_toArray,getElem_cons_succ,getElem_cons_zero,setIfInBounds_toArray,set_cons_zero,set_cons_succ]
       refine wpAnyH_ready (rs:= [3]) (by kernel_rfl) (by simp) ?_
       refine AllReadyH.cons rfl (fun K hK=>?_) AllReadyH.nil
       ·skip
        go_simp
        go_at_call 183
        refine(SnapGetLock w0 g v bs T V HX.out).mono ?_
        rintro e V' hh
        obtain⟨u,rfl,hR,hx,hg⟩:=hh.good HQ.out
        obtain⟨⟨kn,kh,kt,kln,la,lc⟩,hX,rfl,hxo⟩:=hR
        subst hX
        unfold lockVal LockC.lv
        dsimp only
        have HQV:=trivial
        have HX:=hid hx
        have HB:=hid (show BxAt _ _ _ from hg.at HB.out (by have:=HL.out;omega))
        have HO:=hid (own_gr HO.out HL.out hg)
        have HS:Hid (V'.ownsRow w.heap.size 73 3 (.slice sa S.length sc) S.length (flatX cellsS S)):=hid (own_gr HS.out HL.out hg)
        have HN:Hid (∀x∈G,V'.ownsRow (g+1) 3 1 x.lv x.line.length (flatX cellsI x.line)):=hid (fun x hx=>own_gr (HN.out x hx) (Nat.lt_succ_self _) hg)
        have HG:=hid (HG.out.trans hg)
        have HNX:Hid (V'.ownsRow (g+1) 3 1 ((LockC.lv ⟨kn,kh,kt,kln,la,lc⟩)) kln.length (flatX cellsI kln)):=hid (hxo)
        clear hh hx hg
        obtain⟨V,rfl⟩: ∃V,V=V':=⟨_,rfl⟩
        refine hK.out _ _ trivial (fun hHeld=>?_)
        clear hK K
        try simp only[Act.put,getElem_toArray,getElem_cons_succ,getElem_cons_zero,setIfInBounds_toArray,set_cons_zero,set_cons_succ]
        refine wpAnyH_ready (rs:= [4]) (by kernel_rfl) (by simp) ?_
        refine AllReadyH.cons rfl (fun K hK=>?_) AllReadyH.nil
        ·skip
         go_simp
         obtain⟨V',hV'⟩: ∃V',V'=V.alloc (.cells #[.string (bstr kn),.int .i64 kh,.int .i64 kt,.slice la kln.length lc] 71):=⟨_,rfl⟩
         have hb:Below V.heap.size V V':=(by rw[hV'];exact newAlloc _ _)
         have HZ:Hid (BxAt V' V.heap.size (.cells #[.string (bstr kn),.int .i64 kh,.int .i64 kt,.slice la kln.length lc] 71)):=hid (by rw[hV'];exact BxAt.new _ _)
         rw[<-hV']
         have HX:=hid (HX.out.later hb)
         have HG:=hid (HG.out.below hb)
         have HB:=hid (HB.out.later hb)
         have HO:=hid (Rw.own_below HO.out hb)
         have HS:Hid (V'.ownsRow w.heap.size 73 3 (.slice sa S.length sc) S.length (flatX cellsS S)):=hid (Rw.own_below HS.out hb)
         have HN:Hid (∀x∈G,V'.ownsRow (g+1) 3 1 x.lv x.line.length (flatX cellsI x.line)):=hid (fun x hx=>Rw.own_below (HN.out x hx) hb)
         have HNX:Hid (V'.ownsRow (g+1) 3 1 ((LockC.lv ⟨kn,kh,kt,kln,la,lc⟩)) kln.length (flatX cellsI kln)):=hid (Rw.own_below HNX.out hb)
         clear hV' hb
         generalize V.heap.size=n5 at HZ ⊢
         obtain⟨V,rfl⟩: ∃V,V=V':=⟨_,rfl⟩
         refine hK.out _ _ trivial (fun hHeld=>?_)
         clear hK K
         try simp only[Act.put,getElem_toArray,getElem_cons_succ,getElem_cons_zero,setIfInBounds_toArray,set_cons_zero,set_cons_succ]
         refine wpAnyH_ready (rs:= [5]) (by kernel_rfl) (by simp) ?_
         refine AllReadyH.cons rfl (fun K hK=>?_) AllReadyH.nil
         ·skip
          refine step_append_own (by rfl) _ _ _ (by rfl) w.heap.size 71 j0 _ 4 56 Tryz.underlying23 ji jz0 jz1 jz2 rfl (by omega) (.slice ua G.length uc) G.length _ (by rfl) HO.out ⟨n5,0,none⟩ 1 1 (cellsK (⟨kn,kh,kt,kln,la,lc⟩:LockC)) (by rfl) rfl (World.news_of_block (cs:=#[.string (bstr kn),.int .i64 kh,.int .i64 kt,.slice la kln.length lc]) (t:=71) (fr:=(0,0)) HZ.out) (cellsK_one _) (by unfold maxLen;have:=HGL.out;omega) (by have:=HGL.out;omega) HG.out.size ?_
          intro v' V' hown hgrow _
          have HX:=hid (HX.out.grown HO.out HL.out hgrow)
          have HG:=hid (HG.out.grown HO.out (Nat.le_refl _) hgrow)
          have HB:=hid (HB.out.grown HO.out (by decide) hgrow)
          have HS:Hid (V'.ownsRow w.heap.size 73 3 (.slice sa S.length sc) S.length (flatX cellsS S)):=hid (Rw.own_other HS.out hgrow (own_types HO.out HS.out (by decide)))
          have HN:Hid (∀x∈G,V'.ownsRow (g+1) 3 1 x.lv x.line.length (flatX cellsI x.line)):=hid (fun x hx=>Rw.own_other (HN.out x hx) hgrow (own_types HO.out (HN.out x hx) (by decide)))
          have HNX:Hid (V'.ownsRow (g+1) 3 1 ((LockC.lv ⟨kn,kh,kt,kln,la,lc⟩)) kln.length (flatX cellsI kln)):=hid (Rw.own_other HNX.out hgrow (own_types HO.out HNX.out (by decide)))
          have HO:=hid hown
          obtain⟨va,vc,rfl⟩:=Rw.own_form hown
          clear hown hgrow HZ
          obtain⟨V,rfl⟩: ∃V,V=V':=⟨_,rfl⟩
          refine hK.out _ _ trivial (fun hHeld=>?_)
          clear hK K
          try simp only[Act.put,getElem_toArray,getElem_cons_succ,getElem_cons_zero,setIfInBounds_toArray,set_cons_zero,set_cons_succ]
          refine wpAnyH_take (i:=6) (v:=?_) rfl (by kernel_rfl) (by kernel_rfl) (by kernel_rfl) (fun _ _ _ h=>h) (Or.inl ⟨by rfl,?_⟩) (by assumption) ?_
          rotate_left
          ·intro w hSw;(try dsimp only at hSw);go_simp<;>with_reducible rfl
          try simp only[Act.put,getElem_toArray,getElem_cons_succ,getElem_cons_zero,setIfInBounds_toArray,set_cons_zero,set_cons_succ]
          refine wpAnyH_ready (rs:= [7]) (by kernel_rfl) (by simp) ?_
          refine AllReadyH.cons rfl (fun K hK=>?_) AllReadyH.nil
          ·skip
           have kl:=cell_atW HB.out 4
           simp only[List.getElem?_toArray,List.getElem?_cons_zero,List.getElem?_cons_succ] at kl
           have kf:=frozen_atW HB.out
           go_simp
           have HO:Hid ((V.setCell ⟨w.heap.size,4,none⟩ (.slice va (G.length+1) vc)).ownsRow w.heap.size 71 4 (.slice va (G.length+1) vc) (G++ [(⟨kn,kh,kt,kln,la,lc⟩:LockC)]).length (flatX cellsK (G++ [(⟨kn,kh,kt,kln,la,lc⟩:LockC)]))):=hid (by have q:=own_store HO.out HB.out (by decide) 4 (.slice va (G.length+1) vc);rw[List.length_append,flatX_snoc];exact q)
           have HS:Hid ((V.setCell ⟨w.heap.size,4,none⟩ (.slice va (G.length+1) vc)).ownsRow w.heap.size 73 3 (.slice sa S.length sc) S.length (flatX cellsS S)):=hid (own_store HS.out HB.out (by decide) 4 (.slice va (G.length+1) vc))
           have HN:Hid (∀x∈G,(V.setCell ⟨w.heap.size,4,none⟩ (.slice va (G.length+1) vc)).ownsRow (g+1) 3 1 x.lv x.line.length (flatX cellsI x.line)):=hid (fun x hx=>own_store (HN.out x hx) HB.out (by decide) 4 (.slice va (G.length+1) vc))
           have HNX:Hid ((V.setCell ⟨w.heap.size,4,none⟩ (.slice va (G.length+1) vc)).ownsRow (g+1) 3 1 ((LockC.lv ⟨kn,kh,kt,kln,la,lc⟩)) kln.length (flatX cellsI kln)):=hid (own_store HNX.out HB.out (by decide) 4 (.slice va (G.length+1) vc))
           have HX:=hid (HX.out.set HL.out 4 (.slice va (G.length+1) vc))
           have HG:=hid (HG.out.set (Nat.le_refl _) 4 (.slice va (G.length+1) vc))
           have HB:Hid (BxAt (V.setCell ⟨w.heap.size,4,none⟩ (.slice va (G.length+1) vc)) w.heap.size (.cells #[.int .i64 ti,.int .i64 nu,.int .i64 tk,.slice sa S.length sc,.slice va (G.length+1) vc,.slice none 0 0] 26)):=hid (HB.out.set 4 (.slice va (G.length+1) vc))
           clear kl kf
           refine hK.out _ _ trivial (fun hHeld=>?_)
           clear hK K
           try simp only[Act.put,getElem_toArray,getElem_cons_succ,getElem_cons_zero,setIfInBounds_toArray,set_cons_zero,set_cons_succ]
           refine wpAnyH_done (by kernel_rfl) ?_ _
           go_wp2
           go_roundw
           case rel=>exact⟨j+1,T',G++ [⟨kn,kh,kt,kln,la,lc⟩],va,vc,by omega,by first | rfl | go_num,by have:=HGJ.out;simp;omega,HX,HG,by simpa only[List.length_append,List.length_singleton] using HB,by simpa only[List.length_append,List.length_singleton] using HO,hid (by rw[HF.out,vals_push]),HS,hid (all_push HN.out HNX.out)⟩
           case measure=>simp [intOf]<;>omega
      ·skip
       go_simp
       go_at_call 183
       refine(SnapGetLock w0 g v bs T V HX.out).mono ?_
       rintro e V' hh
       obtain⟨u,rfl,hR,hx,hg⟩:=hh.good HQ.out
       obtain⟨⟨kn,kh,kt,kln,la,lc⟩,hX,rfl,hxo⟩:=hR
       subst hX
       unfold lockVal LockC.lv
       dsimp only
       have HQV:=trivial
       have HX:=hid hx
       have HB:=hid (show BxAt _ _ _ from hg.at HB.out (by have:=HL.out;omega))
       have HO:=hid (own_gr HO.out HL.out hg)
       have HS:Hid (V'.ownsRow w.heap.size 73 3 (.slice sa S.length sc) S.length (flatX cellsS S)):=hid (own_gr HS.out HL.out hg)
       have HN:Hid (∀x∈G,V'.ownsRow (g+1) 3 1 x.lv x.line.length (flatX cellsI x.line)):=hid (fun x hx=>own_gr (HN.out x hx) (Nat.lt_succ_self _) hg)
       have HG:=hid (HG.out.trans hg)
       have HNX:Hid (V'.ownsRow (g+1) 3 1 ((LockC.lv ⟨kn,kh,kt,kln,la,lc⟩)) kln.length (flatX cellsI kln)):=hid (hxo)
       clear hh hx hg
       obtain⟨V,rfl⟩: ∃V,V=V':=⟨_,rfl⟩
       refine hK.out _ _ trivial (fun hHeld=>?_)
       clear hK K
       try simp only[Act.put,getElem_toArray,getElem_cons_succ,getElem_cons_zero,setIfInBounds_toArray,set_cons_zero,set_cons_succ]
       refine wpAnyH_ready (rs:= [1,4]) (by kernel_rfl) (by simp) ?_
       refine AllReadyH.cons rfl (fun K hK=>?_) (AllReadyH.cons rfl (fun K hK=>?_) AllReadyH.nil)
       ·skip
        have kl:=cell_atW HB.out 4
        simp only[List.getElem?_toArray,List.getElem?_cons_zero,List.getElem?_cons_succ] at kl
        go_simp
        clear kl
        refine hK.out _ _ trivial (fun hHeld=>?_)
        clear hK K
        try simp only[Act.put,getElem_toArray,getElem_cons_succ,getElem_cons_zero,setIfInBounds_toArray,set_cons_zero,set_cons_succ]
        refine wpAnyH_ready (rs:= [4]) (by kernel_rfl) (by simp) ?_
        refine AllReadyH.cons rfl (fun K hK=>?_) AllReadyH.nil
        ·skip
         go_simp
         obtain⟨V',hV'⟩: ∃V',V'=V.alloc (.cells #[.string (bstr kn),.int .i64 kh,.int .i64 kt,.slice la kln.length lc] 71):=⟨_,rfl⟩
         have hb:Below V.heap.size V V':=(by rw[hV'];exact newAlloc _ _)
         have HZ:Hid (BxAt V' V.heap.size (.cells #[.string (bstr kn),.int .i64 kh,.int .i64 kt,.slice la kln.length lc] 71)):=hid (by rw[hV'];exact BxAt.new _ _)
         rw[<-hV']
         have HX:=hid (HX.out.later hb)
         have HG:=hid (HG.out.below hb)
         have HB:=hid (HB.out.later hb)
         have HO:=hid (Rw.own_below HO.out hb)
         have HS:Hid (V'.ownsRow w.heap.size 73 3 (.slice sa S.length sc) S.length (flatX cellsS S)):=hid (Rw.own_below HS.out hb)
         have HN:Hid (∀x∈G,V'.ownsRow (g+1) 3 1 x.lv x.line.length (flatX cellsI x.line)):=hid (fun x hx=>Rw.own_below (HN.out x hx) hb)
         have HNX:Hid (V'.ownsRow (g+1) 3 1 ((LockC.lv ⟨kn,kh,kt,kln,la,lc⟩)) kln.length (flatX cellsI kln)):=hid (Rw.own_below HNX.out hb)
         clear hV' hb
         generalize V.heap.size=n5 at HZ ⊢
         obtain⟨V,rfl⟩: ∃V,V=V':=⟨_,rfl⟩
         refine hK.out _ _ trivial (fun hHeld=>?_)
         clear hK K
         try simp only[Act.put,getElem_toArray,getElem_cons_succ,getElem_cons_zero,setIfInBounds_toArray,set_cons_zero,set_cons_succ]
         refine wpAnyH_ready (rs:= [5]) (by kernel_rfl) (by simp) ?_
         refine AllReadyH.cons rfl (fun K hK=>?_) AllReadyH.nil
         ·skip
          refine step_append_own (by rfl) _ _ _ (by rfl) w.heap.size 71 j0 _ 4 56 Tryz.underlying23 ji jz0 jz1 jz2 rfl (by omega) (.slice ua G.length uc) G.length _ (by rfl) HO.out ⟨n5,0,none⟩ 1 1 (cellsK (⟨kn,kh,kt,kln,la,lc⟩:LockC)) (by rfl) rfl (World.news_of_block (cs:=#[.string (bstr kn),.int .i64 kh,.int .i64 kt,.slice la kln.length lc]) (t:=71) (fr:=(0,0)) HZ.out) (cellsK_one _) (by unfold maxLen;have:=HGL.out;omega) (by have:=HGL.out;omega) HG.out.size ?_
          intro v' V' hown hgrow _
          have HX:=hid (HX.out.grown HO.out HL.out hgrow)
          have HG:=hid (HG.out.grown HO.out (Nat.le_refl _) hgrow)
          have HB:=hid (HB.out.grown HO.out (by decide) hgrow)
          have HS:Hid (V'.ownsRow w.heap.size 73 3 (.slice sa S.length sc) S.length (flatX cellsS S)):=hid (Rw.own_other HS.out hgrow (own_types HO.out HS.out (by decide)))
          have HN:Hid (∀x∈G,V'.ownsRow (g+1) 3 1 x.lv x.line.length (flatX cellsI x.line)):=hid (fun x hx=>Rw.own_other (HN.out x hx) hgrow (own_types HO.out (HN.out x hx) (by decide)))
          have HNX:Hid (V'.ownsRow (g+1) 3 1 ((LockC.lv ⟨kn,kh,kt,kln,la,lc⟩)) kln.length (flatX cellsI kln)):=hid (Rw.own_other HNX.out hgrow (own_types HO.out HNX.out (by decide)))
          have HO:=hid hown
          obtain⟨va,vc,rfl⟩:=Rw.own_form hown
          clear hown hgrow HZ
          obtain⟨V,rfl⟩: ∃V,V=V':=⟨_,rfl⟩
          refine hK.out _ _ trivial (fun hHeld=>?_)
          clear hK K
          try simp only[Act.put,getElem_toArray,getElem_cons_succ,getElem_cons_zero,setIfInBounds_toArray,set_cons_zero,set_cons_succ]
          refine wpAnyH_take (i:=6) (v:=?_) rfl (by kernel_rfl) (by kernel_rfl) (by kernel_rfl) (fun _ _ _ h=>h) (Or.inl ⟨by rfl,?_⟩) (by assumption) ?_
          rotate_left
          ·intro w hSw;(try dsimp only at hSw);go_simp<;>with_reducible rfl
          try simp only[Act.put,getElem_toArray,getElem_cons_succ,getElem_cons_zero,setIfInBounds_toArray,set_cons_zero,set_cons_succ]
          refine wpAnyH_ready (rs:= [7]) (by kernel_rfl) (by simp) ?_
          refine AllReadyH.cons rfl (fun K hK=>?_) AllReadyH.nil
          ·skip
           have kl:=cell_atW HB.out 4
           simp only[List.getElem?_toArray,List.getElem?_cons_zero,List.getElem?_cons_succ] at kl
           have kf:=frozen_atW HB.out
           go_simp
           have HO:Hid ((V.setCell ⟨w.heap.size,4,none⟩ (.slice va (G.length+1) vc)).ownsRow w.heap.size 71 4 (.slice va (G.length+1) vc) (G++ [(⟨kn,kh,kt,kln,la,lc⟩:LockC)]).length (flatX cellsK (G++ [(⟨kn,kh,kt,kln,la,lc⟩:LockC)]))):=hid (by have q:=own_store HO.out HB.out (by decide) 4 (.slice va (G.length+1) vc);rw[List.length_append,flatX_snoc];exact q)
           have HS:Hid ((V.setCell ⟨w.heap.size,4,none⟩ (.slice va (G.length+1) vc)).ownsRow w.heap.size 73 3 (.slice sa S.length sc) S.length (flatX cellsS S)):=hid (own_store HS.out HB.out (by decide) 4 (.slice va (G.length+1) vc))
           have HN:Hid (∀x∈G,(V.setCell ⟨w.heap.size,4,none⟩ (.slice va (G.length+1) vc)).ownsRow (g+1) 3 1 x.lv x.line.length (flatX cellsI x.line)):=hid (fun x hx=>own_store (HN.out x hx) HB.out (by decide) 4 (.slice va (G.length+1) vc))
           have HNX:Hid ((V.setCell ⟨w.heap.size,4,none⟩ (.slice va (G.length+1) vc)).ownsRow (g+1) 3 1 ((LockC.lv ⟨kn,kh,kt,kln,la,lc⟩)) kln.length (flatX cellsI kln)):=hid (own_store HNX.out HB.out (by decide) 4 (.slice va (G.length+1) vc))
           have HX:=hid (HX.out.set HL.out 4 (.slice va (G.length+1) vc))
           have HG:=hid (HG.out.set (Nat.le_refl _) 4 (.slice va (G.length+1) vc))
           have HB:Hid (BxAt (V.setCell ⟨w.heap.size,4,none⟩ (.slice va (G.length+1) vc)) w.heap.size (.cells #[.int .i64 ti,.int .i64 nu,.int .i64 tk,.slice sa S.length sc,.slice va (G.length+1) vc,.slice none 0 0] 26)):=hid (HB.out.set 4 (.slice va (G.length+1) vc))
           clear kl kf
           refine hK.out _ _ trivial (fun hHeld=>?_)
           clear hK K
           try simp only[Act.put,getElem_toArray,getElem_cons_succ,getElem_cons_zero,setIfInBounds_toArray,set_cons_zero,set_cons_succ]
           refine wpAnyH_done (by kernel_rfl) ?_ _
           go_wp2
           go_roundw
           case rel=>exact⟨j+1,T',G++ [⟨kn,kh,kt,kln,la,lc⟩],va,vc,by omega,by first | rfl | go_num,by have:=HGJ.out;simp;omega,HX,HG,by simpa only[List.length_append,List.length_singleton] using HB,by simpa only[List.length_append,List.length_singleton] using HO,hid (by rw[HF.out,vals_push]),HS,hid (all_push HN.out HNX.out)⟩
           case measure=>simp [intOf]<;>omega
       ·skip
        go_simp
        obtain⟨V',hV'⟩: ∃V',V'=V.alloc (.cells #[.string (bstr kn),.int .i64 kh,.int .i64 kt,.slice la kln.length lc] 71):=⟨_,rfl⟩
        have hb:Below V.heap.size V V':=(by rw[hV'];exact newAlloc _ _)
        have HZ:Hid (BxAt V' V.heap.size (.cells #[.string (bstr kn),.int .i64 kh,.int .i64 kt,.slice la kln.length lc] 71)):=hid (by rw[hV'];exact BxAt.new _ _)
        rw[<-hV']
        have HX:=hid (HX.out.later hb)
        have HG:=hid (HG.out.below hb)
        have HB:=hid (HB.out.later hb)
        have HO:=hid (Rw.own_below HO.out hb)
        have HS:Hid (V'.ownsRow w.heap.size 73 3 (.slice sa S.length sc) S.length (flatX cellsS S)):=hid (Rw.own_below HS.out hb)
        have HN:Hid (∀x∈G,V'.ownsRow (g+1) 3 1 x.lv x.line.length (flatX cellsI x.line)):=hid (fun x hx=>Rw.own_below (HN.out x hx) hb)
        have HNX:Hid (V'.ownsRow (g+1) 3 1 ((LockC.lv ⟨kn,kh,kt,kln,la,lc⟩)) kln.length (flatX cellsI kln)):=hid (Rw.own_below HNX.out hb)
        clear hV' hb
        generalize V.heap.size=n5 at HZ ⊢
        obtain⟨V,rfl⟩: ∃V,V=V':=⟨_,rfl⟩
        refine hK.out _ _ trivial (fun hHeld=>?_)
        clear hK K
        try simp only[Act.put,getElem_toArray,getElem_cons_succ,getElem_cons_zero,setIfInBounds_toArray,set_cons_zero,set_cons_succ]
        refine wpAnyH_ready (rs:= [1]) (by kernel_rfl) (by simp) ?_
        refine AllReadyH.cons rfl (fun K hK=>?_) AllReadyH.nil
        ·skip
         have kl:=cell_atW HB.out 4
         simp only[List.getElem?_toArray,List.getElem?_cons_zero,List.getElem?_cons_succ] at kl
         go_simp
         clear kl
         refine hK.out _ _ trivial (fun hHeld=>?_)
         clear hK K
         try simp only[Act.put,getElem_toArray,getElem_cons_succ,getElem_cons_zero,setIfInBounds_toArray,set_cons_zero,set_cons_succ]
         refine wpAnyH_ready (rs:= [5]) (by kernel_rfl) (by simp) ?_
         refine AllReadyH.cons rfl (fun K hK=>?_) AllReadyH.nil
         ·skip
          refine step_append_own (by rfl) _ _ _ (by rfl) w.heap.size 71 j0 _ 4 56 Tryz.underlying23 ji jz0 jz1 jz2 rfl (by omega) (.slice ua G.length uc) G.length _ (by rfl) HO.out ⟨n5,0,none⟩ 1 1 (cellsK (⟨kn,kh,kt,kln,la,lc⟩:LockC)) (by rfl) rfl (World.news_of_block (cs:=#[.string (bstr kn),.int .i64 kh,.int .i64 kt,.slice la kln.length lc]) (t:=71) (fr:=(0,0)) HZ.out) (cellsK_one _) (by unfold maxLen;have:=HGL.out;omega) (by have:=HGL.out;omega) HG.out.size ?_
          intro v' V' hown hgrow _
          have HX:=hid (HX.out.grown HO.out HL.out hgrow)
          have HG:=hid (HG.out.grown HO.out (Nat.le_refl _) hgrow)
          have HB:=hid (HB.out.grown HO.out (by decide) hgrow)
          have HS:Hid (V'.ownsRow w.heap.size 73 3 (.slice sa S.length sc) S.length (flatX cellsS S)):=hid (Rw.own_other HS.out hgrow (own_types HO.out HS.out (by decide)))
          have HN:Hid (∀x∈G,V'.ownsRow (g+1) 3 1 x.lv x.line.length (flatX cellsI x.line)):=hid (fun x hx=>Rw.own_other (HN.out x hx) hgrow (own_types HO.out (HN.out x hx) (by decide)))
          have HNX:Hid (V'.ownsRow (g+1) 3 1 ((LockC.lv ⟨kn,kh,kt,kln,la,lc⟩)) kln.length (flatX cellsI kln)):=hid (Rw.own_other HNX.out hgrow (own_types HO.out HNX.out (by decide)))
          have HO:=hid hown
          obtain⟨va,vc,rfl⟩:=Rw.own_form hown
          clear hown hgrow HZ
          obtain⟨V,rfl⟩: ∃V,V=V':=⟨_,rfl⟩
          refine hK.out _ _ trivial (fun hHeld=>?_)
          clear hK K
          try simp only[Act.put,getElem_toArray,getElem_cons_succ,getElem_cons_zero,setIfInBounds_toArray,set_cons_zero,set_cons_succ]
          refine wpAnyH_take (i:=6) (v:=?_) rfl (by kernel_rfl) (by kernel_rfl) (by kernel_rfl) (fun _ _ _ h=>h) (Or.inl ⟨by rfl,?_⟩) (by assumption) ?_
          rotate_left
          ·intro w hSw;(try dsimp only at hSw);go_simp<;>with_reducible rfl
          try simp only[Act.put,getElem_toArray,getElem_cons_succ,getElem_cons_zero,setIfInBounds_toArray,set_cons_zero,set_cons_succ]
          refine wpAnyH_ready (rs:= [7]) (by kernel_rfl) (by simp) ?_
          refine AllReadyH.cons rfl (fun K hK=>?_) AllReadyH.nil
          ·skip
           have kl:=cell_atW HB.out 4
           simp only[List.getElem?_toArray,List.getElem?_cons_zero,List.getElem?_cons_succ] at kl
           have kf:=frozen_atW HB.out
           go_simp
           have HO:Hid ((V.setCell ⟨w.heap.size,4,none⟩ (.slice va (G.length+1) vc)).ownsRow w.heap.size 71 4 (.slice va (G.length+1) vc) (G++ [(⟨kn,kh,kt,kln,la,lc⟩:LockC)]).length (flatX cellsK (G++ [(⟨kn,kh,kt,kln,la,lc⟩:LockC)]))):=hid (by have q:=own_store HO.out HB.out (by decide) 4 (.slice va (G.length+1) vc);rw[List.length_append,flatX_snoc];exact q)
           have HS:Hid ((V.setCell ⟨w.heap.size,4,none⟩ (.slice va (G.length+1) vc)).ownsRow w.heap.size 73 3 (.slice sa S.length sc) S.length (flatX cellsS S)):=hid (own_store HS.out HB.out (by decide) 4 (.slice va (G.length+1) vc))
           have HN:Hid (∀x∈G,(V.setCell ⟨w.heap.size,4,none⟩ (.slice va (G.length+1) vc)).ownsRow (g+1) 3 1 x.lv x.line.length (flatX cellsI x.line)):=hid (fun x hx=>own_store (HN.out x hx) HB.out (by decide) 4 (.slice va (G.length+1) vc))
           have HNX:Hid ((V.setCell ⟨w.heap.size,4,none⟩ (.slice va (G.length+1) vc)).ownsRow (g+1) 3 1 ((LockC.lv ⟨kn,kh,kt,kln,la,lc⟩)) kln.length (flatX cellsI kln)):=hid (own_store HNX.out HB.out (by decide) 4 (.slice va (G.length+1) vc))
           have HX:=hid (HX.out.set HL.out 4 (.slice va (G.length+1) vc))
           have HG:=hid (HG.out.set (Nat.le_refl _) 4 (.slice va (G.length+1) vc))
           have HB:Hid (BxAt (V.setCell ⟨w.heap.size,4,none⟩ (.slice va (G.length+1) vc)) w.heap.size (.cells #[.int .i64 ti,.int .i64 nu,.int .i64 tk,.slice sa S.length sc,.slice va (G.length+1) vc,.slice none 0 0] 26)):=hid (HB.out.set 4 (.slice va (G.length+1) vc))
           clear kl kf
           refine hK.out _ _ trivial (fun hHeld=>?_)
           clear hK K
           try simp only[Act.put,getElem_toArray,getElem_cons_succ,getElem_cons_zero,setIfInBounds_toArray,set_cons_zero,set_cons_succ]
           refine wpAnyH_done (by kernel_rfl) ?_ _
           go_wp2
           go_roundw
           case rel=>exact⟨j+1,T',G++ [⟨kn,kh,kt,kln,la,lc⟩],va,vc,by omega,by first | rfl | go_num,by have:=HGJ.out;simp;omega,HX,HG,by simpa only[List.length_append,List.length_singleton] using HB,by simpa only[List.length_append,List.length_singleton] using HO,hid (by rw[HF.out,vals_push]),HS,hid (all_push HN.out HNX.out)⟩
           case measure=>simp [intOf]<;>omega
    ·obtain rfl:j=A2:=by omega
     rw[Nat.sub_self] at HF
     have HR:=hid (HR.out.trans (thenR_ok (x:=(vals G)) (t':=T) (HF.out.trans rfl)))
     clear HF
     obtain⟨KL,hK⟩: ∃KL,KL=G:=⟨_,rfl⟩
     subst hK
     obtain⟨ka,hka⟩: ∃ka,ka=ua:=⟨_,rfl⟩
     subst hka
     obtain⟨kc,hkc⟩: ∃kc,kc=uc:=⟨_,rfl⟩
     subst hkc
     obtain⟨W,hW⟩: ∃W,W=wr:=⟨_,rfl⟩
     subst hW
     have HK:=HO
     clear HO HGL HGJ hGl hlt hj hN3
     have C:=hid (SnapGetCount 8 w0 g v bs T W HX.out)
     cases hq:countR 8 bs T with
     | error c=>
      have HQ:=hid hq
      clear hq
      go_wp2_with fail
      refine C.out.mono ?_
      rintro e w2 hh
      obtain⟨hf,hb⟩:=hh.bad HQ.out
      rw[hf]
      exact⟨rfl,GetsRl.fails (HR.out.trans (thenR_err HQ.out)) rfl hb⟩
     | ok p=>
     obtain⟨N3,t6⟩:=p
     have HR:=hid (HR.out.trans (thenR_ok hq))
     have hN:=count_ok hq
     have HQ:=hid hq
     clear hq
     go_wp2_with fail
     refine C.out.mono ?_
     rintro e w2 hh
     obtain⟨rfl,hx,hg⟩:=hh.good HQ.out
     have HX:=hid hx
     have hA:BxAt w2 w.heap.size (.cells #[.int .i64 ti,.int .i64 nu,.int .i64 tk,.slice sa S.length sc,.slice ka KL.length kc,.slice none 0 0] 26):=hg.at HB.out (by have:=HL.out;omega)
     have HS:Hid (w2.ownsRow w.heap.size 73 3 (.slice sa S.length sc) S.length (flatX cellsS S)):=hid (own_gr HS.out HL.out hg)
     have HK:Hid (w2.ownsRow w.heap.size 71 4 (.slice ka KL.length kc) KL.length (flatX cellsK KL)):=hid (own_gr HK.out HL.out hg)
     have HN:Hid (∀x∈KL,w2.ownsRow (g+1) 3 1 x.lv x.line.length (flatX cellsI x.line)):=hid (fun x hx=>own_gr (HN.out x hx) (Nat.lt_succ_self _) hg)
     have HG:=hid (HG.out.trans hg)
     clear hh hx hg C HQ HB
     unfold intV
     have HB:=hid hA
     clear hA
     obtain⟨A3,rfl⟩:=Int.eq_ofNat_of_zero_le hN.1
     rw[Int.toNat_natCast] at HR
     have hN3:A3<=8:=by omega
     clear hN
     go_wp2_with fail
     go_loopw [38] (fun i wr=> ∃(j:Nat) (T:Int) (G:List MemC) (ua:Option Addr) (uc:Nat),j<=A3/\i= .int .i64 (j:Int)/\G.length=j/\Hid (RX w0 g v bs T wr)/\Hid (Gr g w wr)/\Hid (BxAt wr w.heap.size (.cells #[.int .i64 ti,.int .i64 nu,.int .i64 tk,.slice sa S.length sc,.slice ka KL.length kc,.slice ua G.length uc] 26))/\
      Hid (wr.ownsRow w.heap.size 76 6 (.slice ua G.length uc) G.length (flatX cellsM G))/\Hid (rowR ansR [] A3 bs t6=rowR ansR (valsM G) (A3 - j) bs T)/\Hid (wr.ownsRow w.heap.size 73 3 (.slice sa S.length sc) S.length (flatX cellsS S))/\Hid (wr.ownsRow w.heap.size 71 4 (.slice ka KL.length kc) KL.length (flatX cellsK KL))/\Hid (∀x∈KL,wr.ownsRow (g+1) 3 1 x.lv x.line.length (flatX cellsI x.line))/\Hid (∀x∈G,wr.ownsRow (g+1) 141 2 x.hv x.m.rep.held.length (flatX cellsG x.m.rep.held))) (fun i _=>A3 - (intOf i).toNat)
     case atStart=>exact⟨0,t6,[],none,0,by omega,rfl,rfl,HX,HG,HB,hid (World.ownsRow_nil _ _ _ _),hid rfl,HS,HK,HN,hid (fun x hx=>by cases hx)⟩
     case round=>
      obtain⟨j,T,G,ua,uc,hj,rfl,hGl,HX,HG,HB,HO,HF,HS,HK,HN,HD⟩:=hrel
      have HGL:Hid (G.length<=8):=hid (by omega)
      have HGJ:=hid hGl
      by_cases hlt:j<A3
      ·obtain⟨m,hm⟩: ∃m,A3 - j=m+1:=⟨A3 - j - 1,by omega⟩
       have HM:Hid (m=A3 - (j+1)):=hid (by omega)
       rw[hm] at HF
       clear hm hGl
       cases hq:ansR bs T with
       | error c=>
        have HQ:=hid hq
        have HE:=hid (HR.out.trans (thenR_err (HF.out.trans (rowR_bad hq))))
        clear hq
        go_upto_region 14 with fail
        refine wp_region_held_drew (S:=fun _=>True) (by kernel_rfl) trivial (fun hHeld=>?_)
        obtain⟨V,hV⟩: ∃V,V=wr.drew:=⟨_,rfl⟩
        have hb:Below wr.heap.size wr V:=(by rw[hV];exact(Below.refl _ _).drew)
        rw[<-hV]
        have HX:=hid (HX.out.later hb)
        have HG:=hid (HG.out.below hb)
        have HB:=hid (HB.out.later hb)
        have HO:=hid (Rw.own_below HO.out hb)
        have HS:Hid (V.ownsRow w.heap.size 73 3 (.slice sa S.length sc) S.length (flatX cellsS S)):=hid (Rw.own_below HS.out hb)
        have HK:Hid (V.ownsRow w.heap.size 71 4 (.slice ka KL.length kc) KL.length (flatX cellsK KL)):=hid (Rw.own_below HK.out hb)
        have HN:Hid (∀x∈KL,V.ownsRow (g+1) 3 1 x.lv x.line.length (flatX cellsI x.line)):=hid (fun x hx=>Rw.own_below (HN.out x hx) hb)
        have HD:Hid (∀x∈G,V.ownsRow (g+1) 141 2 x.hv x.m.rep.held.length (flatX cellsG x.m.rep.held)):=hid (fun x hx=>Rw.own_below (HD.out x hx) hb)
        clear hV hb
        refine wpAnyH_take (i:=0) (v:=?_) rfl (by kernel_rfl) (by kernel_rfl) (by kernel_rfl) (fun _ _ _ h=>h) (Or.inl ⟨by rfl,?_⟩) (by assumption) ?_
        rotate_left
        ·intro w hSw;(try dsimp only at hSw);go_simp<;>with_reducible rfl
        try simp only[Act.put,getElem_toArray,getElem_cons_succ,getElem_cons_zero,setIfInBounds_toArray,set_cons_zero,set_cons_succ]
        refine wpAnyH_take (i:=2) (v:=?_) rfl (by kernel_rfl) (by kernel_rfl) (by kernel_rfl) (fun _ _ _ h=>h) (Or.inl ⟨by rfl,?_⟩) (by assumption) ?_
        rotate_left
        ·intro w hSw;(try dsimp only at hSw);go_simp<;>with_reducible rfl
        try simp only[Act.put,getElem_toArray,getElem_cons_succ,getElem_cons_zero,setIfInBounds_toArray,set_cons_zero,set_cons_succ]
        refine wpAnyH_ready (rs:= [1,3]) (by kernel_rfl) (by simp) ?_
        refine AllReadyH.cons rfl (fun K hK=>?_) (AllReadyH.cons rfl (fun K hK=>?_) AllReadyH.nil)
        ·skip
         have kl:=cell_atW HB.out 5
         simp only[List.getElem?_toArray,List.getElem?_cons_zero,List.getElem?_cons_succ] at kl
         go_simp
         clear kl
         refine hK.out _ _ trivial (fun hHeld=>?_)
         clear hK K
         try simp only[Act.put,getElem_toArray,getElem_cons_succ,getElem_cons_zero,setIfInBounds_toArray,set_cons_zero,set_cons_succ]
         refine wpAnyH_ready (rs:= [3]) (by kernel_rfl) (by simp) ?_
         refine AllReadyH.cons rfl (fun K hK=>?_) AllReadyH.nil
         ·skip
          go_simp
          go_at_call 184
          refine(SnapGetMemo w0 g v bs T V HX.out).mono ?_
          rintro e V' hh
          obtain⟨hf,hb⟩:=hh.bad HQ.out
          rw[hf]
          exact⟨rfl,GetsRl.fails HE.out rfl hb⟩
        ·skip
         go_simp
         go_at_call 184
         refine(SnapGetMemo w0 g v bs T V HX.out).mono ?_
         rintro e V' hh
         obtain⟨hf,hb⟩:=hh.bad HQ.out
         rw[hf]
         exact⟨rfl,GetsRl.fails HE.out rfl hb⟩
       | ok p=>
        obtain⟨y,T'⟩:=p
        have HQ:=hid hq
        have HF:=hid (HF.out.trans (rowR_good hq))
        rw[HM.out] at HF
        clear hq
        go_upto_region 14 with fail
        refine wp_region_held_drew (S:=fun _=>True) (by kernel_rfl) trivial (fun hHeld=>?_)
        obtain⟨V,hV⟩: ∃V,V=wr.drew:=⟨_,rfl⟩
        have hb:Below wr.heap.size wr V:=(by rw[hV];exact(Below.refl _ _).drew)
        rw[<-hV]
        have HX:=hid (HX.out.later hb)
        have HG:=hid (HG.out.below hb)
        have HB:=hid (HB.out.later hb)
        have HO:=hid (Rw.own_below HO.out hb)
        have HS:Hid (V.ownsRow w.heap.size 73 3 (.slice sa S.length sc) S.length (flatX cellsS S)):=hid (Rw.own_below HS.out hb)
        have HK:Hid (V.ownsRow w.heap.size 71 4 (.slice ka KL.length kc) KL.length (flatX cellsK KL)):=hid (Rw.own_below HK.out hb)
        have HN:Hid (∀x∈KL,V.ownsRow (g+1) 3 1 x.lv x.line.length (flatX cellsI x.line)):=hid (fun x hx=>Rw.own_below (HN.out x hx) hb)
        have HD:Hid (∀x∈G,V.ownsRow (g+1) 141 2 x.hv x.m.rep.held.length (flatX cellsG x.m.rep.held)):=hid (fun x hx=>Rw.own_below (HD.out x hx) hb)
        clear hV hb
        refine wpAnyH_take (i:=0) (v:=?_) rfl (by kernel_rfl) (by kernel_rfl) (by kernel_rfl) (fun _ _ _ h=>h) (Or.inl ⟨by rfl,?_⟩) (by assumption) ?_
        rotate_left
        ·intro w hSw;(try dsimp only at hSw);go_simp<;>with_reducible rfl
        try simp only[Act.put,getElem_toArray,getElem_cons_succ,getElem_cons_zero,setIfInBounds_toArray,set_cons_zero,set_cons_succ]
        refine wpAnyH_take (i:=2) (v:=?_) rfl (by kernel_rfl) (by kernel_rfl) (by kernel_rfl) (fun _ _ _ h=>h) (Or.inl ⟨by rfl,?_⟩) (by assumption) ?_
        rotate_left
        ·intro w hSw;(try dsimp only at hSw);go_simp<;>with_reducible rfl
        try simp only[Act.put,getElem_toArray,getElem_cons_succ,getElem_cons_zero,setIfInBounds_toArray,set_cons_zero,set_cons_succ]
        refine wpAnyH_ready (rs:= [1,3]) (by kernel_rfl) (by simp) ?_
        refine AllReadyH.cons rfl (fun K hK=>?_) (AllReadyH.cons rfl (fun K hK=>?_) AllReadyH.nil)
        ·skip
         have kl:=cell_atW HB.out 5
         simp only[List.getElem?_toArray,List.getElem?_cons_zero,List.getElem?_cons_succ] at kl
         go_simp
         clear kl
         refine hK.out _ _ trivial (fun hHeld=>?_)
         clear hK K
         try simp only[Act.put,getElem_toArray,getElem_cons_succ,getElem_cons_zero,setIfInBounds_toArray,set_cons_zero,set_cons_succ]
         refine wpAnyH_ready (rs:= [3]) (by kernel_rfl) (by simp) ?_
         refine AllReadyH.cons rfl (fun K hK=>?_) AllReadyH.nil
         ·skip
          go_simp
          go_at_call 184
          refine(SnapGetMemo w0 g v bs T V HX.out).mono ?_
          rintro e V' hh
          obtain⟨u,rfl,hR,hx,hg⟩:=hh.good HQ.out
          obtain⟨⟨⟨ac,asq,⟨ak,an,ad,al⟩⟩,hha,hcp⟩,hX,rfl,hxo⟩:=hR
          subst hX
          unfold memVal MemC.hv
          dsimp only
          have HX:=hid hx
          have HB:=hid (show BxAt _ _ _ from hg.at HB.out (by have:=HL.out;omega))
          have HO:=hid (own_gr HO.out HL.out hg)
          have HS:Hid (V'.ownsRow w.heap.size 73 3 (.slice sa S.length sc) S.length (flatX cellsS S)):=hid (own_gr HS.out HL.out hg)
          have HK:Hid (V'.ownsRow w.heap.size 71 4 (.slice ka KL.length kc) KL.length (flatX cellsK KL)):=hid (own_gr HK.out HL.out hg)
          have HN:Hid (∀x∈KL,V'.ownsRow (g+1) 3 1 x.lv x.line.length (flatX cellsI x.line)):=hid (fun x hx=>own_gr (HN.out x hx) (Nat.lt_succ_self _) hg)
          have HD:Hid (∀x∈G,V'.ownsRow (g+1) 141 2 x.hv x.m.rep.held.length (flatX cellsG x.m.rep.held)):=hid (fun x hx=>own_gr (HD.out x hx) (Nat.lt_succ_self _) hg)
          have HG:=hid (HG.out.trans hg)
          have HDX:Hid (V'.ownsRow (g+1) 141 2 ((MemC.hv ⟨⟨ac,asq,⟨ak,an,ad,al⟩⟩,hha,hcp⟩)) al.length (flatX cellsG al)):=hid (hxo)
          clear hh hx hg
          obtain⟨V,rfl⟩: ∃V,V=V':=⟨_,rfl⟩
          refine hK.out _ _ trivial (fun hHeld=>?_)
          clear hK K
          try simp only[Act.put,getElem_toArray,getElem_cons_succ,getElem_cons_zero,setIfInBounds_toArray,set_cons_zero,set_cons_succ]
          refine wpAnyH_ready (rs:= [4]) (by kernel_rfl) (by simp) ?_
          refine AllReadyH.cons rfl (fun K hK=>?_) AllReadyH.nil
          ·skip
           go_simp
           obtain⟨V',hV'⟩: ∃V',V'=V.alloc (.cells #[.int .i64 ac,.int .i64 asq,.int .i64 ak,.int .i64 an,.int .i64 ad,.slice hha al.length hcp] 76):=⟨_,rfl⟩
           have hb:Below V.heap.size V V':=(by rw[hV'];exact newAlloc _ _)
           have HZ:Hid (BxAt V' V.heap.size (.cells #[.int .i64 ac,.int .i64 asq,.int .i64 ak,.int .i64 an,.int .i64 ad,.slice hha al.length hcp] 76)):=hid (by rw[hV'];exact BxAt.new _ _)
           rw[<-hV']
           have HX:=hid (HX.out.later hb)
           have HG:=hid (HG.out.below hb)
           have HB:=hid (HB.out.later hb)
           have HO:=hid (Rw.own_below HO.out hb)
           have HS:Hid (V'.ownsRow w.heap.size 73 3 (.slice sa S.length sc) S.length (flatX cellsS S)):=hid (Rw.own_below HS.out hb)
           have HK:Hid (V'.ownsRow w.heap.size 71 4 (.slice ka KL.length kc) KL.length (flatX cellsK KL)):=hid (Rw.own_below HK.out hb)
           have HN:Hid (∀x∈KL,V'.ownsRow (g+1) 3 1 x.lv x.line.length (flatX cellsI x.line)):=hid (fun x hx=>Rw.own_below (HN.out x hx) hb)
           have HD:Hid (∀x∈G,V'.ownsRow (g+1) 141 2 x.hv x.m.rep.held.length (flatX cellsG x.m.rep.held)):=hid (fun x hx=>Rw.own_below (HD.out x hx) hb)
           have HDX:Hid (V'.ownsRow (g+1) 141 2 ((MemC.hv ⟨⟨ac,asq,⟨ak,an,ad,al⟩⟩,hha,hcp⟩)) al.length (flatX cellsG al)):=hid (Rw.own_below HDX.out hb)
           clear hV' hb
           generalize V.heap.size=n5 at HZ ⊢
           obtain⟨V,rfl⟩: ∃V,V=V':=⟨_,rfl⟩
           refine hK.out _ _ trivial (fun hHeld=>?_)
           clear hK K
           try simp only[Act.put,getElem_toArray,getElem_cons_succ,getElem_cons_zero,setIfInBounds_toArray,set_cons_zero,set_cons_succ]
           refine wpAnyH_ready (rs:= [5]) (by kernel_rfl) (by simp) ?_
           refine AllReadyH.cons rfl (fun K hK=>?_) AllReadyH.nil
           ·skip
            refine step_append_own (by rfl) _ _ _ (by rfl) w.heap.size 76 m0 _ 6 64 Tryz.underlying24 mi mz0 mz1 mz2 rfl (by omega) (.slice ua G.length uc) G.length _ (by rfl) HO.out ⟨n5,0,none⟩ 1 1 (cellsM (⟨⟨ac,asq,⟨ak,an,ad,al⟩⟩,hha,hcp⟩:MemC)) (by rfl) rfl (World.news_of_block (cs:=#[.int .i64 ac,.int .i64 asq,.int .i64 ak,.int .i64 an,.int .i64 ad,.slice hha al.length hcp]) (t:=76) (fr:=(0,0)) HZ.out) (cellsM_one _) (by unfold maxLen;have:=HGL.out;omega) (by have:=HGL.out;omega) HG.out.size ?_
            intro v' V' hown hgrow _
            have HX:=hid (HX.out.grown HO.out HL.out hgrow)
            have HG:=hid (HG.out.grown HO.out (Nat.le_refl _) hgrow)
            have HB:=hid (HB.out.grown HO.out (by decide) hgrow)
            have HS:Hid (V'.ownsRow w.heap.size 73 3 (.slice sa S.length sc) S.length (flatX cellsS S)):=hid (Rw.own_other HS.out hgrow (own_types HO.out HS.out (by decide)))
            have HK:Hid (V'.ownsRow w.heap.size 71 4 (.slice ka KL.length kc) KL.length (flatX cellsK KL)):=hid (Rw.own_other HK.out hgrow (own_types HO.out HK.out (by decide)))
            have HN:Hid (∀x∈KL,V'.ownsRow (g+1) 3 1 x.lv x.line.length (flatX cellsI x.line)):=hid (fun x hx=>Rw.own_other (HN.out x hx) hgrow (own_types HO.out (HN.out x hx) (by decide)))
            have HD:Hid (∀x∈G,V'.ownsRow (g+1) 141 2 x.hv x.m.rep.held.length (flatX cellsG x.m.rep.held)):=hid (fun x hx=>Rw.own_other (HD.out x hx) hgrow (own_types HO.out (HD.out x hx) (by decide)))
            have HDX:Hid (V'.ownsRow (g+1) 141 2 ((MemC.hv ⟨⟨ac,asq,⟨ak,an,ad,al⟩⟩,hha,hcp⟩)) al.length (flatX cellsG al)):=hid (Rw.own_other HDX.out hgrow (own_types HO.out HDX.out (by decide)))
            have HO:=hid hown
            obtain⟨va,vc,rfl⟩:=Rw.own_form hown
            clear hown hgrow HZ
            obtain⟨V,rfl⟩: ∃V,V=V':=⟨_,rfl⟩
            refine hK.out _ _ trivial (fun hHeld=>?_)
            clear hK K
            try simp only[Act.put,getElem_toArray,getElem_cons_succ,getElem_cons_zero,setIfInBounds_toArray,set_cons_zero,set_cons_succ]
            refine wpAnyH_take (i:=6) (v:=?_) rfl (by kernel_rfl) (by kernel_rfl) (by kernel_rfl) (fun _ _ _ h=>h) (Or.inl ⟨by rfl,?_⟩) (by assumption) ?_
            rotate_left
            ·intro w hSw;(try dsimp only at hSw);go_simp<;>with_reducible rfl
            try simp only[Act.put,getElem_toArray,getElem_cons_succ,getElem_cons_zero,setIfInBounds_toArray,set_cons_zero,set_cons_succ]
            refine wpAnyH_ready (rs:= [7]) (by kernel_rfl) (by simp) ?_
            refine AllReadyH.cons rfl (fun K hK=>?_) AllReadyH.nil
            ·skip
             have kl:=cell_atW HB.out 5
             simp only[List.getElem?_toArray,List.getElem?_cons_zero,List.getElem?_cons_succ] at kl
             have kf:=frozen_atW HB.out
             go_simp
             have HO:Hid ((V.setCell ⟨w.heap.size,5,none⟩ (.slice va (G.length+1) vc)).ownsRow w.heap.size 76 6 (.slice va (G.length+1) vc) (G++ [(⟨⟨ac,asq,⟨ak,an,ad,al⟩⟩,hha,hcp⟩:MemC)]).length (flatX cellsM (G++ [(⟨⟨ac,asq,⟨ak,an,ad,al⟩⟩,hha,hcp⟩:MemC)]))):=hid (by have q:=own_store HO.out HB.out (by decide) 5 (.slice va (G.length+1) vc);rw[List.length_append,flatX_snoc];exact q)
             have HS:Hid ((V.setCell ⟨w.heap.size,5,none⟩ (.slice va (G.length+1) vc)).ownsRow w.heap.size 73 3 (.slice sa S.length sc) S.length (flatX cellsS S)):=hid (own_store HS.out HB.out (by decide) 5 (.slice va (G.length+1) vc))
             have HK:Hid ((V.setCell ⟨w.heap.size,5,none⟩ (.slice va (G.length+1) vc)).ownsRow w.heap.size 71 4 (.slice ka KL.length kc) KL.length (flatX cellsK KL)):=hid (own_store HK.out HB.out (by decide) 5 (.slice va (G.length+1) vc))
             have HN:Hid (∀x∈KL,(V.setCell ⟨w.heap.size,5,none⟩ (.slice va (G.length+1) vc)).ownsRow (g+1) 3 1 x.lv x.line.length (flatX cellsI x.line)):=hid (fun x hx=>own_store (HN.out x hx) HB.out (by decide) 5 (.slice va (G.length+1) vc))
             have HD:Hid (∀x∈G,(V.setCell ⟨w.heap.size,5,none⟩ (.slice va (G.length+1) vc)).ownsRow (g+1) 141 2 x.hv x.m.rep.held.length (flatX cellsG x.m.rep.held)):=hid (fun x hx=>own_store (HD.out x hx) HB.out (by decide) 5 (.slice va (G.length+1) vc))
             have HDX:Hid ((V.setCell ⟨w.heap.size,5,none⟩ (.slice va (G.length+1) vc)).ownsRow (g+1) 141 2 ((MemC.hv ⟨⟨ac,asq,⟨ak,an,ad,al⟩⟩,hha,hcp⟩)) al.length (flatX cellsG al)):=hid (own_store HDX.out HB.out (by decide) 5 (.slice va (G.length+1) vc))
             have HX:=hid (HX.out.set HL.out 5 (.slice va (G.length+1) vc))
             have HG:=hid (HG.out.set (Nat.le_refl _) 5 (.slice va (G.length+1) vc))
             have HB:Hid (BxAt (V.setCell ⟨w.heap.size,5,none⟩ (.slice va (G.length+1) vc)) w.heap.size (.cells #[.int .i64 ti,.int .i64 nu,.int .i64 tk,.slice sa S.length sc,.slice ka KL.length kc,.slice va (G.length+1) vc] 26)):=hid (HB.out.set 5 (.slice va (G.length+1) vc))
             clear kl kf
             refine hK.out _ _ trivial (fun hHeld=>?_)
             clear hK K
             try simp only[Act.put,getElem_toArray,getElem_cons_succ,getElem_cons_zero,setIfInBounds_toArray,set_cons_zero,set_cons_succ]
             refine wpAnyH_done (by kernel_rfl) ?_ _
             go_wp2
             go_roundw
             case rel=>exact⟨j+1,T',G++ [⟨⟨ac,asq,⟨ak,an,ad,al⟩⟩,hha,hcp⟩],va,vc,by omega,by first | rfl | go_num,by have:=HGJ.out;simp;omega,HX,HG,by simpa only[List.length_append,List.length_singleton] using HB,by simpa only[List.length_append,List.length_singleton] using HO,hid (by rw[HF.out,valsM_push]),HS,HK,HN,hid (all_push HD.out HDX.out)⟩
             case measure=>simp [intOf]<;>omega
        ·skip
         go_simp
         go_at_call 184
         refine(SnapGetMemo w0 g v bs T V HX.out).mono ?_
         rintro e V' hh
         obtain⟨u,rfl,hR,hx,hg⟩:=hh.good HQ.out
         obtain⟨⟨⟨ac,asq,⟨ak,an,ad,al⟩⟩,hha,hcp⟩,hX,rfl,hxo⟩:=hR
         subst hX
         unfold memVal MemC.hv
         dsimp only
         have HX:=hid hx
         have HB:=hid (show BxAt _ _ _ from hg.at HB.out (by have:=HL.out;omega))
         have HO:=hid (own_gr HO.out HL.out hg)
         have HS:Hid (V'.ownsRow w.heap.size 73 3 (.slice sa S.length sc) S.length (flatX cellsS S)):=hid (own_gr HS.out HL.out hg)
         have HK:Hid (V'.ownsRow w.heap.size 71 4 (.slice ka KL.length kc) KL.length (flatX cellsK KL)):=hid (own_gr HK.out HL.out hg)
         have HN:Hid (∀x∈KL,V'.ownsRow (g+1) 3 1 x.lv x.line.length (flatX cellsI x.line)):=hid (fun x hx=>own_gr (HN.out x hx) (Nat.lt_succ_self _) hg)
         have HD:Hid (∀x∈G,V'.ownsRow (g+1) 141 2 x.hv x.m.rep.held.length (flatX cellsG x.m.rep.held)):=hid (fun x hx=>own_gr (HD.out x hx) (Nat.lt_succ_self _) hg)
         have HG:=hid (HG.out.trans hg)
         have HDX:Hid (V'.ownsRow (g+1) 141 2 ((MemC.hv ⟨⟨ac,asq,⟨ak,an,ad,al⟩⟩,hha,hcp⟩)) al.length (flatX cellsG al)):=hid (hxo)
         clear hh hx hg
         obtain⟨V,rfl⟩: ∃V,V=V':=⟨_,rfl⟩
         refine hK.out _ _ trivial (fun hHeld=>?_)
         clear hK K
         try simp only[Act.put,getElem_toArray,getElem_cons_succ,getElem_cons_zero,setIfInBounds_toArray,set_cons_zero,set_cons_succ]
         refine wpAnyH_ready (rs:= [1,4]) (by kernel_rfl) (by simp) ?_
         refine AllReadyH.cons rfl (fun K hK=>?_) (AllReadyH.cons rfl (fun K hK=>?_) AllReadyH.nil)
         ·skip
          have kl:=cell_atW HB.out 5
          simp only[List.getElem?_toArray,List.getElem?_cons_zero,List.getElem?_cons_succ] at kl
          go_simp
          clear kl
          refine hK.out _ _ trivial (fun hHeld=>?_)
          clear hK K
          try simp only[Act.put,getElem_toArray,getElem_cons_succ,getElem_cons_zero,setIfInBounds_toArray,set_cons_zero,set_cons_succ]
          refine wpAnyH_ready (rs:= [4]) (by kernel_rfl) (by simp) ?_
          refine AllReadyH.cons rfl (fun K hK=>?_) AllReadyH.nil
          ·skip
           go_simp
           obtain⟨V',hV'⟩: ∃V',V'=V.alloc (.cells #[.int .i64 ac,.int .i64 asq,.int .i64 ak,.int .i64 an,.int .i64 ad,.slice hha al.length hcp] 76):=⟨_,rfl⟩
           have hb:Below V.heap.size V V':=(by rw[hV'];exact newAlloc _ _)
           have HZ:Hid (BxAt V' V.heap.size (.cells #[.int .i64 ac,.int .i64 asq,.int .i64 ak,.int .i64 an,.int .i64 ad,.slice hha al.length hcp] 76)):=hid (by rw[hV'];exact BxAt.new _ _)
           rw[<-hV']
           have HX:=hid (HX.out.later hb)
           have HG:=hid (HG.out.below hb)
           have HB:=hid (HB.out.later hb)
           have HO:=hid (Rw.own_below HO.out hb)
           have HS:Hid (V'.ownsRow w.heap.size 73 3 (.slice sa S.length sc) S.length (flatX cellsS S)):=hid (Rw.own_below HS.out hb)
           have HK:Hid (V'.ownsRow w.heap.size 71 4 (.slice ka KL.length kc) KL.length (flatX cellsK KL)):=hid (Rw.own_below HK.out hb)
           have HN:Hid (∀x∈KL,V'.ownsRow (g+1) 3 1 x.lv x.line.length (flatX cellsI x.line)):=hid (fun x hx=>Rw.own_below (HN.out x hx) hb)
           have HD:Hid (∀x∈G,V'.ownsRow (g+1) 141 2 x.hv x.m.rep.held.length (flatX cellsG x.m.rep.held)):=hid (fun x hx=>Rw.own_below (HD.out x hx) hb)
           have HDX:Hid (V'.ownsRow (g+1) 141 2 ((MemC.hv ⟨⟨ac,asq,⟨ak,an,ad,al⟩⟩,hha,hcp⟩)) al.length (flatX cellsG al)):=hid (Rw.own_below HDX.out hb)
           clear hV' hb
           generalize V.heap.size=n5 at HZ ⊢
           obtain⟨V,rfl⟩: ∃V,V=V':=⟨_,rfl⟩
           refine hK.out _ _ trivial (fun hHeld=>?_)
           clear hK K
           try simp only[Act.put,getElem_toArray,getElem_cons_succ,getElem_cons_zero,setIfInBounds_toArray,set_cons_zero,set_cons_succ]
           refine wpAnyH_ready (rs:= [5]) (by kernel_rfl) (by simp) ?_
           refine AllReadyH.cons rfl (fun K hK=>?_) AllReadyH.nil
           ·skip
            refine step_append_own (by rfl) _ _ _ (by rfl) w.heap.size 76 m0 _ 6 64 Tryz.underlying24 mi mz0 mz1 mz2 rfl (by omega) (.slice ua G.length uc) G.length _ (by rfl) HO.out ⟨n5,0,none⟩ 1 1 (cellsM (⟨⟨ac,asq,⟨ak,an,ad,al⟩⟩,hha,hcp⟩:MemC)) (by rfl) rfl (World.news_of_block (cs:=#[.int .i64 ac,.int .i64 asq,.int .i64 ak,.int .i64 an,.int .i64 ad,.slice hha al.length hcp]) (t:=76) (fr:=(0,0)) HZ.out) (cellsM_one _) (by unfold maxLen;have:=HGL.out;omega) (by have:=HGL.out;omega) HG.out.size ?_
            intro v' V' hown hgrow _
            have HX:=hid (HX.out.grown HO.out HL.out hgrow)
            have HG:=hid (HG.out.grown HO.out (Nat.le_refl _) hgrow)
            have HB:=hid (HB.out.grown HO.out (by decide) hgrow)
            have HS:Hid (V'.ownsRow w.heap.size 73 3 (.slice sa S.length sc) S.length (flatX cellsS S)):=hid (Rw.own_other HS.out hgrow (own_types HO.out HS.out (by decide)))
            have HK:Hid (V'.ownsRow w.heap.size 71 4 (.slice ka KL.length kc) KL.length (flatX cellsK KL)):=hid (Rw.own_other HK.out hgrow (own_types HO.out HK.out (by decide)))
            have HN:Hid (∀x∈KL,V'.ownsRow (g+1) 3 1 x.lv x.line.length (flatX cellsI x.line)):=hid (fun x hx=>Rw.own_other (HN.out x hx) hgrow (own_types HO.out (HN.out x hx) (by decide)))
            have HD:Hid (∀x∈G,V'.ownsRow (g+1) 141 2 x.hv x.m.rep.held.length (flatX cellsG x.m.rep.held)):=hid (fun x hx=>Rw.own_other (HD.out x hx) hgrow (own_types HO.out (HD.out x hx) (by decide)))
            have HDX:Hid (V'.ownsRow (g+1) 141 2 ((MemC.hv ⟨⟨ac,asq,⟨ak,an,ad,al⟩⟩,hha,hcp⟩)) al.length (flatX cellsG al)):=hid (Rw.own_other HDX.out hgrow (own_types HO.out HDX.out (by decide)))
            have HO:=hid hown
            obtain⟨va,vc,rfl⟩:=Rw.own_form hown
            clear hown hgrow HZ
            obtain⟨V,rfl⟩: ∃V,V=V':=⟨_,rfl⟩
            refine hK.out _ _ trivial (fun hHeld=>?_)
            clear hK K
            try simp only[Act.put,getElem_toArray,getElem_cons_succ,getElem_cons_zero,setIfInBounds_toArray,set_cons_zero,set_cons_succ]
            refine wpAnyH_take (i:=6) (v:=?_) rfl (by kernel_rfl) (by kernel_rfl) (by kernel_rfl) (fun _ _ _ h=>h) (Or.inl ⟨by rfl,?_⟩) (by assumption) ?_
            rotate_left
            ·intro w hSw;(try dsimp only at hSw);go_simp<;>with_reducible rfl
            try simp only[Act.put,getElem_toArray,getElem_cons_succ,getElem_cons_zero,setIfInBounds_toArray,set_cons_zero,set_cons_succ]
            refine wpAnyH_ready (rs:= [7]) (by kernel_rfl) (by simp) ?_
            refine AllReadyH.cons rfl (fun K hK=>?_) AllReadyH.nil
            ·skip
             have kl:=cell_atW HB.out 5
             simp only[List.getElem?_toArray,List.getElem?_cons_zero,List.getElem?_cons_succ] at kl
             have kf:=frozen_atW HB.out
             go_simp
             have HO:Hid ((V.setCell ⟨w.heap.size,5,none⟩ (.slice va (G.length+1) vc)).ownsRow w.heap.size 76 6 (.slice va (G.length+1) vc) (G++ [(⟨⟨ac,asq,⟨ak,an,ad,al⟩⟩,hha,hcp⟩:MemC)]).length (flatX cellsM (G++ [(⟨⟨ac,asq,⟨ak,an,ad,al⟩⟩,hha,hcp⟩:MemC)]))):=hid (by have q:=own_store HO.out HB.out (by decide) 5 (.slice va (G.length+1) vc);rw[List.length_append,flatX_snoc];exact q)
             have HS:Hid ((V.setCell ⟨w.heap.size,5,none⟩ (.slice va (G.length+1) vc)).ownsRow w.heap.size 73 3 (.slice sa S.length sc) S.length (flatX cellsS S)):=hid (own_store HS.out HB.out (by decide) 5 (.slice va (G.length+1) vc))
             have HK:Hid ((V.setCell ⟨w.heap.size,5,none⟩ (.slice va (G.length+1) vc)).ownsRow w.heap.size 71 4 (.slice ka KL.length kc) KL.length (flatX cellsK KL)):=hid (own_store HK.out HB.out (by decide) 5 (.slice va (G.length+1) vc))
             have HN:Hid (∀x∈KL,(V.setCell ⟨w.heap.size,5,none⟩ (.slice va (G.length+1) vc)).ownsRow (g+1) 3 1 x.lv x.line.length (flatX cellsI x.line)):=hid (fun x hx=>own_store (HN.out x hx) HB.out (by decide) 5 (.slice va (G.length+1) vc))
             have HD:Hid (∀x∈G,(V.setCell ⟨w.heap.size,5,none⟩ (.slice va (G.length+1) vc)).ownsRow (g+1) 141 2 x.hv x.m.rep.held.length (flatX cellsG x.m.rep.held)):=hid (fun x hx=>own_store (HD.out x hx) HB.out (by decide) 5 (.slice va (G.length+1) vc))
             have HDX:Hid ((V.setCell ⟨w.heap.size,5,none⟩ (.slice va (G.length+1) vc)).ownsRow (g+1) 141 2 ((MemC.hv ⟨⟨ac,asq,⟨ak,an,ad,al⟩⟩,hha,hcp⟩)) al.length (flatX cellsG al)):=hid (own_store HDX.out HB.out (by decide) 5 (.slice va (G.length+1) vc))
             have HX:=hid (HX.out.set HL.out 5 (.slice va (G.length+1) vc))
             have HG:=hid (HG.out.set (Nat.le_refl _) 5 (.slice va (G.length+1) vc))
             have HB:Hid (BxAt (V.setCell ⟨w.heap.size,5,none⟩ (.slice va (G.length+1) vc)) w.heap.size (.cells #[.int .i64 ti,.int .i64 nu,.int .i64 tk,.slice sa S.length sc,.slice ka KL.length kc,.slice va (G.length+1) vc] 26)):=hid (HB.out.set 5 (.slice va (G.length+1) vc))
             clear kl kf
             refine hK.out _ _ trivial (fun hHeld=>?_)
             clear hK K
             try simp only[Act.put,getElem_toArray,getElem_cons_succ,getElem_cons_zero,setIfInBounds_toArray,set_cons_zero,set_cons_succ]
             refine wpAnyH_done (by kernel_rfl) ?_ _
             go_wp2
             go_roundw
             case rel=>exact⟨j+1,T',G++ [⟨⟨ac,asq,⟨ak,an,ad,al⟩⟩,hha,hcp⟩],va,vc,by omega,by first | rfl | go_num,by have:=HGJ.out;simp;omega,HX,HG,by simpa only[List.length_append,List.length_singleton] using HB,by simpa only[List.length_append,List.length_singleton] using HO,hid (by rw[HF.out,valsM_push]),HS,HK,HN,hid (all_push HD.out HDX.out)⟩
             case measure=>simp [intOf]<;>omega
         ·skip
          go_simp
          obtain⟨V',hV'⟩: ∃V',V'=V.alloc (.cells #[.int .i64 ac,.int .i64 asq,.int .i64 ak,.int .i64 an,.int .i64 ad,.slice hha al.length hcp] 76):=⟨_,rfl⟩
          have hb:Below V.heap.size V V':=(by rw[hV'];exact newAlloc _ _)
          have HZ:Hid (BxAt V' V.heap.size (.cells #[.int .i64 ac,.int .i64 asq,.int .i64 ak,.int .i64 an,.int .i64 ad,.slice hha al.length hcp] 76)):=hid (by rw[hV'];exact BxAt.new _ _)
          rw[<-hV']
          have HX:=hid (HX.out.later hb)
          have HG:=hid (HG.out.below hb)
          have HB:=hid (HB.out.later hb)
          have HO:=hid (Rw.own_below HO.out hb)
          have HS:Hid (V'.ownsRow w.heap.size 73 3 (.slice sa S.length sc) S.length (flatX cellsS S)):=hid (Rw.own_below HS.out hb)
          have HK:Hid (V'.ownsRow w.heap.size 71 4 (.slice ka KL.length kc) KL.length (flatX cellsK KL)):=hid (Rw.own_below HK.out hb)
          have HN:Hid (∀x∈KL,V'.ownsRow (g+1) 3 1 x.lv x.line.length (flatX cellsI x.line)):=hid (fun x hx=>Rw.own_below (HN.out x hx) hb)
          have HD:Hid (∀x∈G,V'.ownsRow (g+1) 141 2 x.hv x.m.rep.held.length (flatX cellsG x.m.rep.held)):=hid (fun x hx=>Rw.own_below (HD.out x hx) hb)
          have HDX:Hid (V'.ownsRow (g+1) 141 2 ((MemC.hv ⟨⟨ac,asq,⟨ak,an,ad,al⟩⟩,hha,hcp⟩)) al.length (flatX cellsG al)):=hid (Rw.own_below HDX.out hb)
          clear hV' hb
          generalize V.heap.size=n5 at HZ ⊢
          obtain⟨V,rfl⟩: ∃V,V=V':=⟨_,rfl⟩
          refine hK.out _ _ trivial (fun hHeld=>?_)
          clear hK K
          try simp only[Act.put,getElem_toArray,getElem_cons_succ,getElem_cons_zero,setIfInBounds_toArray,set_cons_zero,set_cons_succ]
          refine wpAnyH_ready (rs:= [1]) (by kernel_rfl) (by simp) ?_
          refine AllReadyH.cons rfl (fun K hK=>?_) AllReadyH.nil
          ·skip
           have kl:=cell_atW HB.out 5
           simp only[List.getElem?_toArray,List.getElem?_cons_zero,List.getElem?_cons_succ] at kl
           go_simp
           clear kl
           refine hK.out _ _ trivial (fun hHeld=>?_)
           clear hK K
           try simp only[Act.put,getElem_toArray,getElem_cons_succ,getElem_cons_zero,setIfInBounds_toArray,set_cons_zero,set_cons_succ]
           refine wpAnyH_ready (rs:= [5]) (by kernel_rfl) (by simp) ?_
           refine AllReadyH.cons rfl (fun K hK=>?_) AllReadyH.nil
           ·skip
            refine step_append_own (by rfl) _ _ _ (by rfl) w.heap.size 76 m0 _ 6 64 Tryz.underlying24 mi mz0 mz1 mz2 rfl (by omega) (.slice ua G.length uc) G.length _ (by rfl) HO.out ⟨n5,0,none⟩ 1 1 (cellsM (⟨⟨ac,asq,⟨ak,an,ad,al⟩⟩,hha,hcp⟩:MemC)) (by rfl) rfl (World.news_of_block (cs:=#[.int .i64 ac,.int .i64 asq,.int .i64 ak,.int .i64 an,.int .i64 ad,.slice hha al.length hcp]) (t:=76) (fr:=(0,0)) HZ.out) (cellsM_one _) (by unfold maxLen;have:=HGL.out;omega) (by have:=HGL.out;omega) HG.out.size ?_
            intro v' V' hown hgrow _
            have HX:=hid (HX.out.grown HO.out HL.out hgrow)
            have HG:=hid (HG.out.grown HO.out (Nat.le_refl _) hgrow)
            have HB:=hid (HB.out.grown HO.out (by decide) hgrow)
            have HS:Hid (V'.ownsRow w.heap.size 73 3 (.slice sa S.length sc) S.length (flatX cellsS S)):=hid (Rw.own_other HS.out hgrow (own_types HO.out HS.out (by decide)))
            have HK:Hid (V'.ownsRow w.heap.size 71 4 (.slice ka KL.length kc) KL.length (flatX cellsK KL)):=hid (Rw.own_other HK.out hgrow (own_types HO.out HK.out (by decide)))
            have HN:Hid (∀x∈KL,V'.ownsRow (g+1) 3 1 x.lv x.line.length (flatX cellsI x.line)):=hid (fun x hx=>Rw.own_other (HN.out x hx) hgrow (own_types HO.out (HN.out x hx) (by decide)))
            have HD:Hid (∀x∈G,V'.ownsRow (g+1) 141 2 x.hv x.m.rep.held.length (flatX cellsG x.m.rep.held)):=hid (fun x hx=>Rw.own_other (HD.out x hx) hgrow (own_types HO.out (HD.out x hx) (by decide)))
            have HDX:Hid (V'.ownsRow (g+1) 141 2 ((MemC.hv ⟨⟨ac,asq,⟨ak,an,ad,al⟩⟩,hha,hcp⟩)) al.length (flatX cellsG al)):=hid (Rw.own_other HDX.out hgrow (own_types HO.out HDX.out (by decide)))
            have HO:=hid hown
            obtain⟨va,vc,rfl⟩:=Rw.own_form hown
            clear hown hgrow HZ
            obtain⟨V,rfl⟩: ∃V,V=V':=⟨_,rfl⟩
            refine hK.out _ _ trivial (fun hHeld=>?_)
            clear hK K
            try simp only[Act.put,getElem_toArray,getElem_cons_succ,getElem_cons_zero,setIfInBounds_toArray,set_cons_zero,set_cons_succ]
            refine wpAnyH_take (i:=6) (v:=?_) rfl (by kernel_rfl) (by kernel_rfl) (by kernel_rfl) (fun _ _ _ h=>h) (Or.inl ⟨by rfl,?_⟩) (by assumption) ?_
            rotate_left
            ·intro w hSw;(try dsimp only at hSw);go_simp<;>with_reducible rfl
            try simp only[Act.put,getElem_toArray,getElem_cons_succ,getElem_cons_zero,setIfInBounds_toArray,set_cons_zero,set_cons_succ]
            refine wpAnyH_ready (rs:= [7]) (by kernel_rfl) (by simp) ?_
            refine AllReadyH.cons rfl (fun K hK=>?_) AllReadyH.nil
            ·skip
             have kl:=cell_atW HB.out 5
             simp only[List.getElem?_toArray,List.getElem?_cons_zero,List.getElem?_cons_succ] at kl
             have kf:=frozen_atW HB.out
             go_simp
             have HO:Hid ((V.setCell ⟨w.heap.size,5,none⟩ (.slice va (G.length+1) vc)).ownsRow w.heap.size 76 6 (.slice va (G.length+1) vc) (G++ [(⟨⟨ac,asq,⟨ak,an,ad,al⟩⟩,hha,hcp⟩:MemC)]).length (flatX cellsM (G++ [(⟨⟨ac,asq,⟨ak,an,ad,al⟩⟩,hha,hcp⟩:MemC)]))):=hid (by have q:=own_store HO.out HB.out (by decide) 5 (.slice va (G.length+1) vc);rw[List.length_append,flatX_snoc];exact q)
             have HS:Hid ((V.setCell ⟨w.heap.size,5,none⟩ (.slice va (G.length+1) vc)).ownsRow w.heap.size 73 3 (.slice sa S.length sc) S.length (flatX cellsS S)):=hid (own_store HS.out HB.out (by decide) 5 (.slice va (G.length+1) vc))
             have HK:Hid ((V.setCell ⟨w.heap.size,5,none⟩ (.slice va (G.length+1) vc)).ownsRow w.heap.size 71 4 (.slice ka KL.length kc) KL.length (flatX cellsK KL)):=hid (own_store HK.out HB.out (by decide) 5 (.slice va (G.length+1) vc))
             have HN:Hid (∀x∈KL,(V.setCell ⟨w.heap.size,5,none⟩ (.slice va (G.length+1) vc)).ownsRow (g+1) 3 1 x.lv x.line.length (flatX cellsI x.line)):=hid (fun x hx=>own_store (HN.out x hx) HB.out (by decide) 5 (.slice va (G.length+1) vc))
             have HD:Hid (∀x∈G,(V.setCell ⟨w.heap.size,5,none⟩ (.slice va (G.length+1) vc)).ownsRow (g+1) 141 2 x.hv x.m.rep.held.length (flatX cellsG x.m.rep.held)):=hid (fun x hx=>own_store (HD.out x hx) HB.out (by decide) 5 (.slice va (G.length+1) vc))
             have HDX:Hid ((V.setCell ⟨w.heap.size,5,none⟩ (.slice va (G.length+1) vc)).ownsRow (g+1) 141 2 ((MemC.hv ⟨⟨ac,asq,⟨ak,an,ad,al⟩⟩,hha,hcp⟩)) al.length (flatX cellsG al)):=hid (own_store HDX.out HB.out (by decide) 5 (.slice va (G.length+1) vc))
             have HX:=hid (HX.out.set HL.out 5 (.slice va (G.length+1) vc))
             have HG:=hid (HG.out.set (Nat.le_refl _) 5 (.slice va (G.length+1) vc))
             have HB:Hid (BxAt (V.setCell ⟨w.heap.size,5,none⟩ (.slice va (G.length+1) vc)) w.heap.size (.cells #[.int .i64 ti,.int .i64 nu,.int .i64 tk,.slice sa S.length sc,.slice ka KL.length kc,.slice va (G.length+1) vc] 26)):=hid (HB.out.set 5 (.slice va (G.length+1) vc))
             clear kl kf
             refine hK.out _ _ trivial (fun hHeld=>?_)
             clear hK K
             try simp only[Act.put,getElem_toArray,getElem_cons_succ,getElem_cons_zero,setIfInBounds_toArray,set_cons_zero,set_cons_succ]
             refine wpAnyH_done (by kernel_rfl) ?_ _
             go_wp2
             go_roundw
             case rel=>exact⟨j+1,T',G++ [⟨⟨ac,asq,⟨ak,an,ad,al⟩⟩,hha,hcp⟩],va,vc,by omega,by first | rfl | go_num,by have:=HGJ.out;simp;omega,HX,HG,by simpa only[List.length_append,List.length_singleton] using HB,by simpa only[List.length_append,List.length_singleton] using HO,hid (by rw[HF.out,valsM_push]),HS,HK,HN,hid (all_push HD.out HDX.out)⟩
             case measure=>simp [intOf]<;>omega
      ·obtain rfl:j=A3:=by omega
       rw[Nat.sub_self] at HF
       have HR:=hid (HR.out.trans (thenR_ok (x:=(valsM G)) (t':=T) (HF.out.trans rfl)))
       clear HF
       have HE:=hid HR.out
       have hA:=HB.out
       have k0:=cell_atW hA 0
       have k1:=cell_atW hA 1
       have k2:=cell_atW hA 2
       have k3:=cell_atW hA 3
       have k4:=cell_atW hA 4
       have k5:=cell_atW hA 5
       have kf:=frozen_atW hA
       simp only[List.getElem?_toArray,List.getElem?_cons_zero,List.getElem?_cons_succ] at k0 k1 k2 k3 k4 k5
       clear hA hGl
       go_wp2
       have keep: ∀ {b n sz:Nat} {e:TypeId} {lv:Value} {xs:List Value},wr.ownsRow b e sz lv n xs->e≠26->(put6s wr w.heap.size (.int .i64 ti) (.int .i64 nu) (.int .i64 tk) (.slice sa S.length sc) (.slice ka KL.length kc) (.slice ua G.length uc)).ownsRow b e sz lv n xs:=
        fun ho hne=>Rw.own_keep ho fun k hk=>put6s_other _ _ _ _ _ _ _ _ _ (own_ne_tag ho HB.out hne hk)
       refine bodyPost_ret (by simp [results,Tryz.results138,go_sem,k0,k1,k2,k3,k4,k5]<;>rfl) rfl (GetsRl.ok HE.out rfl ⟨⟨ti,nu,tk,S,sa,sc,KL,ka,kc,G,ua,uc⟩,rfl,rfl,⟨own_lowerX (keep HS.out (by decide)) HL.out,own_lowerX (keep HK.out (by decide)) HL.out,fun x hx=>keep (HN.out x hx) (by decide),own_lowerX (keep HO.out (by decide)) HL.out,fun x hx=>keep (HD.out x hx) (by decide)⟩⟩ ?_ ?_)
       ·exact(((((HX.out.set HL.out _ _).set HL.out _ _).set HL.out _ _).set HL.out _ _).set HL.out _ _).set HL.out _ _
       ·exact(((((HG.out.set (Nat.le_refl _) _ _).set (Nat.le_refl _) _ _).set (Nat.le_refl _) _ _).set (Nat.le_refl _) _ _).set (Nat.le_refl _) _ _).set (Nat.le_refl _) _ _
end Cm
end Go.Proofs.YtlnbmblbeaodcaaGreat
