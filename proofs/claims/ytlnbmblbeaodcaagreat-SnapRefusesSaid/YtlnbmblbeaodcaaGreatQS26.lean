/- Texts laid together by program. -/
import Derived.Test.YtlnbmblbeaodcaaGreatQS25
/- The developers' reader of package snap: a lock. -/
set_option linter.unusedVariables false
set_option maxRecDepth 8000
set_option linter.unusedSimpArgs false
namespace Go.Proofs.YtlnbmblbeaodcaaGreat
open Lib (hid)
open List (getElem_toArray getElem_cons_succ getElem_cons_zero setIfInBounds_toArray set_cons_zero set_cons_succ)
open Go.RowKit
open Go.Sort (grow)
namespace Cm
variable {α β : Type}

section
variable {w0 a w w' : World} {g b base n sz : Nat} {e t : TypeId} {v lv : Value} {bs : List UInt8} {T : Int} {xs : List Value} {cs : Array Value}
theorem RX.grown (h:RX w0 g v bs T w) (ho:w.ownsRow base e sz lv n xs) (hb:g<base) (hg:w.grownBy w' lv.ownBlock):RX w0 g v bs T w':=
 ⟨h.rd,h.ge,h.below.grown hg h.below.size (fun k hk=>by have:=(Rw.own_lt ho k hk).1;have:=h.ge;omega),(hg.block g h.lt (fun q=>by have:=(Rw.own_lt ho g q.symm).1;omega)).trans h.box,h.top⟩
theorem Gr.grown (h:Gr g a w) (ho:w.ownsRow base e sz lv n xs) (hb:a.heap.size<=base) (hg:w.grownBy w' lv.ownBlock):Gr g a w':=
 ⟨hg.os.trans h.os,hg.tape.trans h.tape,hg.output.trans h.output,Nat.le_trans h.size hg.size,fun k hk hne=>
  (hg.block k (Nat.lt_of_lt_of_le hk h.size) (fun q=>by have:=(Rw.own_lt ho k q.symm).1;omega)).trans (World.grownBy.block h k hk hne)⟩
theorem BxAt.grown (h:BxAt w b (.cells cs t)) (ho:w.ownsRow base e sz lv n xs) (hne:e≠t) (hg:w.grownBy w' lv.ownBlock):BxAt w' b (.cells cs t):=
 (hg.block b (get_ltW h) (fun q=>own_ne_tag ho h hne q.symm rfl)).trans h
theorem own_gr (ho:w.ownsRow base e sz lv n xs) (hb:g<base) (hg:Gr g w w'):w'.ownsRow base e sz lv n xs:=
 Rw.own_keep ho fun k hk=>hg.block k (Rw.own_lt ho k hk).2 (by have:=(Rw.own_lt ho k hk).1;omega)
theorem own_store (ho:w.ownsRow base e sz lv n xs) (hB:BxAt w b (.cells cs t)) (hne:e≠t) (i:Nat) (u:Value):(w.setCell ⟨b,i,none⟩ u).ownsRow base e sz lv n xs:=
 Rw.own_keep ho fun k hk=>Below.heap_setCell _ _ _ _ (own_ne_tag ho hB hne hk)
end

theorem byteOf_nn (bs:List UInt8) (t:Int):0<=(byteOf bs t).1:=by
 unfold byteOf
 split
 ·exact Int.le_refl _
 ·exact Int.natCast_nonneg _
theorem count_ok {m:Int} {bs:List UInt8} {t n t':Int} (h:countR m bs t= .ok (n,t')):0<=n/\n<=m:=by
 unfold countR thenR byteR toldR at h
 split at h
 ·cases h
 ·rename_i r hr
  dsimp only at h
  split at h
  ·cases h
  ·rename_i hm
   unfold pureR at h
   injection h with h
   have h1:r.1=n:=congrArg Prod.fst h
   refine⟨?_,by omega⟩
   split at hr
   ·injection hr with hr
    have:=byteOf_nn bs t
    rw[<-h1,<-hr]
    exact this
   ·cases hr
theorem rowR_bad {f:Rdr α} {G:List α} {m:Nat} {bs:List UInt8} {t c:Int} (h:f bs t= .error c):rowR f G (m+1) bs t= .error c:=thenR_err h
theorem rowR_good {f:Rdr α} {G:List α} {m:Nat} {bs:List UInt8} {t t':Int} {x:α} (h:f bs t= .ok (x,t')):rowR f G (m+1) bs t=rowR f (G++ [x]) m bs t':=thenR_ok h
def LockO (g:Nat) (k:LockV) (u:Value) (w:World):Prop:= ∃x:LockC,x.val=k/\u=lockVal x/\w.ownsRow (g+1) 3 1 x.lv x.line.length (flatX cellsI x.line)
set_option maxRecDepth 100000 in
set_option maxHeartbeats 4000000 in
theorem SnapGetLock (w0:World) (g:Nat) (v:Value) (bs:List UInt8) (t:Int) (w:World) (h:RX w0 g v bs t w):
  Calls Tryz.prog 183 #[.pointer (some ⟨g,0,none⟩)] w (GetsRl (LockO g) (lockR bs t) w0 g v bs w):=by
 have hlt:=h.lt
 have HX:Hid (RX w0 g v bs t (w.alloc (.cells #[.string ⟨#[]⟩,.int .i64 0,.int .i64 0,.slice none 0 0] 71))):=hid (h.later (newAlloc _ _))
 have HG:Hid (Gr g w (w.alloc (.cells #[.string ⟨#[]⟩,.int .i64 0,.int .i64 0,.slice none 0 0] 71))):=hid (Gr.new (newAlloc _ _))
 have HB:Hid (BxAt (w.alloc (.cells #[.string ⟨#[]⟩,.int .i64 0,.int .i64 0,.slice none 0 0] 71)) w.heap.size (.cells #[.string ⟨#[]⟩,.int .i64 0,.int .i64 0,.slice none 0 0] 71)):=hid (BxAt.new _ _)
 have HL:Hid (g<w.heap.size):=hid hlt
 obtain⟨i0,hi,hz0,hz1,hz2⟩:=info_parts infoN
 have HR:Hid (lockR bs t=thenR (textR 12) (fun n=>thenR byteR fun h=>thenR numR fun t=>thenR (countR 3) fun m=>thenR (rowR byteR [] m.toNat) fun l=>pureR ⟨n,h,t,l⟩) bs t):=hid rfl
 clear h hlt
 go_enter Tryz.func183,Tryz.ntmps183
 go_upto_region 1 with fail
 generalize hW:w.alloc _=W at HX HG HB ⊢
 clear hW
 have C:=hid (SnapGetName w0 g v bs t W HX.out)
 cases hq:textR 12 bs t with
 | error c=>
  have HQ:=hid hq
  clear hq
  go_wp2_with fail
  refine C.out.mono ?_
  rintro e w2 hh
  obtain⟨hf,hb⟩:=hh.bad HQ.out
  rw[hf]
  exact⟨rfl,GetsRl.fails (HR.out.trans (thenR_err HQ.out)) rfl hb⟩
 | ok p=>
 obtain⟨xn,t1⟩:=p
 have HR:=hid (HR.out.trans (thenR_ok hq))
 have HQ:=hid hq
 clear hq
 go_wp2_with fail
 refine C.out.mono ?_
 rintro e w2 hh
 obtain⟨rfl,hx,hg⟩:=hh.good HQ.out
 have HX:=hid hx
 have hA:BxAt w2 w.heap.size (.cells #[.string ⟨#[]⟩,.int .i64 0,.int .i64 0,.slice none 0 0] 71):=hg.at HB.out (by have:=HL.out;omega)
 have HG:=hid (HG.out.trans hg)
 clear hh hx hg C HQ HB
 unfold strV
 have k0:=cell_atW hA 0
 have k1:=cell_atW hA 1
 have k2:=cell_atW hA 2
 have k3:=cell_atW hA 3
 have kf:=frozen_atW hA
 simp only[List.getElem?_toArray,List.getElem?_cons_zero,List.getElem?_cons_succ] at k0 k1 k2 k3
 go_upto_region 2 with fail
 have HX:=hid (HX.out.set HL.out 0 (.string (bstr xn)))
 have HG:=hid (HG.out.set (Nat.le_refl _) 0 (.string (bstr xn)))
 have HB:Hid (BxAt (w2.setCell ⟨w.heap.size,0,none⟩ (.string (bstr xn))) w.heap.size (.cells #[.string (bstr xn),.int .i64 0,.int .i64 0,.slice none 0 0] 71)):=hid (hA.set 0 (.string (bstr xn)))
 generalize hW:w2.setCell _ _=W at HX HG HB ⊢
 clear hW hA kf k0 k1 k2 k3
 have C:=hid (SnapGetByte w0 g v bs t1 W HX.out)
 cases hq:byteR bs t1 with
 | error c=>
  have HQ:=hid hq
  clear hq
  go_wp2_with fail
  refine C.out.mono ?_
  rintro e w2 hh
  obtain⟨hf,hb⟩:=hh.bad HQ.out
  rw[hf]
  exact⟨rfl,GetsRl.fails (HR.out.trans (thenR_err HQ.out)) rfl hb⟩
 | ok p=>
 obtain⟨xh,t2⟩:=p
 have HR:=hid (HR.out.trans (thenR_ok hq))
 have HQ:=hid hq
 clear hq
 go_wp2_with fail
 refine C.out.mono ?_
 rintro e w2 hh
 obtain⟨rfl,hx,hg⟩:=hh.good HQ.out
 have HX:=hid hx
 have hA:BxAt w2 w.heap.size (.cells #[.string (bstr xn),.int .i64 0,.int .i64 0,.slice none 0 0] 71):=hg.at HB.out (by have:=HL.out;omega)
 have HG:=hid (HG.out.trans hg)
 clear hh hx hg C HQ HB
 unfold intV
 have k0:=cell_atW hA 0
 have k1:=cell_atW hA 1
 have k2:=cell_atW hA 2
 have k3:=cell_atW hA 3
 have kf:=frozen_atW hA
 simp only[List.getElem?_toArray,List.getElem?_cons_zero,List.getElem?_cons_succ] at k0 k1 k2 k3
 go_upto_region 3 with fail
 have HX:=hid (HX.out.set HL.out 1 (.int .i64 xh))
 have HG:=hid (HG.out.set (Nat.le_refl _) 1 (.int .i64 xh))
 have HB:Hid (BxAt (w2.setCell ⟨w.heap.size,1,none⟩ (.int .i64 xh)) w.heap.size (.cells #[.string (bstr xn),.int .i64 xh,.int .i64 0,.slice none 0 0] 71)):=hid (hA.set 1 (.int .i64 xh))
 generalize hW:w2.setCell _ _=W at HX HG HB ⊢
 clear hW hA kf k0 k1 k2 k3
 have C:=hid (SnapGetNum w0 g v bs t2 W HX.out)
 cases hq:numR bs t2 with
 | error c=>
  have HQ:=hid hq
  clear hq
  go_wp2_with fail
  refine C.out.mono ?_
  rintro e w2 hh
  obtain⟨hf,hb⟩:=hh.bad HQ.out
  rw[hf]
  exact⟨rfl,GetsRl.fails (HR.out.trans (thenR_err HQ.out)) rfl hb⟩
 | ok p=>
 obtain⟨xt,t3⟩:=p
 have HR:=hid (HR.out.trans (thenR_ok hq))
 have HQ:=hid hq
 clear hq
 go_wp2_with fail
 refine C.out.mono ?_
 rintro e w2 hh
 obtain⟨rfl,hx,hg⟩:=hh.good HQ.out
 have HX:=hid hx
 have hA:BxAt w2 w.heap.size (.cells #[.string (bstr xn),.int .i64 xh,.int .i64 0,.slice none 0 0] 71):=hg.at HB.out (by have:=HL.out;omega)
 have HG:=hid (HG.out.trans hg)
 clear hh hx hg C HQ HB
 unfold intV
 have k0:=cell_atW hA 0
 have k1:=cell_atW hA 1
 have k2:=cell_atW hA 2
 have k3:=cell_atW hA 3
 have kf:=frozen_atW hA
 simp only[List.getElem?_toArray,List.getElem?_cons_zero,List.getElem?_cons_succ] at k0 k1 k2 k3
 go_upto_region 4 with fail
 have HX:=hid (HX.out.set HL.out 2 (.int .i64 xt))
 have HG:=hid (HG.out.set (Nat.le_refl _) 2 (.int .i64 xt))
 have HB:Hid (BxAt (w2.setCell ⟨w.heap.size,2,none⟩ (.int .i64 xt)) w.heap.size (.cells #[.string (bstr xn),.int .i64 xh,.int .i64 xt,.slice none 0 0] 71)):=hid (hA.set 2 (.int .i64 xt))
 generalize hW:w2.setCell _ _=W at HX HG HB ⊢
 clear hW hA kf k0 k1 k2 k3
 have C:=hid (SnapGetCount 3 w0 g v bs t3 W HX.out)
 cases hq:countR 3 bs t3 with
 | error c=>
  have HQ:=hid hq
  clear hq
  go_wp2_with fail
  refine C.out.mono ?_
  rintro e w2 hh
  obtain⟨hf,hb⟩:=hh.bad HQ.out
  rw[hf]
  exact⟨rfl,GetsRl.fails (HR.out.trans (thenR_err HQ.out)) rfl hb⟩
 | ok p=>
 obtain⟨N,t4⟩:=p
 have HR:=hid (HR.out.trans (thenR_ok hq))
 have hN:=count_ok hq
 have HQ:=hid hq
 clear hq
 go_wp2_with fail
 refine C.out.mono ?_
 rintro e w2 hh
 obtain⟨rfl,hx,hg⟩:=hh.good HQ.out
 have HX:=hid hx
 have hA:BxAt w2 w.heap.size (.cells #[.string (bstr xn),.int .i64 xh,.int .i64 xt,.slice none 0 0] 71):=hg.at HB.out (by have:=HL.out;omega)
 have HG:=hid (HG.out.trans hg)
 clear hh hx hg C HQ HB
 unfold intV
 have HB:=hid hA
 clear hA
 obtain⟨N,rfl⟩:=Int.eq_ofNat_of_zero_le hN.1
 rw[Int.toNat_natCast] at HR
 have hN3:N<=3:=by omega
 clear hN
 go_wp2_with fail
 go_loopw [14] (fun i wr=> ∃(j:Nat) (T:Int) (G:List Int) (ua:Option Addr) (uc:Nat),j<=N/\i= .int .i64 (j:Int)/\G.length=j/\Hid (RX w0 g v bs T wr)/\Hid (Gr g w wr)/\Hid (BxAt wr w.heap.size (.cells #[.string (bstr xn),.int .i64 xh,.int .i64 xt,.slice ua G.length uc] 71))/\
  Hid (wr.ownsRow w.heap.size 3 1 (.slice ua G.length uc) G.length (flatX cellsI G))/\Hid (rowR byteR [] N bs t4=rowR byteR G (N - j) bs T)) (fun i _=>N - (intOf i).toNat)
 case atStart=>exact⟨0,t4,[],none,0,by omega,rfl,rfl,HX,HG,HB,hid (World.ownsRow_nil _ _ _ _),hid rfl⟩
 case round=>
  obtain⟨j,T,G,ua,uc,hj,rfl,hGl,HX,HG,HB,HO,HF⟩:=hrel
  have HGL:Hid (G.length<=3):=hid (by omega)
  have HGJ:=hid hGl
  by_cases hlt:j<N
  ·obtain⟨m,hm⟩: ∃m,N - j=m+1:=⟨N - j - 1,by omega⟩
   have HM:Hid (m=N - (j+1)):=hid (by omega)
   rw[hm] at HF
   clear hm hGl
   cases hq:byteR bs T with
   | error c=>
    have HQ:=hid hq
    have HE:=hid (HR.out.trans (thenR_err (HF.out.trans (rowR_bad hq))))
    clear hq
    go_upto_region 6 with fail
    refine wp_region_held_drew (S:=fun _=>True) (by kernel_rfl) trivial (fun hHeld=>?_)
    obtain⟨V,hV⟩: ∃V,V=wr.drew:=⟨_,rfl⟩
    have hb:Below wr.heap.size wr V:=(by rw[hV];exact(Below.refl _ _).drew)
    rw[<-hV]
    have HX:=hid (HX.out.later hb)
    have HG:=hid (HG.out.below hb)
    have HB:=hid (HB.out.later hb)
    have HO:=hid (Rw.own_below HO.out hb)
    clear hV hb
    refine wpAnyH_take (i:=0) (v:=?_) rfl (by kernel_rfl) (by kernel_rfl) (by kernel_rfl) (fun _ _ _ h=>h) (Or.inl ⟨by rfl,?_⟩) (by assumption) ?_
    rotate_left
    ·intro w hSw;(try dsimp only at hSw);go_simp<;>with_reducible rfl
    try simp only[Act.put,getElem_toArray,getElem_cons_succ,getElem_cons_zero,setIfInBounds_toArray,set_cons_zero,set_cons_succ]
    refine wpAnyH_take (i:=2) (v:=?_) rfl (by kernel_rfl) (by kernel_rfl) (by kernel_rfl) (fun _ _ _ h=>h) (Or.inl ⟨by rfl,?_⟩) (by assumption) ?_
    rotate_left
    ·intro w hSw;(try dsimp only at hSw);go_simp<;>with_reducible rfl
    try simp only[Act.put,getElem_toArray,getElem_cons_succ,getElem_cons_zero,setIfInBounds_toArray,set_cons_zero,set_cons_succ]
    refine wpAnyH_ready (rs:= [1,3]) (by kernel_rfl) (by simp) ?_
    refine AllReadyH.cons rfl (fun K hK=>?_) (AllReadyH.cons rfl (fun K hK=>?_) AllReadyH.nil)
    ·skip
     have kl:=cell_atW HB.out 3
     simp only[List.getElem?_toArray,List.getElem?_cons_zero,List.getElem?_cons_succ] at kl
     go_simp
     clear kl
     refine hK.out _ _ trivial (fun hHeld=>?_)
     clear hK K
     try simp only[Act.put,getElem_toArray,getElem_cons_succ,getElem_cons_zero,setIfInBounds_toArray,set_cons_zero,set_cons_succ]
     refine wpAnyH_ready (rs:= [3]) (by kernel_rfl) (by simp) ?_
     refine AllReadyH.cons rfl (fun K hK=>?_) AllReadyH.nil
     ·skip
      go_simp
      go_at_call 209
      refine(SnapGetByte w0 g v bs T V HX.out).mono ?_
      rintro e V' hh
      obtain⟨hf,hb⟩:=hh.bad HQ.out
      rw[hf]
      exact⟨rfl,GetsRl.fails HE.out rfl hb⟩
    ·skip
     go_simp
     go_at_call 209
     refine(SnapGetByte w0 g v bs T V HX.out).mono ?_
     rintro e V' hh
     obtain⟨hf,hb⟩:=hh.bad HQ.out
     rw[hf]
     exact⟨rfl,GetsRl.fails HE.out rfl hb⟩
   | ok p=>
    obtain⟨x,T'⟩:=p
    have HQ:=hid hq
    have HF:=hid (HF.out.trans (rowR_good hq))
    rw[HM.out] at HF
    clear hq
    go_upto_region 6 with fail
    refine wp_region_held_drew (S:=fun _=>True) (by kernel_rfl) trivial (fun hHeld=>?_)
    obtain⟨V,hV⟩: ∃V,V=wr.drew:=⟨_,rfl⟩
    have hb:Below wr.heap.size wr V:=(by rw[hV];exact(Below.refl _ _).drew)
    rw[<-hV]
    have HX:=hid (HX.out.later hb)
    have HG:=hid (HG.out.below hb)
    have HB:=hid (HB.out.later hb)
    have HO:=hid (Rw.own_below HO.out hb)
    clear hV hb
    refine wpAnyH_take (i:=0) (v:=?_) rfl (by kernel_rfl) (by kernel_rfl) (by kernel_rfl) (fun _ _ _ h=>h) (Or.inl ⟨by rfl,?_⟩) (by assumption) ?_
    rotate_left
    ·intro w hSw;(try dsimp only at hSw);go_simp<;>with_reducible rfl
    try simp only[Act.put,getElem_toArray,getElem_cons_succ,getElem_cons_zero,setIfInBounds_toArray,set_cons_zero,set_cons_succ]
    refine wpAnyH_take (i:=2) (v:=?_) rfl (by kernel_rfl) (by kernel_rfl) (by kernel_rfl) (fun _ _ _ h=>h) (Or.inl ⟨by rfl,?_⟩) (by assumption) ?_
    rotate_left
    ·intro w hSw;(try dsimp only at hSw);go_simp<;>with_reducible rfl
    try simp only[Act.put,getElem_toArray,getElem_cons_succ,getElem_cons_zero,setIfInBounds_toArray,set_cons_zero,set_cons_succ]
    refine wpAnyH_ready (rs:= [1,3]) (by kernel_rfl) (by simp) ?_
    refine AllReadyH.cons rfl (fun K hK=>?_) (AllReadyH.cons rfl (fun K hK=>?_) AllReadyH.nil)
    ·skip
     have kl:=cell_atW HB.out 3
     simp only[List.getElem?_toArray,List.getElem?_cons_zero,List.getElem?_cons_succ] at kl
     go_simp
     clear kl
     refine hK.out _ _ trivial (fun hHeld=>?_)
     clear hK K
     try simp only[Act.put,getElem_toArray,getElem_cons_succ,getElem_cons_zero,setIfInBounds_toArray,set_cons_zero,set_cons_succ]
     refine wpAnyH_ready (rs:= [3]) (by kernel_rfl) (by simp) ?_
     refine AllReadyH.cons rfl (fun K hK=>?_) AllReadyH.nil
     ·skip
      go_simp
      go_at_call 209
      refine(SnapGetByte w0 g v bs T V HX.out).mono ?_
      rintro e V' hh
      obtain⟨rfl,hx,hg⟩:=hh.good HQ.out
      unfold intV
      have HX:=hid hx
      have HB:=hid (show BxAt _ _ _ from hg.at HB.out (by have:=HL.out;omega))
      have HO:=hid (own_gr HO.out HL.out hg)
      have HG:=hid (HG.out.trans hg)
      clear hh hx hg
      obtain⟨V,rfl⟩: ∃V,V=V':=⟨_,rfl⟩
      refine hK.out _ _ trivial (fun hHeld=>?_)
      clear hK K
      try simp only[Act.put,getElem_toArray,getElem_cons_succ,getElem_cons_zero,setIfInBounds_toArray,set_cons_zero,set_cons_succ]
      refine wpAnyH_ready (rs:= [4]) (by kernel_rfl) (by simp) ?_
      refine AllReadyH.cons rfl (fun K hK=>?_) AllReadyH.nil
      ·skip
       go_simp
       obtain⟨V',hV'⟩: ∃V',V'=V.alloc (.cells #[.int .i64 x] 3):=⟨_,rfl⟩
       have hb:Below V.heap.size V V':=(by rw[hV'];exact newAlloc _ _)
       have HZ:Hid (BxAt V' V.heap.size (.cells #[.int .i64 x] 3)):=hid (by rw[hV'];exact BxAt.new _ _)
       rw[<-hV']
       have HX:=hid (HX.out.later hb)
       have HG:=hid (HG.out.below hb)
       have HB:=hid (HB.out.later hb)
       have HO:=hid (Rw.own_below HO.out hb)
       clear hV' hb
       generalize V.heap.size=n5 at HZ ⊢
       obtain⟨V,rfl⟩: ∃V,V=V':=⟨_,rfl⟩
       refine hK.out _ _ trivial (fun hHeld=>?_)
       clear hK K
       try simp only[Act.put,getElem_toArray,getElem_cons_succ,getElem_cons_zero,setIfInBounds_toArray,set_cons_zero,set_cons_succ]
       refine wpAnyH_ready (rs:= [5]) (by kernel_rfl) (by simp) ?_
       refine AllReadyH.cons rfl (fun K hK=>?_) AllReadyH.nil
       ·skip
        refine step_append_own (by rfl) _ _ _ (by rfl) w.heap.size 3 i0 _ 1 8 Tryz.underlying69 hi hz0 hz1 hz2 rfl (by omega) (.slice ua G.length uc) G.length _ (by rfl) HO.out ⟨n5,0,none⟩ 1 1 (cellsI x) (by rfl) rfl (World.news_of_block (cs:=#[.int .i64 x]) (t:=3) (fr:=(0,0)) HZ.out) (fun u hu=>by simp only[cellsI,List.mem_singleton] at hu;subst hu;rfl) (by unfold maxLen;have:=HGL.out;omega) (by have:=HGL.out;omega) HG.out.size ?_
        intro v' V' hown hgrow _
        have HX:=hid (HX.out.grown HO.out HL.out hgrow)
        have HG:=hid (HG.out.grown HO.out (Nat.le_refl _) hgrow)
        have HB:=hid (HB.out.grown HO.out (by decide) hgrow)
        have HO:=hid hown
        obtain⟨va,vc,rfl⟩:=Rw.own_form hown
        clear hown hgrow HZ
        obtain⟨V,rfl⟩: ∃V,V=V':=⟨_,rfl⟩
        refine hK.out _ _ trivial (fun hHeld=>?_)
        clear hK K
        try simp only[Act.put,getElem_toArray,getElem_cons_succ,getElem_cons_zero,setIfInBounds_toArray,set_cons_zero,set_cons_succ]
        refine wpAnyH_take (i:=6) (v:=?_) rfl (by kernel_rfl) (by kernel_rfl) (by kernel_rfl) (fun _ _ _ h=>h) (Or.inl ⟨by rfl,?_⟩) (by assumption) ?_
        rotate_left
        ·intro w hSw;(try dsimp only at hSw);go_simp<;>with_reducible rfl
        try simp only[Act.put,getElem_toArray,getElem_cons_succ,getElem_cons_zero,setIfInBounds_toArray,set_cons_zero,set_cons_succ]
        refine wpAnyH_ready (rs:= [7]) (by kernel_rfl) (by simp) ?_
        refine AllReadyH.cons rfl (fun K hK=>?_) AllReadyH.nil
        ·skip
         have kl:=cell_atW HB.out 3
         simp only[List.getElem?_toArray,List.getElem?_cons_zero,List.getElem?_cons_succ] at kl
         have kf:=frozen_atW HB.out
         go_simp
         have HO:Hid ((V.setCell ⟨w.heap.size,3,none⟩ (.slice va (G.length+1) vc)).ownsRow w.heap.size 3 1 (.slice va (G.length+1) vc) (G++ [x]).length (flatX cellsI (G++ [x]))):=hid (by have q:=own_store HO.out HB.out (by decide) 3 (.slice va (G.length+1) vc);rw[List.length_append,flatX_snoc];exact q)
         have HX:=hid (HX.out.set HL.out 3 (.slice va (G.length+1) vc))
         have HG:=hid (HG.out.set (Nat.le_refl _) 3 (.slice va (G.length+1) vc))
         have HB:Hid (BxAt (V.setCell ⟨w.heap.size,3,none⟩ (.slice va (G.length+1) vc)) w.heap.size (.cells #[.string (bstr xn),.int .i64 xh,.int .i64 xt,.slice va (G.length+1) vc] 71)):=hid (HB.out.set 3 (.slice va (G.length+1) vc))
         clear kl kf
         refine hK.out _ _ trivial (fun hHeld=>?_)
         clear hK K
         try simp only[Act.put,getElem_toArray,getElem_cons_succ,getElem_cons_zero,setIfInBounds_toArray,set_cons_zero,set_cons_succ]
         refine wpAnyH_done (by kernel_rfl) ?_ _
         go_wp2
         go_roundw
         case rel=>exact⟨j+1,T',G++ [x],va,vc,by omega,by first | rfl | go_num,by have:=HGJ.out;simp;omega,HX,HG,by simpa only[List.length_append,List.length_singleton] using HB,by simpa only[List.length_append,List.length_singleton] using HO,HF⟩
         case measure=>simp [intOf]<;>omega
    ·skip
     go_simp
     go_at_call 209
     refine(SnapGetByte w0 g v bs T V HX.out).mono ?_
     rintro e V' hh
     obtain⟨rfl,hx,hg⟩:=hh.good HQ.out
     unfold intV
     have HX:=hid hx
     have HB:=hid (show BxAt _ _ _ from hg.at HB.out (by have:=HL.out;omega))
     have HO:=hid (own_gr HO.out HL.out hg)
     have HG:=hid (HG.out.trans hg)
     clear hh hx hg
     obtain⟨V,rfl⟩: ∃V,V=V':=⟨_,rfl⟩
     refine hK.out _ _ trivial (fun hHeld=>?_)
     clear hK K
     try simp only[Act.put,getElem_toArray,getElem_cons_succ,getElem_cons_zero,setIfInBounds_toArray,set_cons_zero,set_cons_succ]
     refine wpAnyH_ready (rs:= [1,4]) (by kernel_rfl) (by simp) ?_
     refine AllReadyH.cons rfl (fun K hK=>?_) (AllReadyH.cons rfl (fun K hK=>?_) AllReadyH.nil)
     ·skip
      have kl:=cell_atW HB.out 3
      simp only[List.getElem?_toArray,List.getElem?_cons_zero,List.getElem?_cons_succ] at kl
      go_simp
      clear kl
      refine hK.out _ _ trivial (fun hHeld=>?_)
      clear hK K
      try simp only[Act.put,getElem_toArray,getElem_cons_succ,getElem_cons_zero,setIfInBounds_toArray,set_cons_zero,set_cons_succ]
      refine wpAnyH_ready (rs:= [4]) (by kernel_rfl) (by simp) ?_
      refine AllReadyH.cons rfl (fun K hK=>?_) AllReadyH.nil
      ·skip
       go_simp
       obtain⟨V',hV'⟩: ∃V',V'=V.alloc (.cells #[.int .i64 x] 3):=⟨_,rfl⟩
       have hb:Below V.heap.size V V':=(by rw[hV'];exact newAlloc _ _)
       have HZ:Hid (BxAt V' V.heap.size (.cells #[.int .i64 x] 3)):=hid (by rw[hV'];exact BxAt.new _ _)
       rw[<-hV']
       have HX:=hid (HX.out.later hb)
       have HG:=hid (HG.out.below hb)
       have HB:=hid (HB.out.later hb)
       have HO:=hid (Rw.own_below HO.out hb)
       clear hV' hb
       generalize V.heap.size=n5 at HZ ⊢
       obtain⟨V,rfl⟩: ∃V,V=V':=⟨_,rfl⟩
       refine hK.out _ _ trivial (fun hHeld=>?_)
       clear hK K
       try simp only[Act.put,getElem_toArray,getElem_cons_succ,getElem_cons_zero,setIfInBounds_toArray,set_cons_zero,set_cons_succ]
       refine wpAnyH_ready (rs:= [5]) (by kernel_rfl) (by simp) ?_
       refine AllReadyH.cons rfl (fun K hK=>?_) AllReadyH.nil
       ·skip
        refine step_append_own (by rfl) _ _ _ (by rfl) w.heap.size 3 i0 _ 1 8 Tryz.underlying69 hi hz0 hz1 hz2 rfl (by omega) (.slice ua G.length uc) G.length _ (by rfl) HO.out ⟨n5,0,none⟩ 1 1 (cellsI x) (by rfl) rfl (World.news_of_block (cs:=#[.int .i64 x]) (t:=3) (fr:=(0,0)) HZ.out) (fun u hu=>by simp only[cellsI,List.mem_singleton] at hu;subst hu;rfl) (by unfold maxLen;have:=HGL.out;omega) (by have:=HGL.out;omega) HG.out.size ?_
        intro v' V' hown hgrow _
        have HX:=hid (HX.out.grown HO.out HL.out hgrow)
        have HG:=hid (HG.out.grown HO.out (Nat.le_refl _) hgrow)
        have HB:=hid (HB.out.grown HO.out (by decide) hgrow)
        have HO:=hid hown
        obtain⟨va,vc,rfl⟩:=Rw.own_form hown
        clear hown hgrow HZ
        obtain⟨V,rfl⟩: ∃V,V=V':=⟨_,rfl⟩
        refine hK.out _ _ trivial (fun hHeld=>?_)
        clear hK K
        try simp only[Act.put,getElem_toArray,getElem_cons_succ,getElem_cons_zero,setIfInBounds_toArray,set_cons_zero,set_cons_succ]
        refine wpAnyH_take (i:=6) (v:=?_) rfl (by kernel_rfl) (by kernel_rfl) (by kernel_rfl) (fun _ _ _ h=>h) (Or.inl ⟨by rfl,?_⟩) (by assumption) ?_
        rotate_left
        ·intro w hSw;(try dsimp only at hSw);go_simp<;>with_reducible rfl
        try simp only[Act.put,getElem_toArray,getElem_cons_succ,getElem_cons_zero,setIfInBounds_toArray,set_cons_zero,set_cons_succ]
        refine wpAnyH_ready (rs:= [7]) (by kernel_rfl) (by simp) ?_
        refine AllReadyH.cons rfl (fun K hK=>?_) AllReadyH.nil
        ·skip
         have kl:=cell_atW HB.out 3
         simp only[List.getElem?_toArray,List.getElem?_cons_zero,List.getElem?_cons_succ] at kl
         have kf:=frozen_atW HB.out
         go_simp
         have HO:Hid ((V.setCell ⟨w.heap.size,3,none⟩ (.slice va (G.length+1) vc)).ownsRow w.heap.size 3 1 (.slice va (G.length+1) vc) (G++ [x]).length (flatX cellsI (G++ [x]))):=hid (by have q:=own_store HO.out HB.out (by decide) 3 (.slice va (G.length+1) vc);rw[List.length_append,flatX_snoc];exact q)
         have HX:=hid (HX.out.set HL.out 3 (.slice va (G.length+1) vc))
         have HG:=hid (HG.out.set (Nat.le_refl _) 3 (.slice va (G.length+1) vc))
         have HB:Hid (BxAt (V.setCell ⟨w.heap.size,3,none⟩ (.slice va (G.length+1) vc)) w.heap.size (.cells #[.string (bstr xn),.int .i64 xh,.int .i64 xt,.slice va (G.length+1) vc] 71)):=hid (HB.out.set 3 (.slice va (G.length+1) vc))
         clear kl kf
         refine hK.out _ _ trivial (fun hHeld=>?_)
         clear hK K
         try simp only[Act.put,getElem_toArray,getElem_cons_succ,getElem_cons_zero,setIfInBounds_toArray,set_cons_zero,set_cons_succ]
         refine wpAnyH_done (by kernel_rfl) ?_ _
         go_wp2
         go_roundw
         case rel=>exact⟨j+1,T',G++ [x],va,vc,by omega,by first | rfl | go_num,by have:=HGJ.out;simp;omega,HX,HG,by simpa only[List.length_append,List.length_singleton] using HB,by simpa only[List.length_append,List.length_singleton] using HO,HF⟩
         case measure=>simp [intOf]<;>omega
     ·skip
      go_simp
      obtain⟨V',hV'⟩: ∃V',V'=V.alloc (.cells #[.int .i64 x] 3):=⟨_,rfl⟩
      have hb:Below V.heap.size V V':=(by rw[hV'];exact newAlloc _ _)
      have HZ:Hid (BxAt V' V.heap.size (.cells #[.int .i64 x] 3)):=hid (by rw[hV'];exact BxAt.new _ _)
      rw[<-hV']
      have HX:=hid (HX.out.later hb)
      have HG:=hid (HG.out.below hb)
      have HB:=hid (HB.out.later hb)
      have HO:=hid (Rw.own_below HO.out hb)
      clear hV' hb
      generalize V.heap.size=n5 at HZ ⊢
      obtain⟨V,rfl⟩: ∃V,V=V':=⟨_,rfl⟩
      refine hK.out _ _ trivial (fun hHeld=>?_)
      clear hK K
      try simp only[Act.put,getElem_toArray,getElem_cons_succ,getElem_cons_zero,setIfInBounds_toArray,set_cons_zero,set_cons_succ]
      refine wpAnyH_ready (rs:= [1]) (by kernel_rfl) (by simp) ?_
      refine AllReadyH.cons rfl (fun K hK=>?_) AllReadyH.nil
      ·skip
       have kl:=cell_atW HB.out 3
       simp only[List.getElem?_toArray,List.getElem?_cons_zero,List.getElem?_cons_succ] at kl
       go_simp
       clear kl
       refine hK.out _ _ trivial (fun hHeld=>?_)
       clear hK K
       try simp only[Act.put,getElem_toArray,getElem_cons_succ,getElem_cons_zero,setIfInBounds_toArray,set_cons_zero,set_cons_succ]
       refine wpAnyH_ready (rs:= [5]) (by kernel_rfl) (by simp) ?_
       refine AllReadyH.cons rfl (fun K hK=>?_) AllReadyH.nil
       ·skip
        refine step_append_own (by rfl) _ _ _ (by rfl) w.heap.size 3 i0 _ 1 8 Tryz.underlying69 hi hz0 hz1 hz2 rfl (by omega) (.slice ua G.length uc) G.length _ (by rfl) HO.out ⟨n5,0,none⟩ 1 1 (cellsI x) (by rfl) rfl (World.news_of_block (cs:=#[.int .i64 x]) (t:=3) (fr:=(0,0)) HZ.out) (fun u hu=>by simp only[cellsI,List.mem_singleton] at hu;subst hu;rfl) (by unfold maxLen;have:=HGL.out;omega) (by have:=HGL.out;omega) HG.out.size ?_
        intro v' V' hown hgrow _
        have HX:=hid (HX.out.grown HO.out HL.out hgrow)
        have HG:=hid (HG.out.grown HO.out (Nat.le_refl _) hgrow)
        have HB:=hid (HB.out.grown HO.out (by decide) hgrow)
        have HO:=hid hown
        obtain⟨va,vc,rfl⟩:=Rw.own_form hown
        clear hown hgrow HZ
        obtain⟨V,rfl⟩: ∃V,V=V':=⟨_,rfl⟩
        refine hK.out _ _ trivial (fun hHeld=>?_)
        clear hK K
        try simp only[Act.put,getElem_toArray,getElem_cons_succ,getElem_cons_zero,setIfInBounds_toArray,set_cons_zero,set_cons_succ]
        refine wpAnyH_take (i:=6) (v:=?_) rfl (by kernel_rfl) (by kernel_rfl) (by kernel_rfl) (fun _ _ _ h=>h) (Or.inl ⟨by rfl,?_⟩) (by assumption) ?_
        rotate_left
        ·intro w hSw;(try dsimp only at hSw);go_simp<;>with_reducible rfl
        try simp only[Act.put,getElem_toArray,getElem_cons_succ,getElem_cons_zero,setIfInBounds_toArray,set_cons_zero,set_cons_succ]
        refine wpAnyH_ready (rs:= [7]) (by kernel_rfl) (by simp) ?_
        refine AllReadyH.cons rfl (fun K hK=>?_) AllReadyH.nil
        ·skip
         have kl:=cell_atW HB.out 3
         simp only[List.getElem?_toArray,List.getElem?_cons_zero,List.getElem?_cons_succ] at kl
         have kf:=frozen_atW HB.out
         go_simp
         have HO:Hid ((V.setCell ⟨w.heap.size,3,none⟩ (.slice va (G.length+1) vc)).ownsRow w.heap.size 3 1 (.slice va (G.length+1) vc) (G++ [x]).length (flatX cellsI (G++ [x]))):=hid (by have q:=own_store HO.out HB.out (by decide) 3 (.slice va (G.length+1) vc);rw[List.length_append,flatX_snoc];exact q)
         have HX:=hid (HX.out.set HL.out 3 (.slice va (G.length+1) vc))
         have HG:=hid (HG.out.set (Nat.le_refl _) 3 (.slice va (G.length+1) vc))
         have HB:Hid (BxAt (V.setCell ⟨w.heap.size,3,none⟩ (.slice va (G.length+1) vc)) w.heap.size (.cells #[.string (bstr xn),.int .i64 xh,.int .i64 xt,.slice va (G.length+1) vc] 71)):=hid (HB.out.set 3 (.slice va (G.length+1) vc))
         clear kl kf
         refine hK.out _ _ trivial (fun hHeld=>?_)
         clear hK K
         try simp only[Act.put,getElem_toArray,getElem_cons_succ,getElem_cons_zero,setIfInBounds_toArray,set_cons_zero,set_cons_succ]
         refine wpAnyH_done (by kernel_rfl) ?_ _
         go_wp2
         go_roundw
         case rel=>exact⟨j+1,T',G++ [x],va,vc,by omega,by first | rfl | go_num,by have:=HGJ.out;simp;omega,HX,HG,by simpa only[List.length_append,List.length_singleton] using HB,by simpa only[List.length_append,List.length_singleton] using HO,HF⟩
         case measure=>simp [intOf]<;>omega
  ·obtain rfl:j=N:=by omega
   rw[Nat.sub_self] at HF
   have hr:=HR.out.trans (thenR_ok (x:=G) (t':=T) (HF.out.trans rfl))
   have HE:=hid hr
   clear hr
   have hA:=HB.out
   have k0:=cell_atW hA 0
   have k1:=cell_atW hA 1
   have k2:=cell_atW hA 2
   have k3:=cell_atW hA 3
   have kf:=frozen_atW hA
   simp only[List.getElem?_toArray,List.getElem?_cons_zero,List.getElem?_cons_succ] at k0 k1 k2 k3
   clear hA hGl
   go_wp2
   refine bodyPost_ret (by simp [results,Tryz.results183,go_sem,k0,k1,k2,k3]<;>rfl) rfl (GetsRl.ok HE.out rfl ⟨⟨xn,xh,xt,G,ua,uc⟩,rfl,rfl,?_⟩ ?_ ?_)
   ·refine own_lowerX (Rw.own_keep HO.out fun k hk=>?_) HL.out
    have hne:=own_ne_tag HO.out HB.out (by decide) hk
    rw[Below.heap_setCell _ _ _ _ hne,Below.heap_setCell _ _ _ _ hne,Below.heap_setCell _ _ _ _ hne,Below.heap_setCell _ _ _ _ hne]
   ·exact(((HX.out.set HL.out _ _).set HL.out _ _).set HL.out _ _).set HL.out _ _
   ·exact(((HG.out.set (Nat.le_refl _) _ _).set (Nat.le_refl _) _ _).set (Nat.le_refl _) _ _).set (Nat.le_refl _) _ _
end Cm
end Go.Proofs.YtlnbmblbeaodcaaGreat
