/- Texts laid together by program. -/
import Derived.Test.YtlaomehfhooiaaaQ11
/- Contract: the document's Put of a batch. -/
set_option linter.unusedVariables false
set_option maxRecDepth 8000
set_option linter.unusedSimpArgs false
namespace Go.Proofs.Ytlaomehfhooiaaa
open Lib (hid)
open List (getElem_toArray getElem_cons_succ getElem_cons_zero setIfInBounds_toArray set_cons_zero set_cons_succ)
open Go.RowKit
namespace Cm

theorem rd_block {w:World} {g:Nat} {cs:Array Value} {t:TypeId} {bs:List UInt8} (h:w.heap[g]?=some (.cells cs t)) (hc:cs.toList=cellsOf bs) (hm:bs.length<=maxLen:=by unfold maxLen;simp [be8_length]):Rd w (.slice (some ⟨g,0,none⟩) bs.length bs.length) bs:=by
 refine⟨some ⟨g,0,none⟩,bs.length,bs.length,rfl,rfl,Nat.le_refl _,hm,(fun q=>by cases q),fun x hx hp=>?_⟩
 cases hx
 refine⟨rfl,fun i hi=>?_⟩
 rw[cell_at h]
 have e:cs[0+i]?=(cellsOf bs)[i]?:=by rw[Nat.zero_add,<-hc,Array.getElem?_toList]
 rw[e]
 simp [cellsOf,List.getElem?_eq_getElem hi]
section
variable {P : Program} {w : World}
theorem step_append_rd_at {ops:Array Oper} {o:Oper} {a:Act} {K:Act->World->Prop} {Q:Exit->Act->World->Prop} {E:Prop} (hgd:o.guard=none) (s x:Operand) (t:TypeId)
  (ho:o.op= .call { callee:=.builtin .append,args:=#[s,x],argTypes:=#[t,t] })
  (base:Nat) (e:TypeId) (i:TypeInfo) (ht:P.underlying t=some (.slice e)) (hi:P.info? e=some i) (hz:i.zero=some (.int .u8 0)) (hsize:i.size=1) (hby:i.bytes=1)
  (v:Value) (n:Nat) (xs:List Value) (hs:a.eval s=v) (hown:w.ownsRow base e 1 v n xs) (y:Value) (bs:List UInt8) (hx:a.eval x=y) (hr:Rd w y bs)
  (hlen:n+bs.length<=140737488355328) (hbase:base<=w.heap.size)
  (h: ∀v' w',w'.ownsRow base e 1 v' (n+bs.length) (xs++cellsOf bs)->w.grownBy w' v.ownBlock->(v'.ownBlock=v.ownBlock\/v'.ownBlock=some w.heap.size)->K (a.put o.dst v') w'):
  if Region.wanted o (yielded ops a.tmps)=true then Oper.wp P o a w K Q else E:=by
 have hw:Region.wanted o (yielded ops a.tmps)=true:=by simp [Region.wanted,hgd]
 rw[if_pos hw]
 obtain⟨ao,len,cap,rfl,hl,hc,hm,hn,hcells⟩:=hr.ex
 match ao,hn,hcells with
 | none,hn,_=>
  obtain⟨rfl,rfl⟩:=hn rfl
  obtain rfl:bs= []:=List.length_eq_zero_iff.1 hl
  have hrun:=run_append_owned_none (P:=P) (w:=w) base t o.type e i 1 ht hi v n xs hown
  unfold Oper.wp
  simp [execOp,ho,resolve,invoke,builtin,hs,hx,hrun,Result.andThen]
  exact h v w (by simpa [cellsOf] using hown) (World.grownBy.refl _ _) (.inl rfl)
 | some ad,_,hcells=>
  obtain⟨v',w',hrr,h2,h3,_,h5⟩:=run_append_own_at (P:=P) w base t o.type e i (.int .u8 0) 1 1 ht hi hz hsize hby rfl (by decide) v n xs hown ad len cap (cellsOf bs) (by rw[cellsOf_length];omega) (by
   intro j u hj
   obtain⟨hj',rfl⟩:=cellsOf_get bs j u hj
   obtain⟨hs',hi'⟩:=hcells ad rfl (by omega)
   obtain⟨b,off,spot⟩:=ad
   simp only at hs'
   subst hs'
   have hadd:(⟨b,off,none⟩:Addr).add j=⟨b,off+j,none⟩:=by unfold Addr.add;split<;>simp_all
   rw[hadd]
   exact hi' j (by omega)) (cellsOf_one bs) (by unfold maxLen;omega) (by omega) hbase
  unfold Oper.wp execOp
  simp only[ho,resolve,invoke,builtin,Sem.run_bind,Sem.run_pure,Result.andThen_ok,List.map_toArray,List.map_cons,List.map_nil,hs,hx,hrr]
  rw[<-hl] at h2
  exact h v' w' h2 h3 h5
end

theorem RefPutReqB_in (r:ReqV) (h:mayR r=true) (w:World):Calls Try.prog 24 #[reqVal r] w (MadeS (bytesR r,0) w):=by
 refine(RefPutReq_any r w).mono fun e w' q=>?_
 unfold putR at q
 rw[if_pos h] at q
 exact Made.s q
theorem reqsF_may {v t s m:Int} {l:List ReqV} (h:mayB ⟨false,v,t,s,m,l⟩=true): ∀r∈l,mayR r=true:=by
 rw[show mayB ⟨false,v,t,s,m,l⟩=(highF v 0 && highF t 0 && highF s 0 && highF m 0 && reqsF l) from rfl] at h
 simp only[Bool.and_eq_true,reqsF] at h
 exact okR_may l [] h.2.2
set_option maxHeartbeats 8000000 in
theorem RefPutB_any (b:BatV) (u:Value) (w:World) (h:RdR w u b.reqs):Calls Try.prog 9 #[batVal b u] w (Made (putB b) w):=by
 have CM:=hid (fun W hb=>RefMayB_any b u W (h.later hb))
 have hmp:=mayB_plain (b:=b)
 have hmf:=mayB_fill (b:=b)
 unfold putB
 cases hm:mayB b
 case false=>
  have HM:=hid hm
  clear hm hmp hmf
  obtain⟨fb,vb,tb,sb,mb,lb⟩:=b
  have HB:=hid (newAlloc w (.cells #[.bool fb,.int .i64 vb,.int .i64 tb,.int .i64 sb,.int .i64 mb,u] 26))
  obtain⟨ua,uc,rfl⟩:=h.form
  unfold batVal at CM ⊢
  dsimp only at CM ⊢
  clear h
  generalize lb.length=L at*
  go_enter Try.func9,Try.ntmps9
  go_wp2_with (go_at_call 13;refine(CM.out _ HB.out).mono ?_;rw[HM.out];rintro e w1 ⟨rfl,hb1⟩)
  go_ret2
  exact⟨_,rfl,World.ownsRow_nil _ _ _ _,step HB.out hb1⟩
 rw[if_pos rfl]
 have hmp:=hmp hm
 have hmf:=hmf hm
 have HM:=hid hm
 clear hm
 obtain⟨fb,vb,tb,sb,mb,lb⟩:=b
 have HB:=hid (newAlloc w (.cells #[.bool fb,.int .i64 vb,.int .i64 tb,.int .i64 sb,.int .i64 mb,u] 26))
 cases fb
 case true=>
  rw[show bytesB ⟨true,vb,tb,sb,mb,lb⟩= [1] from rfl]
  obtain⟨ua,uc,rfl⟩:=h.form
  unfold batVal at CM ⊢
  dsimp only at CM ⊢
  clear h hmp hmf
  generalize lb.length=L at*
  go_enter Try.func9,Try.ntmps9
  go_wp2_with (go_at_call 13;refine(CM.out _ HB.out).mono ?_;rw[HM.out];rintro e w1 ⟨rfl,hb1⟩;obtain⟨k0,k1,k2,k3,k4,k5⟩:=box6b hb1)
  go_ret2
  exact(PB.start w1 [1] _ (by simp [cellsOf]) (by simp [maxLen])).made (step HB.out hb1)
 obtain⟨h1,h2,h3, -⟩:=hmp rfl
 clear hmf
 rw[bytesB_plain]
 dsimp only at h h1 h2 h3
 have hx: ∀k,k<4->0<= [vb,tb,sb,mb].getD k 0/\ [vb,tb,sb,mb].getD k 0<=2305843009213693952:=by
  have hm:=HM.out
  rw[show mayB ⟨false,vb,tb,sb,mb,lb⟩=(highF vb 0 && highF tb 0 && highF sb 0 && highF mb 0 && reqsF lb) from rfl] at hm
  simp [highF] at hm
  intro k hk
  match k,hk with
  | 0,_ | 1,_ | 2,_ | 3,_=>simp;omega
 have hvb:=(hx 0 (by omega)).1
 have htb:=(hx 1 (by omega)).1
 have hsb:=(hx 2 (by omega)).1
 have hmb:=(hx 3 (by omega)).1
 simp at hvb htb hsb hmb
 obtain⟨VB,rfl⟩:=Int.eq_ofNat_of_zero_le hvb
 obtain⟨TB,rfl⟩:=Int.eq_ofNat_of_zero_le htb
 obtain⟨SB,rfl⟩:=Int.eq_ofNat_of_zero_le hsb
 obtain⟨MB,rfl⟩:=Int.eq_ofNat_of_zero_le hmb
 have hns:bytesNs [(VB:Int),(TB:Int),(SB:Int),(MB:Int)]=be8 VB++be8 TB++be8 SB++be8 MB:=by simp [bytesNs]
 rw[hns]
 clear hvb htb hsb hmb hns
 have HR:=hid (fun k (hk:k<lb.length)=>bytesRs_take_succ lb k hk)
 have HQ:=hid (fun k (hk:k<lb.length) w=>RefPutReqB_in lb[k] (h3 _ (List.getElem_mem hk)) w)
 have HL:Hid (∀k,(bytesRs (lb.take k)).length <=93):=hid fun k=>by
  have a1:=bytesRs_le (lb.take k) (fun r hr=>h3 r (List.mem_of_mem_take hr))
  have a2:(lb.take k).length <=3:=by rw[List.length_take];omega
  omega
 have HB31:Hid (∀k (hk:k<lb.length),(bytesR lb[k]).length <=31):=hid fun k hk=>by
  have a2:=reqsF_may HM.out _ (List.getElem_mem hk)
  have a3:=(may_bounds _ (mayR_bounds _ a2).2.2).2.2
  rw[bytesR_length]
  omega
 have HT:Hid (lb.take lb.length=lb):=hid (List.take_length)
 obtain⟨ua,uc,rfl⟩:=h.form
 have HA:=hid (fun i hi=>rdr_at h i hi)
 unfold batVal at CM ⊢
 dsimp only at CM ⊢
 have hLw:IntKind.u8.wrap (lb.length:Int)=(lb.length:Int):=by rw[IntKind.wrap_u8];omega
 clear h h1 h3 hx hmp
 obtain⟨L,hL⟩: ∃L,lb.length=L:=⟨_,rfl⟩
 have HLL:=hid hL
 rw[hL] at h2 CM HB HT hLw ⊢
 clear hL
 obtain⟨i0,hi,hz0,hz1,hz2⟩:=info_parts info8
 go_enter Try.func9,Try.ntmps9
 go_upto_region 5 with (go_at_call 13;refine(CM.out _ HB.out).mono ?_;rw[HM.out];rintro e w1 ⟨rfl,hb1⟩;obtain⟨k0,k1,k2,k3,k4,k5⟩:=box6b hb1)
 have HX:Hid (∀W,Below w1.heap.size w1 W->W.cell? ⟨w.heap.size,0,none⟩=some (.bool false)/\W.cell? ⟨w.heap.size,1,none⟩=some (.int .i64 (VB:Int))/\W.cell? ⟨w.heap.size,2,none⟩=some (.int .i64 (TB:Int))/\W.cell? ⟨w.heap.size,3,none⟩=some (.int .i64 (SB:Int))/\W.cell? ⟨w.heap.size,4,none⟩=some (.int .i64 (MB:Int))/\W.cell? ⟨w.heap.size,5,none⟩=some (.slice ua L uc)):=hid fun W hb=>box6b (step hb1 hb)
 have HB1:=hid (step HB.out hb1)
 have HP0:=hid (PB.start w1 [0] #[.int .u8 0] (by simp [cellsOf]) (by simp [maxLen]))
 obtain⟨x0,x1,x2,x3,x4,x5⟩:=HX.out _ HP0.out.below
 clear hb1
 go_upto_region 6 with (first
  | (go_at_call 23;refine(Ref1.Eight_ok VB _).mono ?_;rintro e w2 ⟨he2,hw2⟩;have hb2:Below (w1.alloc (.cells #[.int .u8 0] 5)).heap.size (w1.alloc (.cells #[.int .u8 0] 5)) w2:=(by rw[<-hw2];exact newAlloc _ _);have hr2:Rd w2 (.slice (some ⟨(w1.alloc (.cells #[.int .u8 0] 5)).heap.size,0,none⟩) 8 8) (be8 VB):=(by rw[<-hw2];exact rd8 _ VB);generalize (w1.alloc (.cells #[.int .u8 0] 5)).heap.size =g2 at he2 hr2;subst he2;have HP2:=hid (HP0.out.later hb2))
  | (at_builtin;refine wpList_append_rd rfl _ _ 27 rfl w1.heap.size 5 i0 Try.underlying27 hi hz0 hz1 hz2 _ 1 (cellsOf [0]) rfl HP2.out.own _ (be8 VB) rfl hr2 (by simp [be8_length]) HP2.out.below.size ?_;intro v W0 hown hgrow;have HPW:=hid (HP2.out.push hown hgrow)))
 clear k0 k1 k2 k3 k4 k5 x0 x1 x2 x3 x4 x5 hb2 hr2 HP2 hown hgrow hw2 HP0
 have hl0:([0]++be8 VB).length =9:=rfl
 have hbs: ∀(l:UInt8) (R:List UInt8),0::(be8 VB++be8 TB++be8 SB++be8 MB++ [l]++R)=((([0]++be8 VB)++be8 TB)++be8 SB)++be8 MB++ [l]++R:=fun l R=>by simp
 generalize [0]++be8 VB=bs at HPW hl0 hbs
 have HL0:=hid hl0
 have HBS:=hid (hbs (UInt8.ofNat L))
 have HP0:=HPW
 clear hl0 hbs HPW
 go_cut [4] from 19 to 33 (fun v wc=>Hid (PB w1 v (((bs++be8 TB)++be8 SB)++be8 MB) wc))
 case first=>
  refine wp_region_held_drew (S:=fun W=>W.cell? ⟨w.heap.size,0,none⟩=some (.bool false)/\W.cell? ⟨w.heap.size,1,none⟩=some (.int .i64 (VB:Int))/\W.cell? ⟨w.heap.size,2,none⟩=some (.int .i64 (TB:Int))/\W.cell? ⟨w.heap.size,3,none⟩=some (.int .i64 (SB:Int))/\W.cell? ⟨w.heap.size,4,none⟩=some (.int .i64 (MB:Int))/\W.cell? ⟨w.heap.size,5,none⟩=some (.slice ua L uc)) (by kernel_rfl) (HX.out _ HP0.out.below.drew) (fun hHeld=>?_)
  obtain⟨V,hV⟩: ∃V,V=W0.drew:=⟨_,rfl⟩
  have HP:Hid (PB w1 v bs V):=hid (by rw[hV];exact HP0.out.later (Below.refl _ _).drew)
  rw[<-hV] at hHeld ⊢
  clear hV
  refine wpAnyH_take (i:=0) (v:=?_) rfl (by kernel_rfl) (by kernel_rfl) (by kernel_rfl) (fun _ _ _ h=>h) (Or.inl ⟨by rfl,?_⟩) (by assumption) ?_
  rotate_left
  ·intro w hSw;(try dsimp only at hSw);go_simp<;>with_reducible rfl
  try simp only[Act.put,getElem_toArray,getElem_cons_succ,getElem_cons_zero,setIfInBounds_toArray,set_cons_zero,set_cons_succ]
  refine wpAnyH_take (i:=1) (v:=?_) rfl (by kernel_rfl) (by kernel_rfl) (by kernel_rfl) (fun _ _ _ h=>h) (Or.inl ⟨by rfl,?_⟩) (by assumption) ?_
  rotate_left
  ·intro w hSw;(try dsimp only at hSw);go_simp<;>with_reducible rfl
  try simp only[Act.put,getElem_toArray,getElem_cons_succ,getElem_cons_zero,setIfInBounds_toArray,set_cons_zero,set_cons_succ]
  refine wpAnyH_take (i:=2) (v:=?_) rfl (by kernel_rfl) (by kernel_rfl) (by kernel_rfl) (fun _ _ _ h=>h) (Or.inl ⟨by rfl,?_⟩) (by assumption) ?_
  rotate_left
  ·intro w hSw;(try dsimp only at hSw);go_simp<;>with_reducible rfl
  try simp only[Act.put,getElem_toArray,getElem_cons_succ,getElem_cons_zero,setIfInBounds_toArray,set_cons_zero,set_cons_succ]
  refine wpAnyH_take (i:=3) (v:=?_) rfl (by kernel_rfl) (by kernel_rfl) (by kernel_rfl) (fun _ _ _ h=>h) (Or.inl ⟨by rfl,?_⟩) (by assumption) ?_
  rotate_left
  ·intro w hSw;(try dsimp only at hSw);go_simp<;>with_reducible rfl
  try simp only[Act.put,getElem_toArray,getElem_cons_succ,getElem_cons_zero,setIfInBounds_toArray,set_cons_zero,set_cons_succ]
  refine wpAnyH_take (i:=6) (v:=?_) rfl (by kernel_rfl) (by kernel_rfl) (by kernel_rfl) (fun _ _ _ h=>h) (Or.inl ⟨by rfl,?_⟩) (by assumption) ?_
  rotate_left
  ·intro w hSw;(try dsimp only at hSw);go_simp<;>with_reducible rfl
  try simp only[Act.put,getElem_toArray,getElem_cons_succ,getElem_cons_zero,setIfInBounds_toArray,set_cons_zero,set_cons_succ]
  refine wpAnyH_take (i:=7) (v:=?_) rfl (by kernel_rfl) (by kernel_rfl) (by kernel_rfl) (fun _ _ _ h=>h) (Or.inl ⟨by rfl,?_⟩) (by assumption) ?_
  rotate_left
  ·intro w hSw;(try dsimp only at hSw);go_simp<;>with_reducible rfl
  try simp only[Act.put,getElem_toArray,getElem_cons_succ,getElem_cons_zero,setIfInBounds_toArray,set_cons_zero,set_cons_succ]
  refine wpAnyH_take (i:=8) (v:=?_) rfl (by kernel_rfl) (by kernel_rfl) (by kernel_rfl) (fun _ _ _ h=>h) (Or.inl ⟨by rfl,?_⟩) (by assumption) ?_
  rotate_left
  ·intro w hSw;(try dsimp only at hSw);go_simp<;>with_reducible rfl
  try simp only[Act.put,getElem_toArray,getElem_cons_succ,getElem_cons_zero,setIfInBounds_toArray,set_cons_zero,set_cons_succ]
  refine wpAnyH_take (i:=11) (v:=?_) rfl (by kernel_rfl) (by kernel_rfl) (by kernel_rfl) (fun _ _ _ h=>h) (Or.inl ⟨by rfl,?_⟩) (by assumption) ?_
  rotate_left
  ·intro w hSw;(try dsimp only at hSw);go_simp<;>with_reducible rfl
  try simp only[Act.put,getElem_toArray,getElem_cons_succ,getElem_cons_zero,setIfInBounds_toArray,set_cons_zero,set_cons_succ]
  refine wpAnyH_take (i:=12) (v:=?_) rfl (by kernel_rfl) (by kernel_rfl) (by kernel_rfl) (fun _ _ _ h=>h) (Or.inl ⟨by rfl,?_⟩) (by assumption) ?_
  rotate_left
  ·intro w hSw;(try dsimp only at hSw);go_simp<;>with_reducible rfl
  try simp only[Act.put,getElem_toArray,getElem_cons_succ,getElem_cons_zero,setIfInBounds_toArray,set_cons_zero,set_cons_succ]
  refine wpAnyH_ready (rs:= [4]) (by kernel_rfl) (by simp) ?_
  refine AllReadyH.cons rfl (fun K hK=>?_) AllReadyH.nil
  ·go_simp
   go_at_call 23
   refine(Ref1.Eight_ok TB V).mono ?_
   rintro e V' ⟨rfl,hV⟩
   have hb:Below V.heap.size V V':=(by rw[<-hV];exact newAlloc _ _)
   have hn:PN V.heap.size (.cells (beArr TB 8) 5) v V':=(by rw[<-hV];exact PN.new _ _ _ _ rfl HP.out.ne_new)
   obtain⟨g1,hg1⟩: ∃g1,V.heap.size=g1:=⟨_,rfl⟩
   rw[hg1] at hn ⊢
   have HN1:=hid hn
   have HP:=hid (HP.out.later hb)
   clear hV hb hn hg1
   obtain⟨V,rfl⟩: ∃V,V=V':=⟨_,rfl⟩
   refine hK.out _ _ (HX.out _ HP.out.below) (fun hHeld=>?_)
   clear hK K
   try simp only[Act.put,getElem_toArray,getElem_cons_succ,getElem_cons_zero,setIfInBounds_toArray,set_cons_zero,set_cons_succ]
   refine wpAnyH_ready (rs:= [5]) (by kernel_rfl) (by simp) ?_
   refine AllReadyH.cons rfl (fun K hK=>?_) AllReadyH.nil
   ·skip
    refine step_append_rd_at (by rfl) _ _ _ (by rfl) w1.heap.size 5 i0 Try.underlying27 hi hz0 hz1 hz2 v _ (cellsOf bs) (by rfl) HP.out.own _ (be8 TB) (by rfl) (rd_block HN1.out.at_ (beArr_cells TB)) (by have:=HL0.out;simp [be8_length];omega) HP.out.below.size ?_
    intro v' V' hown hgrow hat
    have HP:=hid (HP.out.push hown hgrow)
    clear hown hgrow hat
    obtain⟨V,rfl⟩: ∃V,V=V':=⟨_,rfl⟩
    obtain⟨v,rfl⟩: ∃v,v=v':=⟨_,rfl⟩
    refine hK.out _ _ (HX.out _ HP.out.below) (fun hHeld=>?_)
    clear hK K
    try simp only[Act.put,getElem_toArray,getElem_cons_succ,getElem_cons_zero,setIfInBounds_toArray,set_cons_zero,set_cons_succ]
    refine wpAnyH_ready (rs:= [9]) (by kernel_rfl) (by simp) ?_
    refine AllReadyH.cons rfl (fun K hK=>?_) AllReadyH.nil
    ·go_simp
     go_at_call 23
     refine(Ref1.Eight_ok SB V).mono ?_
     rintro e V' ⟨rfl,hV⟩
     have hb:Below V.heap.size V V':=(by rw[<-hV];exact newAlloc _ _)
     have hn:PN V.heap.size (.cells (beArr SB 8) 5) v V':=(by rw[<-hV];exact PN.new _ _ _ _ rfl HP.out.ne_new)
     obtain⟨g2,hg2⟩: ∃g2,V.heap.size=g2:=⟨_,rfl⟩
     rw[hg2] at hn ⊢
     have HN2:=hid hn
     have HP:=hid (HP.out.later hb)
     clear hV hb hn hg2
     obtain⟨V,rfl⟩: ∃V,V=V':=⟨_,rfl⟩
     refine hK.out _ _ (HX.out _ HP.out.below) (fun hHeld=>?_)
     clear hK K
     try simp only[Act.put,getElem_toArray,getElem_cons_succ,getElem_cons_zero,setIfInBounds_toArray,set_cons_zero,set_cons_succ]
     refine wpAnyH_ready (rs:= [10]) (by kernel_rfl) (by simp) ?_
     refine AllReadyH.cons rfl (fun K hK=>?_) AllReadyH.nil
     ·skip
      refine step_append_rd_at (by rfl) _ _ _ (by rfl) w1.heap.size 5 i0 Try.underlying27 hi hz0 hz1 hz2 v _ (cellsOf (bs++be8 TB)) (by rfl) HP.out.own _ (be8 SB) (by rfl) (rd_block HN2.out.at_ (beArr_cells SB)) (by have:=HL0.out;simp [be8_length];omega) HP.out.below.size ?_
      intro v' V' hown hgrow hat
      have HP:=hid (HP.out.push hown hgrow)
      clear hown hgrow hat
      obtain⟨V,rfl⟩: ∃V,V=V':=⟨_,rfl⟩
      obtain⟨v,rfl⟩: ∃v,v=v':=⟨_,rfl⟩
      refine hK.out _ _ (HX.out _ HP.out.below) (fun hHeld=>?_)
      clear hK K
      try simp only[Act.put,getElem_toArray,getElem_cons_succ,getElem_cons_zero,setIfInBounds_toArray,set_cons_zero,set_cons_succ]
      refine wpAnyH_ready (rs:= [13]) (by kernel_rfl) (by simp) ?_
      refine AllReadyH.cons rfl (fun K hK=>?_) AllReadyH.nil
      ·go_simp
       go_at_call 23
       refine(Ref1.Eight_ok MB V).mono ?_
       rintro e V' ⟨rfl,hV⟩
       have hb:Below V.heap.size V V':=(by rw[<-hV];exact newAlloc _ _)
       have hn:PN V.heap.size (.cells (beArr MB 8) 5) v V':=(by rw[<-hV];exact PN.new _ _ _ _ rfl HP.out.ne_new)
       obtain⟨g3,hg3⟩: ∃g3,V.heap.size=g3:=⟨_,rfl⟩
       rw[hg3] at hn ⊢
       have HN3:=hid hn
       have HP:=hid (HP.out.later hb)
       clear hV hb hn hg3
       obtain⟨V,rfl⟩: ∃V,V=V':=⟨_,rfl⟩
       refine hK.out _ _ (HX.out _ HP.out.below) (fun hHeld=>?_)
       clear hK K
       try simp only[Act.put,getElem_toArray,getElem_cons_succ,getElem_cons_zero,setIfInBounds_toArray,set_cons_zero,set_cons_succ]
       refine wpAnyH_ready (rs:= [14]) (by kernel_rfl) (by simp) ?_
       refine AllReadyH.cons rfl (fun K hK=>?_) AllReadyH.nil
       ·skip
        refine step_append_rd_at (by rfl) _ _ _ (by rfl) w1.heap.size 5 i0 Try.underlying27 hi hz0 hz1 hz2 v _ (cellsOf ((bs++be8 TB)++be8 SB)) (by rfl) HP.out.own _ (be8 MB) (by rfl) (rd_block HN3.out.at_ (beArr_cells MB)) (by have:=HL0.out;simp [be8_length];omega) HP.out.below.size ?_
        intro v' V' hown hgrow hat
        have HP:=hid (HP.out.push hown hgrow)
        clear hown hgrow hat
        obtain⟨V,rfl⟩: ∃V,V=V':=⟨_,rfl⟩
        obtain⟨v,rfl⟩: ∃v,v=v':=⟨_,rfl⟩
        refine hK.out _ _ (HX.out _ HP.out.below) (fun hHeld=>?_)
        clear hK K
        try simp only[Act.put,getElem_toArray,getElem_cons_succ,getElem_cons_zero,setIfInBounds_toArray,set_cons_zero,set_cons_succ]
        refine wpAnyH_take (i:=15) (v:=?_) rfl (by kernel_rfl) (by kernel_rfl) (by kernel_rfl) (fun _ _ _ h=>h) (Or.inl ⟨by rfl,?_⟩) (by assumption) ?_
        rotate_left
        ·intro w hSw;(try dsimp only at hSw);go_simp<;>with_reducible rfl
        try simp only[Act.put,getElem_toArray,getElem_cons_succ,getElem_cons_zero,setIfInBounds_toArray,set_cons_zero,set_cons_succ]
        refine wpAnyH_done (by kernel_rfl) ?_ _
        go_wp2_with fail
        go_meet
        exact HP
 case rest=>
  have HP4:=hcut
  have HL4:Hid ((((bs++be8 TB)++be8 SB)++be8 MB).length =33):=hid (by simp [be8_length,HL0.out])
  clear hcut HP0
  obtain⟨va,vc,hv⟩:=Rw.own_form HP4.out.own
  rw[HL4.out] at hv
  generalize (((bs++be8 TB)++be8 SB)++be8 MB)=bs4 at HP4 HL4 HBS
  subst hv
  obtain⟨wr,rfl⟩: ∃wr,wr=wc:=⟨_,rfl⟩
  obtain⟨k0,k1,k2,k3,k4,k5⟩:=HX.out _ (HP4.out.later (newAlloc wr (.cells #[.int .u8 (L:Int)] 5))).below
  obtain⟨x0,x1,x2,x3,x4,x5⟩:=HX.out _ HP4.out.below
  have hrd:Rd (wr.alloc (.cells #[.int .u8 (L:Int)] 5)) (.slice (some ⟨wr.heap.size,0,none⟩) 1 1) [UInt8.ofNat L]:=
   Rd.own (owns_lit wr #[.int .u8 (L:Int)] [UInt8.ofNat L] (by simp [cellsOf];omega) (by simp [maxLen]))
  have HP5:=hid (HP4.out.later (newAlloc wr (.cells #[.int .u8 (L:Int)] 5)))
  have ho5:(wr.alloc (.cells #[.int .u8 (L:Int)] 5)).ownsRow w1.heap.size 5 1 (.slice va 33 vc) 33 (cellsOf bs4):=by
   have:=HP5.out.own
   rw[HL4.out] at this
   exact this
  have HO5:=hid ho5
  have HRD:=hid hrd
  clear ho5 hrd
  have hz5:w1.heap.size<=(wr.alloc (.cells #[.int .u8 (L:Int)] 5)).heap.size :=HP5.out.below.size
  go_wp2_with (at_builtin;refine wpList_append_rd rfl _ _ 27 rfl w1.heap.size 5 i0 Try.underlying27 hi hz0 hz1 hz2 _ 33 (cellsOf bs4) rfl HO5.out _ [UInt8.ofNat L] rfl HRD.out (by simp) hz5 ?_;intro v6 w6 hown6 hgrow6;have HP6:=hid (PB.push (cs:= [UInt8.ofNat L]) HP5.out (by rw[HL4.out];exact hown6) hgrow6))
  clear k0 k1 k2 k3 k4 k5 x0 x1 x2 x3 x4 x5 HP5 HO5 HRD hz5 hown6 hgrow6 HP4
  have HL6:Hid ((bs4++ [UInt8.ofNat L]).length =34):=hid (by rw[List.length_append,HL4.out];rfl)
  generalize bs4++ [UInt8.ofNat L]=hd at HP6 HL6 HBS
  clear HL4
  go_loopw [4,5,6,7] (fun v i _ _ wx=> ∃(k:Nat),k<=L/\i= .int .i64 (k:Int)/\Hid (PB w1 v (hd++bytesRs (lb.take k)) wx)) (fun _ i _ _ _=>L - (intOf i).toNat)
  case atStart=>exact⟨0,by omega,rfl,hid (by simpa [bytesRs] using HP6.out)⟩
  case round=>
   obtain⟨k,hk,rfl,HPk⟩:=hrel
   obtain⟨k0,k1,k2,k3,k4,k5⟩:=HX.out _ HPk.out.below
   by_cases hlt:k<L
   ·have hkl:k<lb.length:=by rw[HLL.out];exact hlt
    obtain⟨rb,ro,rfl,hc⟩:=HA.out k hkl
    obtain⟨q0,q1,q2,q3,q4⟩:=hc _ (step HB1.out HPk.out.below)
    have cq:=HQ.out k hkl
    have hr:=HR.out k hkl
    have hb31:=HB31.out k hkl
    have hlk:=HL.out k
    have hl6:(hd++bytesRs (lb.take k)).length <=127:=by rw[List.length_append,HL6.out];omega
    clear HA HQ HR HL HLL hc HP6 HB31
    generalize lb[k]=x at q0 q1 q2 q3 q4 cq hr hb31
    have HS:=hid (show hd++bytesRs (lb.take (k+1))=(hd++bytesRs (lb.take k))++bytesR x by rw[hr,List.append_assoc])
    clear hr hlk hkl
    obtain⟨ka,kc,hv⟩:=Rw.own_form HPk.out.own
    generalize hd++bytesRs (lb.take k)=ks at HPk HS hl6 hv
    subst hv
    obtain⟨xc,xs,xk,xn,xm⟩:=x
    unfold reqVal at cq
    dsimp only at q0 q1 q2 q3 q4 cq
    have CQ:=hid cq
    clear cq
    generalize bytesR ⟨xc,xs,⟨xk,xn,xm⟩⟩=rbs at CQ HS hb31
    go_wp2_with (first
     | (go_at_call 24;refine(CQ.out _).mono ?_;rintro e w7 ⟨a7,l7,d7,rfl,hr7,hb7⟩;have HP7:=hid (HPk.out.later hb7))
     | (at_builtin;refine wpList_append_rd rfl _ _ 27 rfl w1.heap.size 5 i0 Try.underlying27 hi hz0 hz1 hz2 _ ks.length (cellsOf ks) rfl HP7.out.own _ rbs rfl hr7 (by omega) HP7.out.below.size ?_;intro v8 w8 hown8 hgrow8))
    go_roundw
    case rel=>exact⟨k+1,by omega,by go_num,hid (by rw[HS.out];exact HP7.out.push hown8 hgrow8)⟩
    case measure=>simp [intOf];omega
   ·obtain rfl:k=L:=by omega
    have hP:=HPk.out
    rw[HT.out] at hP
    have HPL:=hid hP
    clear hP HPk HP6
    go_wp2
    go_ret2
    rw[HBS.out]
    exact HPL.out.made HB1.out
end Cm
end Go.Proofs.Ytlaomehfhooiaaa
