/- Texts laid together by program. -/
import Derived.Test.YtlaomehfhooiaaaQ10
/- Contracts: package batch's May, and the document's. -/
set_option linter.unusedVariables false
set_option maxRecDepth 8000
set_option linter.unusedSimpArgs false
namespace Go.Proofs.Ytlaomehfhooiaaa
open Lib (hid)
open Go.RowKit
namespace Cm

theorem sameRs_nil (l:List ReqV):sameRs l []=decide (l.length=0):=by
 cases l<;>simp [sameRs]
theorem may_fill (v t s m:Int) (l:List ReqV):mayB ⟨true,v,t,s,m,l⟩=sameB ⟨true,v,t,s,m,l⟩ fillB:=by
 unfold mayB sameB fillB
 simp [sameRs_nil]
set_option maxHeartbeats 2000000 in
theorem MayB_any (b:BatV) (u:Value) (w:World) (h:RdR w u b.reqs):Calls Try.prog 12 #[batVal b u] w (SaysB (mayB b) w):=by
 obtain⟨fb,vb,tb,sb,mb,lb⟩:=b
 have HB:=hid (newAlloc w (.cells #[.bool fb,.int .i64 vb,.int .i64 tb,.int .i64 sb,.int .i64 mb,u] 26))
 dsimp only at h
 cases fb
 case true=>
  have CS:=hid (SameB_any ⟨true,vb,tb,sb,mb,lb⟩ fillB u (.slice none 0 0) _ (h.later HB.out) (RdX.nil _))
  rw[may_fill]
  generalize sameB ⟨true,vb,tb,sb,mb,lb⟩ fillB=S at CS ⊢
  unfold batVal fillB at CS
  unfold batVal
  dsimp only at CS ⊢
  clear h
  go_enter Try.func12,Try.ntmps12
  go_wp2_with (go_at_call 15;refine CS.out.mono ?_;rintro e w1 ⟨rfl,hb1⟩)
  go_ret
  exact⟨rfl,step HB.out hb1⟩
 rw[show mayB ⟨false,vb,tb,sb,mb,lb⟩=(highF vb 0 && highF tb 0 && highF sb 0 && highF mb 0 && reqsF lb) from rfl]
 have C1:=hid (fun w=>isNumB_any vb w)
 have C2:=hid (fun w=>isNumB_any tb w)
 have C3:=hid (fun w=>isNumB_any sb w)
 have C4:=hid (fun w=>isNumB_any mb w)
 have C5:=hid (mayReqs_any u lb _ (h.later HB.out))
 obtain⟨ua,uc,rfl⟩:=h.form
 unfold batVal
 dsimp only
 clear h
 generalize lb.length=L at*
 generalize highF vb 0=H1 at C1 ⊢
 generalize highF tb 0=H2 at C2 ⊢
 generalize highF sb 0=H3 at C3 ⊢
 generalize highF mb 0=H4 at C4 ⊢
 generalize reqsF lb=H5 at C5 ⊢
 cases H1
 case false=>
  go_enter Try.func12,Try.ntmps12
  go_wp2_with fail
  refine(C1.out _).mono ?_
  rintro e w1 ⟨rfl,rfl⟩
  go_wp2
  go_ret
  exact⟨by simp,HB.out⟩
 cases H2
 case false=>
  go_enter Try.func12,Try.ntmps12
  go_wp2_with fail
  refine(C1.out _).mono ?_
  rintro e w1 ⟨rfl,rfl⟩
  go_wp2_with fail
  refine(C2.out _).mono ?_
  rintro e w1 ⟨rfl,rfl⟩
  go_wp2
  go_ret
  exact⟨by simp,HB.out⟩
 cases H3
 case false=>
  go_enter Try.func12,Try.ntmps12
  go_wp2_with fail
  refine(C1.out _).mono ?_
  rintro e w1 ⟨rfl,rfl⟩
  go_wp2_with fail
  refine(C2.out _).mono ?_
  rintro e w1 ⟨rfl,rfl⟩
  go_wp2_with fail
  refine(C3.out _).mono ?_
  rintro e w1 ⟨rfl,rfl⟩
  go_wp2
  go_ret
  exact⟨by simp,HB.out⟩
 cases H4
 case false=>
  go_enter Try.func12,Try.ntmps12
  go_wp2_with fail
  refine(C1.out _).mono ?_
  rintro e w1 ⟨rfl,rfl⟩
  go_wp2_with fail
  refine(C2.out _).mono ?_
  rintro e w1 ⟨rfl,rfl⟩
  go_wp2_with fail
  refine(C3.out _).mono ?_
  rintro e w1 ⟨rfl,rfl⟩
  go_wp2_with fail
  refine(C4.out _).mono ?_
  rintro e w1 ⟨rfl,rfl⟩
  go_wp2
  go_ret
  exact⟨by simp,HB.out⟩
 go_enter Try.func12,Try.ntmps12
 go_wp2_with fail
 refine(C1.out _).mono ?_
 rintro e w1 ⟨rfl,rfl⟩
 go_wp2_with fail
 refine(C2.out _).mono ?_
 rintro e w1 ⟨rfl,rfl⟩
 go_wp2_with fail
 refine(C3.out _).mono ?_
 rintro e w1 ⟨rfl,rfl⟩
 go_wp2_with fail
 refine(C4.out _).mono ?_
 rintro e w1 ⟨rfl,rfl⟩
 go_wp2_with (go_at_call 32;refine C5.out.mono ?_;rintro e w1 ⟨rfl,hb1⟩)
 go_ret
 exact⟨by simp,step HB.out hb1⟩
set_option maxHeartbeats 2000000 in
theorem RefMayB_any (b:BatV) (u:Value) (w:World) (h:RdR w u b.reqs):Calls Try.prog 13 #[batVal b u] w (SaysB (mayB b) w):=by
 obtain⟨fb,vb,tb,sb,mb,lb⟩:=b
 have HB:=hid (newAlloc w (.cells #[.bool fb,.int .i64 vb,.int .i64 tb,.int .i64 sb,.int .i64 mb,u] 26))
 dsimp only at h
 cases fb
 case true=>
  rw[show mayB ⟨true,vb,tb,sb,mb,lb⟩=(decide (vb=0) && (decide (tb=0) && decide (sb=0)) && decide (mb=0) && decide (lb.length=0)) from rfl]
  obtain⟨ua,uc,rfl⟩:=h.form
  unfold batVal
  dsimp only
  clear h
  generalize lb.length=L at*
  by_cases e:vb=0
  case neg=>
   have d0:(vb==0)=false:=by simpa using e
   have E:=hid e
   clear e
   go_enter Try.func13,Try.ntmps13
   go_wp2
   go_ret
   exact⟨by simp [E.out],HB.out⟩
  have d0:(vb==0)=true:=by simpa using e
  have e0:=hid e
  clear e
  by_cases e:tb=0
  case neg=>
   have d1:(tb==0)=false:=by simpa using e
   have E:=hid e
   clear e
   go_enter Try.func13,Try.ntmps13
   go_wp2
   go_ret
   exact⟨by simp [E.out],HB.out⟩
  have d1:(tb==0)=true:=by simpa using e
  have e1:=hid e
  clear e
  by_cases e:sb=0
  case neg=>
   have d2:(sb==0)=false:=by simpa using e
   have E:=hid e
   clear e
   go_enter Try.func13,Try.ntmps13
   go_wp2
   go_ret
   exact⟨by simp [E.out],HB.out⟩
  have d2:(sb==0)=true:=by simpa using e
  have e2:=hid e
  clear e
  by_cases e:mb=0
  case neg=>
   have d3:(mb==0)=false:=by simpa using e
   have E:=hid e
   clear e
   go_enter Try.func13,Try.ntmps13
   go_wp2
   go_ret
   exact⟨by simp [E.out],HB.out⟩
  have d3:(mb==0)=true:=by simpa using e
  have e3:=hid e
  clear e
  by_cases e:L=0
  case neg=>
   have d4:((L:Int)==0)=false:=by simpa using e
   have E:=hid e
   clear e
   go_enter Try.func13,Try.ntmps13
   go_wp2
   go_ret
   exact⟨by simp [E.out],HB.out⟩
  have d4:((L:Int)==0)=true:=by simpa using e
  have e4:=hid e
  clear e
  go_enter Try.func13,Try.ntmps13
  go_wp2
  go_ret
  exact⟨by simp [e0.out,e1.out,e2.out,e3.out,e4.out],HB.out⟩
 rw[show mayB ⟨false,vb,tb,sb,mb,lb⟩=(highF vb 0 && highF tb 0 && highF sb 0 && highF mb 0 && reqsF lb) from rfl]
 have C1:=hid (fun w=>high12_any vb 0 w)
 have C2:=hid (fun w=>high12_any mb 0 w)
 have C3:=hid (fun w=>MayTip_any tb sb w)
 have C5:=hid (fun W hb=>RefReqs_any u lb W (h.later hb))
 obtain⟨ua,uc,rfl⟩:=h.form
 unfold batVal
 unfold tipVal at C3
 dsimp only
 clear h
 have eo:(highF vb 0 && highF tb 0 && highF sb 0 && highF mb 0 && reqsF lb)=(highF vb 0 && (highF mb 0 && ((highF tb 0 && highF sb 0) && reqsF lb))):=by
  cases highF vb 0<;>cases highF tb 0<;>cases highF sb 0<;>cases highF mb 0<;>rfl
 rw[eo]
 clear eo
 generalize lb.length=L at*
 generalize highF vb 0=H1 at C1 ⊢
 generalize highF mb 0=H2 at C2 ⊢
 generalize (highF tb 0 && highF sb 0)=H3 at C3 ⊢
 generalize reqsF lb=H5 at C5 ⊢
 cases H1
 case false=>
  go_enter Try.func13,Try.ntmps13
  go_wp2_with fail
  refine(C1.out _).mono ?_
  rintro e w1 ⟨rfl,rfl⟩
  go_wp2
  go_ret
  exact⟨by simp,HB.out⟩
 cases H2
 case false=>
  go_enter Try.func13,Try.ntmps13
  go_wp2_with fail
  refine(C1.out _).mono ?_
  rintro e w1 ⟨rfl,rfl⟩
  go_wp2_with fail
  refine(C2.out _).mono ?_
  rintro e w1 ⟨rfl,rfl⟩
  go_wp2
  go_ret
  exact⟨by simp,HB.out⟩
 cases H3
 case false=>
  go_enter Try.func13,Try.ntmps13
  go_wp2_with fail
  refine(C1.out _).mono ?_
  rintro e w1 ⟨rfl,rfl⟩
  go_wp2_with fail
  refine(C2.out _).mono ?_
  rintro e w1 ⟨rfl,rfl⟩
  go_wp2_with fail
  refine(C3.out _).mono ?_
  rintro e w1 ⟨rfl,hb1⟩
  obtain⟨k0,k1,k2,k3,k4,k5⟩:=box6b hb1
  go_wp2
  go_ret
  exact⟨by simp,step HB.out hb1⟩
 go_enter Try.func13,Try.ntmps13
 go_wp2_with fail
 refine(C1.out _).mono ?_
 rintro e w1 ⟨rfl,rfl⟩
 go_wp2_with fail
 refine(C2.out _).mono ?_
 rintro e w1 ⟨rfl,rfl⟩
 go_wp2_with fail
 refine(C3.out _).mono ?_
 rintro e w1 ⟨rfl,hb1⟩
 obtain⟨k0,k1,k2,k3,k4,k5⟩:=box6b hb1
 go_wp2_with (go_at_call 35;refine(C5.out _ (step HB.out hb1)).mono ?_;rintro e w2 ⟨rfl,hb2⟩)
 go_ret
 exact⟨by simp,step (step HB.out hb1) hb2⟩
end Cm
end Go.Proofs.Ytlaomehfhooiaaa

/- A row of bytes that grows beside others; contract: package batch's Put. -/
set_option linter.unusedVariables false
set_option maxRecDepth 8000
set_option linter.unusedSimpArgs false
namespace Go.Proofs.Ytlaomehfhooiaaa
open Lib (hid)
open Go.RowKit
namespace Cm

structure PB (W1:World) (v:Value) (bs:List UInt8) (wr:World):Prop where
 own:wr.ownsRow W1.heap.size 5 1 v bs.length (cellsOf bs)
 below:Below W1.heap.size W1 wr
structure PN (g:Nat) (o:Obj) (v:Value) (wr:World):Prop where
 at_:wr.heap[g]?=some o
 ne:v.ownBlock≠some g
theorem get_ltB {w:World} {a:Nat} {o:Obj} (h:w.heap[a]?=some o):a<w.heap.size:=(Array.getElem?_eq_some_iff.1 h).1
theorem PB.later {W1 wr wx:World} {v:Value} {bs:List UInt8} (h:PB W1 v bs wr) (hb:Below wr.heap.size wr wx):PB W1 v bs wx:=
 ⟨Rw.own_below h.own hb,h.below.trans (hb.mono h.below.size)⟩
theorem PN.later {g:Nat} {o:Obj} {wr wx:World} {v:Value} (h:PN g o v wr) (hb:Below wr.heap.size wr wx):PN g o v wx:=
 ⟨(hb.block _ (get_ltB h.at_)).trans h.at_,h.ne⟩
theorem PB.push {W1 wr wx:World} {v v':Value} {bs cs:List UInt8} (h:PB W1 v bs wr) (ho:wx.ownsRow W1.heap.size 5 1 v' (bs.length+cs.length) (cellsOf bs++cellsOf cs)) (hg:wr.grownBy wx v.ownBlock):PB W1 v' (bs++cs) wx:=by
 refine⟨?_,h.below.grown hg h.below.size (fun k hk=>(Rw.own_lt h.own k hk).1)⟩
 rw[List.length_append,cellsOf_append]
 exact ho
theorem PN.push {g:Nat} {o:Obj} {wr wx:World} {v v':Value} (h:PN g o v wr) (hg:wr.grownBy wx v.ownBlock) (hat:v'.ownBlock=v.ownBlock\/v'.ownBlock=some wr.heap.size):PN g o v' wx:=by
 refine⟨(hg.block g (get_ltB h.at_) (fun q=>h.ne q.symm)).trans h.at_,?_⟩
 rcases hat with q | q
 ·rw[q];exact h.ne
 ·rw[q]
  intro e
  injection e with e
  have:=get_ltB h.at_
  omega
theorem PN.new (w:World) (o:Obj) (H:Nat) (v:Value) (hH:w.heap.size=H) (hv:v.ownBlock≠some H):PN H o v (w.alloc o):=by
 subst hH
 refine⟨?_,hv⟩
 show(w.heap.push o)[w.heap.size]?= _
 simp
theorem PB.ne_new {W1 wr:World} {v:Value} {bs:List UInt8} (h:PB W1 v bs wr):v.ownBlock≠some wr.heap.size:=fun q=>by
 have:=(Rw.own_lt h.own _ q).2
 omega
theorem PB.start (W1:World) (bs:List UInt8) (cs:Array Value) (hc:cs.toList=cellsOf bs) (hm:bs.length<=maxLen):PB W1 (.slice (some ⟨W1.heap.size,0,none⟩) bs.length bs.length) bs (W1.alloc (.cells cs 5)):=
 ⟨owns_lit W1 cs bs hc hm,newAlloc _ _⟩
theorem PB.rd {W1 wr:World} {v:Value} {bs:List UInt8} (h:PB W1 v bs wr):Rd wr v bs:=Rd.own h.own
theorem bytesNs_take_succ (a b c d:Int) (k:Nat) (hk:k<4):bytesNs ([a,b,c,d].take (k+1))=bytesNs ([a,b,c,d].take k)++be8 ([a,b,c,d].getD k 0).toNat :=by
 match k,hk with
 | 0,_ | 1,_ | 2,_ | 3,_=>simp [bytesNs]
theorem bytesRs_take_succ (l:List ReqV) (k:Nat) (h:k<l.length):bytesRs (l.take (k+1))=bytesRs (l.take k)++bytesR l[k]:=by
 rw[List.take_succ_eq_append_getElem h,bytesRs_snoc]
theorem PutReqB_in (r:ReqV) (h:mayR r=true) (w:World):Calls Try.prog 22 #[reqVal r] w (MadeS (bytesR r,0) w):=by
 refine(PutReq_any r w).mono fun e w' q=>?_
 unfold putR at q
 rw[if_pos h] at q
 exact Made.s q
theorem cell_at {w:World} {g:Nat} {cs:Array Value} {t:TypeId} (h:w.heap[g]?=some (.cells cs t)) (k:Nat):w.cell? ⟨g,k,none⟩=cs[k]?:=by
 simp [World.cell?,h]
theorem bytesB_plain (v t s m:Int) (l:List ReqV):bytesB ⟨false,v,t,s,m,l⟩=(0::bytesNs [v,t,s,m])++ [UInt8.ofNat l.length]++bytesRs l:=rfl
theorem PB.made {w W1 wr:World} {v:Value} {bs:List UInt8} (h:PB W1 v bs wr) (hb:Below w.heap.size w W1):Made (bs,0) w (.returned (.tuple #[v,.int .i64 0])) wr:=
 ⟨v,rfl,own_lowerX h.own hb.size,hb.trans (h.below.mono hb.size)⟩
set_option maxHeartbeats 8000000 in
theorem PutB_any (b:BatV) (u:Value) (w:World) (h:RdR w u b.reqs):Calls Try.prog 8 #[batVal b u] w (Made (putB b) w):=by
 have CM:=hid (fun W hb=>MayB_any b u W (h.later hb))
 have hmp:=mayB_plain (b:=b)
 have hmf:=mayB_fill (b:=b)
 unfold putB
 cases hm:mayB b
 case false=>
  have HM:=hid hm
  clear hm hmp hmf
  obtain⟨fb,vb,tb,sb,mb,lb⟩:=b
  have HB:=hid (newAlloc w (.cells #[.bool fb,.int .i64 vb,.int .i64 tb,.int .i64 sb,.int .i64 mb,u] 26))
  obtain⟨ua,uc,rfl⟩:=h.form
  unfold batVal at CM ⊢
  dsimp only at CM ⊢
  clear h
  generalize lb.length=L at*
  go_enter Try.func8,Try.ntmps8
  go_wp2_with (go_at_call 12;refine(CM.out _ HB.out).mono ?_;rw[HM.out];rintro e w1 ⟨rfl,hb1⟩)
  go_ret2
  exact⟨_,rfl,World.ownsRow_nil _ _ _ _,step HB.out hb1⟩
 rw[if_pos rfl]
 have hmp:=hmp hm
 have hmf:=hmf hm
 have HM:=hid hm
 clear hm
 obtain⟨fb,vb,tb,sb,mb,lb⟩:=b
 have HB:=hid (newAlloc w (.cells #[.bool fb,.int .i64 vb,.int .i64 tb,.int .i64 sb,.int .i64 mb,u] 26))
 cases fb
 case true=>
  rw[show bytesB ⟨true,vb,tb,sb,mb,lb⟩= [1] from rfl]
  obtain⟨ua,uc,rfl⟩:=h.form
  unfold batVal at CM ⊢
  dsimp only at CM ⊢
  clear h hmp hmf
  generalize lb.length=L at*
  go_enter Try.func8,Try.ntmps8
  go_wp2_with (go_at_call 12;refine(CM.out _ HB.out).mono ?_;rw[HM.out];rintro e w1 ⟨rfl,hb1⟩;obtain⟨k0,k1,k2,k3,k4,k5⟩:=box6b hb1)
  go_ret2
  exact(PB.start w1 [1] _ (by simp [cellsOf]) (by simp [maxLen])).made (step HB.out hb1)
 obtain⟨h1,h2,h3, -⟩:=hmp rfl
 clear hmf
 rw[bytesB_plain]
 dsimp only at h h1 h2 h3
 have hx: ∀k,k<4->0<= [vb,tb,sb,mb].getD k 0/\ [vb,tb,sb,mb].getD k 0<=2305843009213693952:=by
  have hm:=HM.out
  rw[show mayB ⟨false,vb,tb,sb,mb,lb⟩=(highF vb 0 && highF tb 0 && highF sb 0 && highF mb 0 && reqsF lb) from rfl] at hm
  simp [highF] at hm
  intro k hk
  match k,hk with
  | 0,_ | 1,_ | 2,_ | 3,_=>simp;omega
 have HP:=hid (fun k (hk:k<4) w=>PutNum_in ([vb,tb,sb,mb].getD k 0) w (hx k hk).1 (hx k hk).2)
 have HN:=hid (bytesNs_take_succ vb tb sb mb)
 have HR:=hid (fun k (hk:k<lb.length)=>bytesRs_take_succ lb k hk)
 have HQ:=hid (fun k (hk:k<lb.length) w=>PutReqB_in lb[k] (h3 _ (List.getElem_mem hk)) w)
 have HL:Hid (∀k,(bytesRs (lb.take k)).length <=93):=hid fun k=>by
  have a1:=bytesRs_le (lb.take k) (fun r hr=>h3 r (List.mem_of_mem_take hr))
  have a2:(lb.take k).length <=3:=by rw[List.length_take];omega
  omega
 have HT:Hid (lb.take lb.length=lb):=hid (List.take_length)
 obtain⟨ua,uc,rfl⟩:=h.form
 have HA:=hid (fun i hi=>rdr_at h i hi)
 unfold batVal at CM ⊢
 dsimp only at CM ⊢
 have hLw:IntKind.u8.wrap (lb.length:Int)=(lb.length:Int):=by rw[IntKind.wrap_u8];omega
 clear h h1 h3 hx hmp
 obtain⟨L,hL⟩: ∃L,lb.length=L:=⟨_,rfl⟩
 have HLL:=hid hL
 rw[hL] at h2 CM HB HT hLw ⊢
 clear hL
 obtain⟨i0,hi,hz0,hz1,hz2⟩:=info_parts info8
 go_enter Try.func8,Try.ntmps8
 go_upto_region 5 with (go_at_call 12;refine(CM.out _ HB.out).mono ?_;rw[HM.out];rintro e w1 ⟨rfl,hb1⟩;obtain⟨k0,k1,k2,k3,k4,k5⟩:=box6b hb1)
 have HX:Hid (∀W,Below w1.heap.size w1 W->W.cell? ⟨w.heap.size,0,none⟩=some (.bool false)/\W.cell? ⟨w.heap.size,1,none⟩=some (.int .i64 vb)/\W.cell? ⟨w.heap.size,2,none⟩=some (.int .i64 tb)/\W.cell? ⟨w.heap.size,3,none⟩=some (.int .i64 sb)/\W.cell? ⟨w.heap.size,4,none⟩=some (.int .i64 mb)/\W.cell? ⟨w.heap.size,5,none⟩=some (.slice ua L uc)):=hid fun W hb=>box6b (step hb1 hb)
 have HB1:=hid (step HB.out hb1)
 have HP0:=hid (PB.start w1 [0] #[.int .u8 0] (by simp [cellsOf]) (by simp [maxLen]))
 obtain⟨k0,k1,k2,k3,k4,k5⟩:=HX.out _ HP0.out.below
 clear hb1
 go_upto_region 6 with fail
 have HP1:=hid (HP0.out.later (newAlloc _ (.cells #[.int .i64 vb,.int .i64 tb,.int .i64 sb,.int .i64 mb] 3)))
 have HG0:=hid (PN.new (w1.alloc (.cells #[.int .u8 0] 5)) (.cells #[.int .i64 vb,.int .i64 tb,.int .i64 sb,.int .i64 mb] 3) (w1.heap.size+1) (.slice (some ⟨w1.heap.size,0,none⟩) 1 1) (by simp) (by simp [Value.ownBlock]))
 clear CM
 go_wp2_with fail
 clear k0 k1 k2 k3 k4 k5
 generalize hW2:((w1.alloc (.cells #[.int .u8 0] 5)).alloc (.cells #[.int .i64 vb,.int .i64 tb,.int .i64 sb,.int .i64 mb] 3))=W2 at HP1 HG0 ⊢
 have hS:w1.heap.size<=W2.heap.size:=HP1.out.below.size
 generalize hG:w1.heap.size+1=G at HG0 ⊢
 clear hG hW2
 go_wp2_with fail
 go_loopw [4,6,7,8,32] (fun v _ _ _ i wr=> ∃(k:Nat),k<=4/\i= .int .i64 (k:Int)/\Hid (PB w1 v (0::bytesNs ([vb,tb,sb,mb].take k)) wr)/\Hid (PN G (.cells #[.int .i64 vb,.int .i64 tb,.int .i64 sb,.int .i64 mb] 3) v wr)) (fun _ _ _ _ i _=>4 - (intOf i).toNat)
 case atStart=>exact⟨0,by omega,rfl,HP1,HG0⟩
 case round=>
  obtain⟨k,hk,rfl,HPk,HGk⟩:=hrel
  by_cases hlt:k<4
  ·have hc:wr.cell? ⟨G,k,none⟩=some (.int .i64 ([vb,tb,sb,mb].getD k 0)):=by
    rw[cell_at HGk.out.at_]
    match k,hlt with
    | 0,_ | 1,_ | 2,_ | 3,_=>rfl
   have CK:=hid (HP.out k hlt)
   have hn:=HN.out k hlt
   generalize [vb,tb,sb,mb].getD k 0=x at hc CK hn
   have hl:(bytesNs ([vb,tb,sb,mb].take k)).length <=32:=by rw[bytesNs_length,List.length_take];omega
   have HNK:=hid hn
   clear hn
   obtain⟨va,vc,hv⟩:=Rw.own_form HPk.out.own
   have HS:=hid (show 0::bytesNs ([vb,tb,sb,mb].take (k+1))=(0::bytesNs ([vb,tb,sb,mb].take k))++be8 x.toNat by rw[HNK.out];simp)
   have hl2:(0::bytesNs ([vb,tb,sb,mb].take k)).length <=33:=by rw[List.length_cons];omega
   clear HP HN hl HNK
   generalize 0::bytesNs ([vb,tb,sb,mb].take k)=bs at HPk HS hl2 hv
   subst hv
   go_wp2_with (first
    | (go_at_call 21;refine(CK.out _).mono ?_;rintro e w3 ⟨a3,l3,d3,rfl,hr3,hb3⟩;have HP3:=hid (HPk.out.later hb3);have HG3:=hid (HGk.out.later hb3))
    | (at_builtin;refine Rw.wpList_append_rd_at rfl _ _ 27 rfl w1.heap.size 5 i0 Try.underlying27 hi hz0 hz1 hz2 _ bs.length (cellsOf bs) rfl HP3.out.own _ (be8 x.toNat) rfl hr3 (by rw[be8_length];omega) HP3.out.below.size ?_;intro v4 w4 hown4 hgrow4 hat4))
   go_roundw
   case rel=>exact⟨k+1,by omega,by go_num,hid (by rw[HS.out];exact HP3.out.push hown4 hgrow4),hid (HG3.out.push hgrow4 hat4)⟩
   case measure=>simp [intOf];omega
  ·obtain rfl:k=4:=by omega
   have HP4:Hid (PB w1 u4 (0::bytesNs [vb,tb,sb,mb]) wr):=HPk
   clear HPk HGk HP HN HP1 HG0 HP0
   obtain⟨va,vc,hv⟩:=Rw.own_form HP4.out.own
   have hl4:(0::bytesNs [vb,tb,sb,mb]).length =33:=by rw[List.length_cons,bytesNs_length];rfl
   rw[hl4] at hv
   have hbs: ∀(l:UInt8) (R:List UInt8),0::(bytesNs [vb,tb,sb,mb]++ [l]++R)=(0::bytesNs [vb,tb,sb,mb])++ [l]++R:=fun l R=>by simp
   generalize 0::bytesNs [vb,tb,sb,mb]=bs at HP4 hl4 hbs
   have HBS:=hid (hbs (UInt8.ofNat L))
   clear hbs
   have HL4:=hid hl4
   subst hv
   clear hl4
   obtain⟨k0,k1,k2,k3,k4,k5⟩:=HX.out _ (HP4.out.later (newAlloc wr (.cells #[.int .u8 (L:Int)] 5))).below
   obtain⟨x0,x1,x2,x3,x4,x5⟩:=HX.out _ HP4.out.below
   have hrd:Rd (wr.alloc (.cells #[.int .u8 (L:Int)] 5)) (.slice (some ⟨wr.heap.size,0,none⟩) 1 1) [UInt8.ofNat L]:=
    Rd.own (owns_lit wr #[.int .u8 (L:Int)] [UInt8.ofNat L] (by simp [cellsOf];omega) (by simp [maxLen]))
   have HP5:=hid (HP4.out.later (newAlloc wr (.cells #[.int .u8 (L:Int)] 5)))
   have ho5:(wr.alloc (.cells #[.int .u8 (L:Int)] 5)).ownsRow w1.heap.size 5 1 (.slice va 33 vc) 33 (cellsOf bs):=by
    have:=HP5.out.own
    rw[HL4.out] at this
    exact this
   have HO5:=hid ho5
   have HRD:=hid hrd
   clear ho5 hrd
   have hz5:w1.heap.size<=(wr.alloc (.cells #[.int .u8 (L:Int)] 5)).heap.size :=HP5.out.below.size
   go_wp2_with (at_builtin;refine wpList_append_rd rfl _ _ 27 rfl w1.heap.size 5 i0 Try.underlying27 hi hz0 hz1 hz2 _ 33 (cellsOf bs) rfl HO5.out _ [UInt8.ofNat L] rfl HRD.out (by simp) hz5 ?_;intro v6 w6 hown6 hgrow6;have HP6:=hid (PB.push (cs:= [UInt8.ofNat L]) HP5.out (by rw[HL4.out];exact hown6) hgrow6);obtain⟨y0,y1,y2,y3,y4,y5⟩:=HX.out _ HP6.out.below)
   clear k0 k1 k2 k3 k4 k5 x0 x1 x2 x3 x4 x5 HP5 HO5 HRD hz5 hown6 hgrow6 HP4 y0 y1 y2 y3 y4 y5
   have HL6:Hid ((bs++ [UInt8.ofNat L]).length =34):=hid (by rw[List.length_append,HL4.out];rfl)
   generalize bs++ [UInt8.ofNat L]=hd at HP6 HL6 HBS
   clear HL4
   go_loopw [4,10,11,12,55] (fun v _ _ _ i wx=> ∃(k:Nat),k<=L/\i= .int .i64 (k:Int)/\Hid (PB w1 v (hd++bytesRs (lb.take k)) wx)) (fun _ _ _ _ i _=>L - (intOf i).toNat)
   case atStart=>exact⟨0,by omega,rfl,hid (by simpa [bytesRs] using HP6.out)⟩
   case round=>
    obtain⟨k,hk,rfl,HPk⟩:=hrel
    by_cases hlt:k<L
    ·have hkl:k<lb.length:=by rw[HLL.out];exact hlt
     obtain⟨rb,ro,rfl,hc⟩:=HA.out k hkl
     obtain⟨q0,q1,q2,q3,q4⟩:=hc _ (step HB1.out HPk.out.below)
     have cq:=HQ.out k hkl
     have hr:=HR.out k hkl
     have hb31:(bytesR lb[k]).length <=31:=by
      have a1:=HL.out (k+1)
      have a2:mayR lb[k]=true:=by
       have:=HM.out
       rw[show mayB ⟨false,vb,tb,sb,mb,lb⟩=(highF vb 0 && highF tb 0 && highF sb 0 && highF mb 0 && reqsF lb) from rfl] at this
       simp only[Bool.and_eq_true,reqsF] at this
       exact okR_may lb [] this.2.2 _ (List.getElem_mem hkl)
      have a3:=(may_bounds _ (mayR_bounds _ a2).2.2).2.2
      rw[bytesR_length]
      omega
     have hlk:=HL.out k
     have hl6:(hd++bytesRs (lb.take k)).length <=127:=by rw[List.length_append,HL6.out];omega
     clear HA HQ HR HL HLL hc HP6
     generalize lb[k]=x at q0 q1 q2 q3 q4 cq hr hb31
     have HS:=hid (show hd++bytesRs (lb.take (k+1))=(hd++bytesRs (lb.take k))++bytesR x by rw[hr,List.append_assoc])
     clear hr hlk hkl
     obtain⟨ka,kc,hv⟩:=Rw.own_form HPk.out.own
     generalize hd++bytesRs (lb.take k)=ks at HPk HS hl6 hv
     subst hv
     obtain⟨xc,xs,xk,xn,xm⟩:=x
     unfold reqVal at cq
     dsimp only at q0 q1 q2 q3 q4 cq
     have CQ:=hid cq
     clear cq
     generalize bytesR ⟨xc,xs,⟨xk,xn,xm⟩⟩=rbs at CQ HS hb31
     go_wp2_with (first
      | (go_at_call 22;refine(CQ.out _).mono ?_;rintro e w7 ⟨a7,l7,d7,rfl,hr7,hb7⟩;have HP7:=hid (HPk.out.later (step (newAlloc _ _) hb7)))
      | (at_builtin;refine wpList_append_rd rfl _ _ 27 rfl w1.heap.size 5 i0 Try.underlying27 hi hz0 hz1 hz2 _ ks.length (cellsOf ks) rfl HP7.out.own _ rbs rfl hr7 (by omega) HP7.out.below.size ?_;intro v8 w8 hown8 hgrow8))
     go_roundw
     case rel=>exact⟨k+1,by omega,by go_num,hid (by rw[HS.out];exact HP7.out.push hown8 hgrow8)⟩
     case measure=>simp [intOf];omega
    ·obtain rfl:k=L:=by omega
     have hP:=HPk.out
     rw[HT.out] at hP
     have HPL:=hid hP
     clear hP HPk HP6
     go_wp2
     go_ret2
     rw[HBS.out]
     exact HPL.out.made HB1.out
end Cm
end Go.Proofs.Ytlaomehfhooiaaa
